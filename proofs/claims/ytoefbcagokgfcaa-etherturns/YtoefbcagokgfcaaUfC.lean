import Derived.Test.YtoefbcagokgfcaaPack27
namespace Go.Proofs.Ytoefbcagokgfcaa
open Go.RowKit
set_option maxRecDepth 8000
/-- two networks beside one another and beside all that was there -/
structure St (W w : World) (K : Nat → Prop) (a b : Nat) (A B : List FA) : Prop where
  tw : Tw w K a b A B
  lo : ∀ k, k < W.heap.size → K k
  bel : Below W.heap.size W w
section
variable {W w w' : World} {K : Nat → Prop} {a b : Nat} {A B A' B' : List FA}
theorem St.below (h : St W w K a b A B) (hb : Below w.heap.size w w') : St W w' K a b A B := ⟨h.tw.below hb, h.lo, h.bel.trans (hb.mono h.bel.size)⟩
theorem St.more (h : St W w K a b A B) (hb : Below w.heap.size w w') : St W w' (fun k => K k ∨ Bt w.heap.size w'.heap.size k) a b A B := ⟨h.tw.more hb, fun k hk => .inl (h.lo k hk), h.bel.trans (hb.mono h.bel.size)⟩
theorem St.drew (h : St W w K a b A B) : St W w.drew K a b A B := h.below (Below.refl _ _).drew
theorem St.swap (h : St W w K a b A B) : St W w K b a B A := ⟨h.tw.swap, h.lo, h.bel⟩
theorem St.q (h : St W w K a b A B) (hq : TwQ w w' K a b A' B') : St W w' K a b A' B' := ⟨hq.1, h.lo, h.bel.trans ((hq.2.less h.lo).lo h.bel.size)⟩
theorem FlsK.below {p : Option Addr} (h : FlsK w K p A) (hb : Below w.heap.size w w') : FlsK w' K p A := h.fr (Fr.below hb)
theorem FlsK.drew {p : Option Addr} (h : FlsK w K p A) : FlsK w.drew K p A := h.below (Below.refl _ _).drew
/-- may this bit of the packet be turned -/
def flB (x : FA) (bit : Int) : Bool := decide (0 ≤ bit ∧ bit / 8 < (x.zs.length : Int))
def flA (A : List FA) (n : Nat) (x : FA) (bit : Int) : List FA := if flB x bit then A.set n (x.flip bit.toNat) else A
theorem flA_len (A : List FA) (n : Nat) (x : FA) (bit : Int) : (flA A n x bit).length = A.length := by unfold flA; split <;> simp
theorem st_flip (h : St W w K a b A B) (n : Nat) (bit : Int) (hb : bit ≤ 9223372036854775807) {x : FA} (hx : A[n]? = some x) :
    Calls Try.prog 19 #[.pointer (some ⟨a, 0, none⟩), .int .i64 (n : Int), .int .i64 bit] w fun e w' => e = .returned (.bool (flB x bit)) ∧ St W w' K a b (flA A n x bit) B ∧ Fr K w w' := by
  have hn : n < A.length := by
    rcases Nat.lt_or_ge n A.length with h1 | h1
    · exact h1
    · rw [List.getElem?_eq_none h1] at hx; cases hx
  have hin : inA (n : Int) A.length := ⟨by omega, by omega⟩
  by_cases hc : 0 ≤ bit ∧ bit / 8 < (x.zs.length : Int)
  · have hf : flB x bit = true := decide_eq_true hc
    have hcan : canF A (n : Int) bit := ⟨hin, hc.1, fun y hy => by rw [Int.toNat_natCast, hx] at hy; cases hy; exact hc.2⟩
    refine (tw_flip h.tw (n : Int) bit hb hcan (x := x) (by rw [Int.toNat_natCast]; exact hx)).mono ?_
    rintro e w' ⟨rfl, hq⟩
    rw [Int.toNat_natCast] at hq
    refine ⟨by rw [hf], ?_, hq.2⟩
    unfold flA
    rw [hf, if_pos rfl]
    exact h.q hq
  · have hf : flB x bit = false := decide_eq_false hc
    have hcan : ¬ canF A (n : Int) bit := fun hh => hc ⟨hh.2.1, hh.2.2 x (by rw [Int.toNat_natCast]; exact hx)⟩
    refine (tw_flip_no h.tw (n : Int) bit hb hcan).mono ?_
    rintro e w' ⟨rfl, hq⟩
    refine ⟨by rw [hf], ?_, hq.2⟩
    unfold flA
    rw [hf, if_neg (by simp)]
    exact h.q hq
theorem st_flip_no (h : St W w K a b A B) (i bit : Int) (hb : bit ≤ 9223372036854775807) (hi : ¬ inA i A.length) :
    Calls Try.prog 19 #[.pointer (some ⟨a, 0, none⟩), .int .i64 i, .int .i64 bit] w fun e w' => e = .returned (.bool false) ∧ St W w' K a b A B ∧ Fr K w w' :=
  (tw_flip_no h.tw i bit hb (fun hh => hi hh.1)).mono fun _ _ ⟨he, hq⟩ => ⟨he, h.q hq, hq.2⟩
theorem st_drop (h : St W w K a b A B) (n : Nat) (hn : n < A.length) :
    Calls Try.prog 23 #[.pointer (some ⟨a, 0, none⟩), .int .i64 (n : Int)] w fun e w' => e = .returned (.bool true) ∧ St W w' K a b (A.eraseIdx n) B ∧ Fr K w w' :=
  (tw_drop h.tw (n : Int) ⟨by omega, by omega⟩).mono fun _ _ ⟨he, hq⟩ => ⟨he, by rw [Int.toNat_natCast] at hq; exact h.q hq, hq.2⟩
theorem st_drop_no (h : St W w K a b A B) (i : Int) (hi : ¬ inA i A.length) :
    Calls Try.prog 23 #[.pointer (some ⟨a, 0, none⟩), .int .i64 i] w fun e w' => e = .returned (.bool false) ∧ St W w' K a b A B ∧ Fr K w w' :=
  (tw_drop_no h.tw i hi).mono fun _ _ ⟨he, hq⟩ => ⟨he, h.q hq, hq.2⟩
theorem st_copy (h : St W w K a b A B) (n : Nat) {x : FA} (hx : A[n]? = some x) (hl : A.length < 256) :
    Calls Try.prog 15 #[.pointer (some ⟨a, 0, none⟩), .int .i64 (n : Int)] w fun e w' => e = .returned (.int .i64 0) ∧ St W w' K a b (A ++ [x]) B ∧ Fr K w w' := by
  have hn : n < A.length := by
    rcases Nat.lt_or_ge n A.length with h1 | h1
    · exact h1
    · rw [List.getElem?_eq_none h1] at hx; cases hx
  refine (tw_copy h.tw (n : Int) (by unfold copyE; rw [if_neg (by omega), if_neg (by omega)]) (x := x) (by rw [Int.toNat_natCast]; exact hx)).mono fun _ _ ⟨he, hq⟩ => ⟨he, h.q hq, hq.2⟩
theorem st_copy_no (h : St W w K a b A B) (i : Int) (hi : ¬ inA i A.length) :
    Calls Try.prog 15 #[.pointer (some ⟨a, 0, none⟩), .int .i64 i] w fun e w' => e = .returned (.int .i64 224) ∧ St W w' K a b A B ∧ Fr K w w' :=
  (tw_copy_no h.tw i (x := 224) (by unfold copyE; exact if_pos hi) (by omega)).mono fun _ _ ⟨he, hq⟩ => ⟨he, h.q hq, hq.2⟩
theorem st_list (h : St W w K a b A B) :
    Calls Try.prog 13 #[.pointer (some ⟨a, 0, none⟩)] w fun e w' => ∃ g K', e = .returned (.slice (some ⟨g, 0, none⟩) A.length A.length) ∧ (∀ k, K k → K' k) ∧ FlsK w' K' (some ⟨g, 0, none⟩) A ∧ St W w' K' a b A B ∧ Fr K w w' :=
  (tw_list h.tw).mono fun _ _ ⟨g, he, hl, ht, hb⟩ => ⟨g, _, he, fun _ hk => .inl hk, hl, ⟨ht, fun k hk => .inl (h.lo k hk), h.bel.trans (hb.mono h.bel.size)⟩, Fr.below hb⟩
theorem st_deliver (h : St W w K a b A B) (n : Nat) {x : FA} (hx : A[n]? = some x) :
    Calls Try.prog 11 #[.pointer (some ⟨a, 0, none⟩), .int .i64 (n : Int)] w fun e w' => ∃ d K', e = .returned (.tuple #[.agg #[.int .i64 x.fr, .int .i64 x.tt, .slice (some ⟨d, 0, none⟩) x.zs.length x.zs.length], .bool true]) ∧ (∀ k, K k → K' k) ∧ K' d ∧ Box w' d (bys x.zs) 5 ∧ St W w' K' a b (A.eraseIdx n) B ∧ Fr K w w' := by
  have hn : n < A.length := by
    rcases Nat.lt_or_ge n A.length with h1 | h1
    · exact h1
    · rw [List.getElem?_eq_none h1] at hx; cases hx
  obtain ⟨⟨Za, Zb, h1, h2, h3, h4, h5, h6, h7⟩, hlo, hbel⟩ := h
  refine (deliver_any w Za a 3 A h1 h6 (n : Int)).mono fun e w' hq => ?_
  obtain ⟨y, d, hy, he, hd, hbx, hE, hF⟩ := hq.2 ⟨by omega, by omega⟩
  rw [Int.toNat_natCast] at hy hE
  rw [hx] at hy
  cases hy
  have hs := hF.size
  refine ⟨d, fun k => K k ∨ k = d, he, fun _ hk => .inl hk, .inr rfl, hbx, ⟨⟨fun k => Za k ∨ k = d, fun k => Zb k ∨ Bt w.heap.size w'.heap.size k, hE, h2.but (hF.mono fun k hk hz => (h5 k hk).resolve_left hz) (fun k hk hz => hz.resolve_right (fun e => by have := e.1; omega)), fun k hk => hk.imp (h3 k) id, fun k hk => ?_, fun k hk => ?_, fun k hk => ?_, fun k hk => ?_⟩, fun k hk => .inl (hlo k hk), hbel.trans ((hF.less fun k hk => h3 k (hlo k hk)).lo hbel.size)⟩, hF.less h3⟩
  · rcases hk with hk | rfl
    · exact .inl (h4 k hk)
    · exact .inr ⟨hd, hbx.lt⟩
  · by_cases hkw : k < w.heap.size
    · exact (h5 k hkw).imp .inl .inl
    · exact .inr (.inr ⟨by omega, hk⟩)
  · rcases hk with hk | rfl
    · exact Nat.lt_of_lt_of_le (h6 k hk) hs
    · exact hbx.lt
  · rcases hk with hk | hk
    · exact Nat.lt_of_lt_of_le (h7 k hk) hs
    · exact hk.2
theorem st_deliver_no (h : St W w K a b A B) (i : Int) (hi : ¬ inA i A.length) :
    Calls Try.prog 11 #[.pointer (some ⟨a, 0, none⟩), .int .i64 i] w fun e w' => e = .returned (.tuple #[.agg #[.int .i64 0, .int .i64 0, .slice none 0 0], .bool false]) ∧ St W w' K a b A B ∧ Fr K w w' := by
  have hh := h
  obtain ⟨⟨Za, Zb, h1, h2, h3, h4, h5, h6, h7⟩, hlo, hbel⟩ := h
  have hC : Calls Try.prog 11 #[.pointer (some ⟨a, 0, none⟩), .int .i64 i] w fun e w' => e = .returned (.tuple #[.agg #[.int .i64 0, .int .i64 0, .slice none 0 0], .bool false]) ∧ TwQ w w' K a b A B :=
    hh.tw.one (fun Z hE hZ => deliver_any w Z a 3 A hE hZ i) fun _ _ _ hq => hq.1 hi
  exact hC.mono fun _ _ ⟨he, hq⟩ => ⟨he, hh.q hq, hq.2⟩
/-- two networks made of the same packets -/
theorem st_start {D : List FA} {w1 w2 w3 : World} (h1 : Below W.heap.size W w1) (ha : En w1.heap.size w1 w2 a 3 D) (hb : En w2.heap.size w2 w3 b 3 D) : St W w3 (fun k => k < w1.heap.size) a b D D := by
  have s1 := ha.bel.size
  have s2 := hb.bel.size
  have s0 := h1.size
  refine ⟨⟨fun k => k < w1.heap.size ∨ Bt w2.heap.size w3.heap.size k, fun k => k < w2.heap.size, ?_, hb.et, fun k hk => .inl hk, fun k hk => by omega, fun k hk => ?_, fun k hk => ?_, fun k hk => by omega⟩, fun k hk => by omega, (h1.trans (ha.bel.mono s0)).trans (hb.bel.mono (by omega))⟩
  · exact ha.et.below hb.bel fun k hk hz => hz.resolve_right (fun e => by have := e.1; omega)
  · by_cases h : k < w2.heap.size
    · exact .inr h
    · exact .inl (.inr ⟨by omega, hk⟩)
  · rcases hk with hk | hk
    · omega
    · exact hk.2
end
end Go.Proofs.Ytoefbcagokgfcaa
