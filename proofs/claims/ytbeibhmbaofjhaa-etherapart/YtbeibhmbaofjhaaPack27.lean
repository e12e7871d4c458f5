import Derived.Test.YtbeibhmbaofjhaaUfA
import Derived.Test.YtbeibhmbaofjhaaPack26
import Derived.Test.YtbeibhmbaofjhaaPack23
namespace Go.Proofs.Ytbeibhmbaofjhaa
open Go.RowKit
set_option maxRecDepth 8000
/-- two networks beside one another; nothing of K is theirs -/
def Tw (w : World) (K : Nat → Prop) (a b : Nat) (A B : List FA) : Prop := ∃ Za Zb : Nat → Prop, EtA w Za a 3 A ∧ EtA w Zb b 3 B ∧ (∀ k, K k → Za k) ∧ (∀ k, K k → Zb k) ∧ (∀ k, k < w.heap.size → Za k ∨ Zb k) ∧ (∀ k, Za k → k < w.heap.size) ∧ (∀ k, Zb k → k < w.heap.size)
/-- behind a call -/
def TwQ (w w' : World) (K : Nat → Prop) (a b : Nat) (A B : List FA) : Prop := Tw w' K a b A B ∧ Fr K w w'
section
variable {w w' : World} {K : Nat → Prop} {a b : Nat} {A B A' B' : List FA}
theorem Tw.swap (h : Tw w K a b A B) : Tw w K b a B A := by
  obtain ⟨Za, Zb, h1, h2, h3, h4, h5, h6, h7⟩ := h
  exact ⟨Zb, Za, h2, h1, h4, h3, fun k hk => (h5 k hk).symm, h7, h6⟩
theorem TwQ.swap (h : TwQ w w' K a b A B) : TwQ w w' K b a B A := ⟨h.1.swap, h.2⟩
theorem Tw.less {K' : Nat → Prop} (h : Tw w K a b A B) (hk : ∀ k, K' k → K k) : Tw w K' a b A B := by
  obtain ⟨Za, Zb, h1, h2, h3, h4, h5⟩ := h
  exact ⟨Za, Zb, h1, h2, fun k hh => h3 k (hk k hh), fun k hh => h4 k (hk k hh), h5⟩
theorem Tw.more (h : Tw w K a b A B) (hb : Below w.heap.size w w') : Tw w' (fun k => K k ∨ Bt w.heap.size w'.heap.size k) a b A B := by
  obtain ⟨Za, Zb, h1, h2, h3, h4, h5, h6, h7⟩ := h
  have hs := hb.size
  have low : ∀ {Z : Nat → Prop}, (∀ k, Z k → k < w.heap.size) → ∀ k, (Z k ∨ Bt w.heap.size w'.heap.size k) → k < w'.heap.size := fun hz k hk => by
    rcases hk with hk | hk
    · have := hz k hk; omega
    · exact hk.2
  have back : ∀ {Z : Nat → Prop} k, k < w.heap.size → (Z k ∨ Bt w.heap.size w'.heap.size k) → Z k := fun k hk hz => hz.resolve_right (fun e => by have := e.1; omega)
  refine ⟨fun k => Za k ∨ Bt w.heap.size w'.heap.size k, fun k => Zb k ∨ Bt w.heap.size w'.heap.size k, h1.below hb back, h2.below hb back, fun k hk => hk.imp (h3 k) id, fun k hk => hk.imp (h4 k) id, fun k hk => ?_, low h6, low h7⟩
  by_cases hkw : k < w.heap.size
  · exact (h5 k hkw).imp .inl .inl
  · exact .inl (.inr ⟨by omega, hk⟩)
theorem Tw.below (h : Tw w K a b A B) (hb : Below w.heap.size w w') : Tw w' K a b A B := (h.more hb).less fun _ hk => .inl hk
theorem Tw.drew (h : Tw w K a b A B) : Tw w.drew K a b A B := h.below (Below.refl _ _).drew
theorem Tw.len (h : Tw w K a b A B) : A.length ≤ 256 := by
  obtain ⟨Za, Zb, h1, _⟩ := h
  exact h1.len
theorem Tw.ok (h : Tw w K a b A B) : ∀ x ∈ A, x.Ok := by
  obtain ⟨Za, Zb, h1, _⟩ := h
  exact h1.ok
/-- a call of the first -/
theorem Tw.one {Q : (Nat → Prop) → Ending → World → Prop} {R : Ending → Prop} {f : Nat} {args : Array Value} (h : Tw w K a b A B) (hC : ∀ Z, EtA w Z a 3 A → (∀ k, Z k → k < w.heap.size) → Calls Try.prog f args w (Q Z)) (hQ : ∀ Z e w', Q Z e w' → R e ∧ EtA w' Z a 3 A' ∧ Fr Z w w') : Calls Try.prog f args w fun e w' => R e ∧ TwQ w w' K a b A' B := by
  obtain ⟨Za, Zb, h1, h2, h3, h4, h5, h6, h7⟩ := h
  refine (hC Za h1 h6).mono fun e w' hq => ?_
  obtain ⟨hr, hE, hF⟩ := hQ Za e w' hq
  have hs := hF.size
  refine ⟨hr, ⟨Za, fun k => Zb k ∨ Bt w.heap.size w'.heap.size k, hE, h2.but (hF.mono fun k hk hz => (h5 k hk).resolve_left hz) (fun k hk hz => hz.resolve_right (fun e => by have := e.1; omega)), h3, fun k hk => .inl (h4 k hk), fun k hk => ?_, fun k hk => Nat.lt_of_lt_of_le (h6 k hk) hs, fun k hk => ?_⟩, hF.less h3⟩
  · by_cases hkw : k < w.heap.size
    · exact (h5 k hkw).imp id .inl
    · exact .inr (.inr ⟨by omega, hk⟩)
  · rcases hk with hk | hk
    · exact Nat.lt_of_lt_of_le (h7 k hk) hs
    · exact hk.2
theorem tw_copy (h : Tw w K a b A B) (i : Int) (hi : copyE i A.length = 0) {x : FA} (hx : A[i.toNat]? = some x) :
    Calls Try.prog 6 #[.pointer (some ⟨a, 0, none⟩), .int .i64 i] w fun e w' => e = .returned (.int .i64 0) ∧ TwQ w w' K a b (A ++ [x]) B :=
  h.one (fun Z hE hZ => copy_any w Z a 3 A hE hZ i) fun _ e w' hq => by
    obtain ⟨he, hq, _, hF⟩ := hq
    obtain ⟨y, hy, hE⟩ := hq hi
    rw [hx] at hy
    cases hy
    rw [hi] at he
    exact ⟨he, hE, hF⟩
theorem tw_copy_no (h : Tw w K a b A B) (i : Int) {x : Int} (hi : copyE i A.length = x) (h0 : x ≠ 0) :
    Calls Try.prog 6 #[.pointer (some ⟨a, 0, none⟩), .int .i64 i] w fun e w' => e = .returned (.int .i64 x) ∧ TwQ w w' K a b A B :=
  h.one (fun Z hE hZ => copy_any w Z a 3 A hE hZ i) fun _ e w' hq => by
    obtain ⟨he, _, hq, hF⟩ := hq
    rw [hi] at he
    exact ⟨he, hq (by rw [hi]; exact h0), hF⟩
/-- a list that was answered, read whatever happens outside K -/
def FlsK (w : World) (K : Nat → Prop) (p : Option Addr) (A : List FA) : Prop := ∀ w', Fr K w w' → FlsR w' p A
theorem FlsK.now {p : Option Addr} (h : FlsK w K p A) : FlsR w p A := h w (Fr.refl _ _)
theorem FlsK.fr {p : Option Addr} (h : FlsK w K p A) (hF : Fr K w w') : FlsK w' K p A := fun w2 h2 => h w2 (hF.trans h2)
theorem FlsK.mono {K' : Nat → Prop} {p : Option Addr} (h : FlsK w K p A) (hk : ∀ k, K k → K' k) : FlsK w K' p A := fun w2 h2 => h w2 (h2.less hk)
theorem tw_list (h : Tw w K a b A B) : Calls Try.prog 8 #[.pointer (some ⟨a, 0, none⟩)] w fun e w' => ∃ g, e = .returned (.slice (some ⟨g, 0, none⟩) A.length A.length) ∧ FlsK w' (fun k => K k ∨ Bt w.heap.size w'.heap.size k) (some ⟨g, 0, none⟩) A ∧ Tw w' (fun k => K k ∨ Bt w.heap.size w'.heap.size k) a b A B ∧ Below w.heap.size w w' := by
  have ht := h
  obtain ⟨Za, Zb, h1, _⟩ := h
  refine (list_any w Za a 3 A h1).mono ?_
  rintro e w' ⟨g, U, rfl, hU, hI, hb⟩
  refine ⟨g, rfl, fun w2 h2 => ?_, ht.more hb, hb⟩
  have hI2 : LsI w2 w.heap.size g U := ⟨hI.bx.but h2 (fun h => h (.inr ⟨hI.new.1, hI.bx.lt⟩)), fun x hx => (hI.dat x hx).but h2 (fun h => h (.inr ⟨hI.new.2 x hx, (hI.dat x hx).lt⟩)), hI.new, hI.pw⟩
  exact hI2.fls hU
/-- parts of a list -/
theorem FlsR.drop {g o : Nat} (h : FlsR w (some ⟨g, o, none⟩) A) (n : Nat) : FlsR w (some ⟨g, o + n * 3, none⟩) (A.drop n) := by
  refine ⟨fun hn => ?_⟩
  have hl : n < A.length := by rw [List.length_drop] at hn; omega
  obtain ⟨b, o', hp, hb, hat⟩ := h.at_ (by omega)
  cases hp
  refine ⟨g, o + n * 3, rfl, hb, fun j x hx => ?_⟩
  rw [List.getElem?_drop] at hx
  have h1 := hat (n + j) x hx
  rw [show o + (n + j) * 3 = o + n * 3 + j * 3 by omega] at h1
  exact h1
theorem FlsR.take {p : Option Addr} (h : FlsR w p A) (n : Nat) : FlsR w p (A.take n) := by
  refine ⟨fun hn => ?_⟩
  have hl : 0 < A.length := by
    rw [List.length_take] at hn
    omega
  obtain ⟨b, o, hp, hb, hat⟩ := h.at_ hl
  refine ⟨b, o, hp, hb, fun j x hx => hat j x ?_⟩
  rw [List.getElem?_take] at hx
  split at hx
  · exact hx
  · cases hx
theorem FlsR.nil (w : World) (p : Option Addr) : FlsR w p [] := ⟨fun h => absurd h (by simp)⟩
end
end Go.Proofs.Ytbeibhmbaofjhaa

namespace Go.Proofs.Ytbeibhmbaofjhaa
open Go.RowKit
set_option maxRecDepth 8000
/-- the answered list while the book takes its data -/
structure Ls (w : World) (m g : Nat) (U : List FL) (j : Nat) (Zb Ze : Nat → Prop) : Prop where
  bx : ∃ cs : Array Value, Box w g cs 53 ∧ cs.size = U.length * 3 ∧ (∀ u ∈ cs.toList, u.oneCell' = true) ∧ ∀ (i : Nat) x, U[i]? = some x → cs[i * 3 + 2]? = some (.slice (some ⟨x.d, 0, none⟩) x.zs.length x.zs.length)
  dat : ∀ (i : Nat) x, j ≤ i → U[i]? = some x → Box w x.d (bys x.zs) 5 ∧ Zb x.d ∧ Ze x.d ∧ m ≤ x.d
  gz : Zb g ∧ Ze g ∧ m ≤ g
  pw : U.Pairwise (fun x y => x.d ≠ y.d)
  ne : ∀ x ∈ U, x.d ≠ g
theorem pw_get {U : List FL} (h : U.Pairwise (fun x y => x.d ≠ y.d)) {i j : Nat} {x y : FL} (hi : U[i]? = some x) (hj : U[j]? = some y) (hn : i ≠ j) : x.d ≠ y.d := by
  obtain ⟨h1, rfl⟩ := List.getElem?_eq_some_iff.1 hi
  obtain ⟨h2, rfl⟩ := List.getElem?_eq_some_iff.1 hj
  rcases Nat.lt_or_gt_of_ne hn with h3 | h3
  · exact List.pairwise_iff_getElem.1 h i j h1 h2 h3
  · exact fun e => List.pairwise_iff_getElem.1 h j i h2 h1 h3 e.symm
theorem Ls.new {w w' : World} {g : Nat} {U : List FL} (h : LsI w' w.heap.size g U) (Zb Ze : Nat → Prop) : Ls w' w.heap.size g U 0 (fun k => Zb k ∨ Nw w w' k) (fun k => Ze k ∨ Nw w w' k) := by
  refine ⟨⟨_, h.bx, by rw [List.size_toArray]; exact flat3_len U, fun u hu => ?_, fun i x hx => ?_⟩, fun i x _ hx => ?_, ⟨.inr ⟨h.new.1, h.bx.lt⟩, .inr ⟨h.new.1, h.bx.lt⟩, h.new.1⟩, h.pw, fun x hx e => ?_⟩
  · have hu' : u ∈ U.flatMap FL.cells := by simpa using hu
    obtain ⟨x, _, hx⟩ := List.mem_flatMap.1 hu'
    simp only [FL.cells, List.mem_cons, List.not_mem_nil, or_false] at hx
    rcases hx with rfl | rfl | rfl <;> rfl
  · have := flat3 U i 2 x hx (by omega)
    simpa [FL.cells] using this
  · have hd := h.dat x (List.mem_of_getElem? hx)
    have hn := h.new.2 x (List.mem_of_getElem? hx)
    exact ⟨hd, .inr ⟨hn, hd.lt⟩, .inr ⟨hn, hd.lt⟩, hn⟩
  · have hd := h.dat x hx
    rw [e] at hd
    have := box_ty hd h.bx
    simp at this
section
variable {w w' : World} {m g : Nat} {U : List FL} {j : Nat} {Zb Ze : Nat → Prop}
theorem Ls.took (h : Ls w m g U j Zb Ze) {x : FL} (hx : U[j]? = some x) (hF : Fr (fun k => Zb k ∧ k ≠ x.d) w w') : Ls w' m g U (j + 1) (fun k => Zb k ∧ k ≠ x.d) (fun k => Ze k ∨ Nw w w' k) := by
  have hgx : g ≠ x.d := fun e => h.ne x (List.mem_of_getElem? hx) e.symm
  obtain ⟨cs, hc, h1, h2, h3⟩ := h.bx
  refine ⟨⟨cs, (hF.block g hc.lt fun e => e ⟨h.gz.1, hgx⟩).trans hc, h1, h2, h3⟩, fun i y hi hy => ?_, ⟨⟨h.gz.1, hgx⟩, .inl h.gz.2.1, h.gz.2.2⟩, h.pw, h.ne⟩
  obtain ⟨h4, h5, h6, h7⟩ := h.dat i y (by omega) hy
  have hne := pw_get h.pw hy hx (by omega)
  exact ⟨(hF.block y.d h4.lt fun e => e ⟨h5, hne⟩).trans h4, ⟨h5, hne⟩, .inl h6, h7⟩
theorem Ls.store (h : Ls w m g U j Zb Ze) {i : Nat} (v : Value) (hv : v.oneCell' = true) : Ls (w.setCell ⟨g, i * 3 + 1, none⟩ v) m g U j (fun k => Zb k ∨ Nw w (w.setCell ⟨g, i * 3 + 1, none⟩ v) k) (fun k => Ze k ∨ Nw w (w.setCell ⟨g, i * 3 + 1, none⟩ v) k) := by
  obtain ⟨cs, hc, h1, h2, h3⟩ := h.bx
  have hbt : But (fun k => k = g) w (w.setCell ⟨g, i * 3 + 1, none⟩ v) := (But.one _ _).setAt _ _
  refine ⟨⟨_, hc.set (i * 3 + 1) v, by simp [h1], fun u hu => ?_, fun q y hy => ?_⟩, fun q y hq hy => ?_, ⟨.inl h.gz.1, .inl h.gz.2.1, h.gz.2.2⟩, h.pw, h.ne⟩
  · obtain ⟨n, hn⟩ := List.mem_iff_getElem?.1 hu
    rw [Array.getElem?_toList, Array.getElem?_setIfInBounds] at hn
    split at hn
    · split at hn
      · cases hn; exact hv
      · cases hn
    · exact h2 u (List.mem_iff_getElem?.2 ⟨n, by rw [Array.getElem?_toList]; exact hn⟩)
  · rw [Array.getElem?_setIfInBounds, if_neg (by omega)]
    exact h3 q y hy
  · obtain ⟨h4, h5, h6, h7⟩ := h.dat q y hq hy
    exact ⟨(hbt.block y.d h4.lt (h.ne y (List.mem_of_getElem? hy))).trans h4, .inl h5, .inl h6, h7⟩
theorem Ls.rowx (h : Ls w m g U j Zb Ze) (hU : U.length ≤ 100000) : ∃ xs, RowX w (.slice (some ⟨g, 0, none⟩) U.length U.length) U.length xs := by
  obtain ⟨cs, hc, h1, h2, h3⟩ := h.bx
  exact ⟨cs.toList, ⟨by simp [h1], .inr ⟨g, U.length, cs, rfl, hc, Nat.le_refl _, by unfold maxLen; omega, by omega, by rw [List.take_of_length_le (by simp [h1])]⟩⟩⟩
end
/-- order's numbers -/
def elIn : El Int where
  ty := 3
  size := 1
  cells := fun x => [.int .i64 x]
  len := fun _ => rfl
  one := fun x u hu => by simp only [List.mem_singleton] at hu; subst hu; rfl
  In := fun _ _ _ => True
  kept := fun h _ _ => h
  mono := fun h _ => h
theorem Ls.below {w w' : World} {m g : Nat} {U : List FL} {j : Nat} {Zb Ze : Nat → Prop} (h : Ls w m g U j Zb Ze) (hb : Below w.heap.size w w') : Ls w' m g U j (fun k => Zb k ∨ Nw w w' k) (fun k => Ze k ∨ Nw w w' k) := by
  obtain ⟨cs, hc, h1, h2, h3⟩ := h.bx
  refine ⟨⟨cs, hc.below hb, h1, h2, h3⟩, fun i y hi hy => ?_, ⟨.inl h.gz.1, .inl h.gz.2.1, h.gz.2.2⟩, h.pw, h.ne⟩
  obtain ⟨h4, h5, h6, h7⟩ := h.dat i y hi hy
  exact ⟨h4.below hb, .inl h5, .inl h6, h7⟩
/-- all beside one another, between two calls -/
def SS (W w : World) (eb kb : Nat) (A C : List FA) (u : LT YF) (sn : Int) : Prop := ∃ n0 Zb Ze, St W w eb kb A C u sn n0 Zb Ze ∧ n0 ≤ w.heap.size
/-- and a list that was answered -/
def LS (W w : World) (eb kb : Nat) (A C : List FA) (u : LT YF) (sn : Int) (g : Nat) (U : List FL) (j : Nat) : Prop := ∃ n0 Zb Ze, St W w eb kb A C u sn n0 Zb Ze ∧ n0 ≤ w.heap.size ∧ W.heap.size ≤ n0 ∧ Ls w n0 g U j Zb Ze
section
variable {W w w' : World} {eb kb g j : Nat} {A C : List FA} {u : LT YF} {sn : Int} {U : List FL}
theorem SS.below (h : SS W w eb kb A C u sn) (hb : Below w.heap.size w w') : SS W w' eb kb A C u sn := by
  obtain ⟨n0, Zb, Ze, h1, h2⟩ := h
  exact ⟨n0, _, _, h1.below hb, Nat.le_trans h2 hb.size⟩
theorem SS.more {sn' : Int} (h : SS W w eb kb A C u sn) (hn : sn ≤ sn') : SS W w eb kb A C u sn' := by
  obtain ⟨n0, Zb, Ze, h1, h2⟩ := h
  obtain ⟨b, o, t, wt, n, m, l, hI, h3, h4⟩ := h1.bk
  exact ⟨n0, Zb, Ze, ⟨h1.et, ⟨b, o, t, wt, n, m, l, hI, h3, by omega⟩, h1.ws, h1.wn, h1.wk, h1.cov, h1.lo, h1.ze, h1.bel⟩, h2⟩
theorem SS.bel (h : SS W w eb kb A C u sn) : Below W.heap.size W w := by obtain ⟨n0, Zb, Ze, h1, h2⟩ := h; exact h1.bel
theorem LS.bel (h : LS W w eb kb A C u sn g U j) : Below W.heap.size W w := by obtain ⟨n0, Zb, Ze, h1, h2⟩ := h; exact h1.bel
theorem SS.was (h : SS W w eb kb A C u sn) : FlsR w u.p C := by obtain ⟨n0, Zb, Ze, h1, h2⟩ := h; exact h1.was
theorem LS.was (h : LS W w eb kb A C u sn g U j) : FlsR w u.p C := by obtain ⟨n0, Zb, Ze, h1, h2⟩ := h; exact h1.was
theorem SS.wn (h : SS W w eb kb A C u sn) : u.n = C.length := by obtain ⟨n0, Zb, Ze, h1, h2⟩ := h; exact h1.wn
theorem SS.facts (h : SS W w eb kb A C u sn) : A.length ≤ 256 ∧ ∀ a ∈ A, a.zs.length ≤ 32776 ∧ ∀ z ∈ a.zs, 0 ≤ z ∧ z ≤ 255 := by obtain ⟨n0, Zb, Ze, h1, h2⟩ := h; exact et_facts h1.et
theorem LS.below (h : LS W w eb kb A C u sn g U j) (hb : Below w.heap.size w w') : LS W w' eb kb A C u sn g U j := by
  obtain ⟨n0, Zb, Ze, h1, h2, h3, h4⟩ := h
  exact ⟨n0, _, _, h1.below hb, Nat.le_trans h2 hb.size, h3, h4.below hb⟩
theorem SS.hold (h : SS W w eb kb A C u sn) : Calls Try.prog 10 #[.pointer (some ⟨kb, 0, none⟩)] w fun e w' => e = .returned (.bool true) ∧ Below w.heap.size w w' ∧ SS W w' eb kb A C u sn := by
  obtain ⟨n0, Zb, Ze, h1, h2⟩ := id h
  exact h1.hold.mono fun e w' hq => ⟨hq.1, hq.2, h.below hq.2⟩
theorem LS.hold (h : LS W w eb kb A C u sn g U j) : Calls Try.prog 10 #[.pointer (some ⟨kb, 0, none⟩)] w fun e w' => e = .returned (.bool true) ∧ Below w.heap.size w w' ∧ LS W w' eb kb A C u sn g U j := by
  obtain ⟨n0, Zb, Ze, h1, h2, h3, h4⟩ := id h
  exact h1.hold.mono fun e w' hq => ⟨hq.1, hq.2, h.below hq.2⟩
theorem SS.list (h : SS W w eb kb A C u sn) : Calls Try.prog 8 #[.pointer (some ⟨eb, 0, none⟩)] w fun e w' => ∃ g U, e = .returned (.slice (some ⟨g, 0, none⟩) A.length A.length) ∧ U.map FL.a = A ∧ LS W w' eb kb A C u sn g U 0 ∧ SS W w' eb kb A C u sn ∧ FlsR w' (some ⟨g, 0, none⟩) A ∧ FlsR w' u.p C ∧ Below w.heap.size w w' := by
  obtain ⟨n0, Zb, Ze, h1, h2⟩ := id h
  refine h1.list.mono fun e w' hq => ?_
  obtain ⟨g, U, he, hU, hL, hb⟩ := hq
  have hr := (h1.raise h2).below hb
  exact ⟨g, U, he, hU, ⟨w.heap.size, _, _, hr, hb.size, h1.bel.size, Ls.new hL Zb Ze⟩, h.below hb, hL.fls hU, hr.was, hb⟩
theorem LS.len (h : LS W w eb kb A C u sn g U j) : A.length ≤ 256 ∧ ∀ a ∈ A, a.zs.length ≤ 32776 ∧ ∀ z ∈ a.zs, 0 ≤ z ∧ z ≤ 255 := by obtain ⟨n0, Zb, Ze, h1, h2⟩ := h; exact et_facts h1.et
theorem LS.cell (h : LS W w eb kb A C u sn g U j) {i : Nat} {x : FL} (hx : U[i]? = some x) : w.cell? ⟨g, i * 3 + 2, none⟩ = some (.slice (some ⟨x.d, 0, none⟩) x.zs.length x.zs.length) := by
  obtain ⟨n0, Zb, Ze, h1, h2, h3, h4⟩ := h
  obtain ⟨cs, hc, _, _, hx2⟩ := h4.bx
  rw [hc.cell]
  exact hx2 i x hx
theorem LS.spot (h : LS W w eb kb A C u sn g U j) : g < w.heap.size ∧ ∀ i, w.frozen? ⟨g, i, none⟩ = false := by
  obtain ⟨n0, Zb, Ze, h1, h2, h3, h4⟩ := h
  obtain ⟨cs, hc, _, _, hx2⟩ := h4.bx
  exact ⟨hc.lt, fun i => hc.frozen i⟩
theorem LS.cell1 (h : LS W w eb kb A C u sn g U j) {i : Nat} (hi : i < U.length) : ∃ v, w.cell? ⟨g, i * 3 + 1, none⟩ = some v := by
  obtain ⟨n0, Zb, Ze, h1, h2, h3, h4⟩ := h
  obtain ⟨cs, hc, hs, _, hx2⟩ := h4.bx
  rw [hc.cell]
  exact ⟨_, Array.getElem?_eq_getElem (by omega)⟩
/-- the book keeps the next one's data -/
theorem LS.bytes (h : LS W w eb kb A C u sn g U j) (hU : U.map FL.a = A) {x : FL} (hx : U[j]? = some x) (mark : Int) (hmk : -1000000000 ≤ mark ∧ mark ≤ 1000000000) (hsn : sn < 1000000) :
    Calls Try.prog 11 #[.pointer (some ⟨kb, 0, none⟩), .slice (some ⟨x.d, 0, none⟩) x.zs.length x.zs.length, .int .i64 mark] w fun e w' => e = .returned (.tuple #[]) ∧ LS W w' eb kb A C u (sn + 1) g U (j + 1) := by
  obtain ⟨n0, Zb, Ze, h1, h2, h3, h4⟩ := id h
  obtain ⟨k1, k2, k3, k4⟩ := h4.dat j x (Nat.le_refl _) hx
  have hm : x.a ∈ A := by rw [← hU]; exact List.mem_map.2 ⟨x, List.mem_of_getElem? hx, rfl⟩
  obtain ⟨k5, k6⟩ := h.len.2 x.a hm
  have k5' : x.zs.length ≤ 32776 := k5
  refine (h1.bytes k1 ⟨k2, k3, Nat.le_trans h3 k4, k4⟩ (by omega) k6 mark hmk hsn).mono fun e w' hq => ?_
  obtain ⟨he, hs, hF⟩ := hq
  exact ⟨he, n0, _, _, hs, Nat.le_trans h2 hF.size, h3, h4.took hx hF⟩
theorem LS.store (h : LS W w eb kb A C u sn g U j) {i : Nat} (v : Value) (hv : v.oneCell' = true) : LS W (w.setCell ⟨g, i * 3 + 1, none⟩ v) eb kb A C u sn g U j := by
  obtain ⟨n0, Zb, Ze, h1, h2, h3, h4⟩ := h
  have hbt : But (fun k => k = g) w (w.setCell ⟨g, i * 3 + 1, none⟩ v) := (But.one _ _).setAt _ _
  exact ⟨n0, _, _, h1.foreign hbt ⟨h4.gz.1, h4.gz.2.1, Nat.le_trans h3 h4.gz.2.2, h4.gz.2.2⟩, Nat.le_trans h2 hbt.size, h3, h4.store v hv⟩
/-- something is laid behind the list -/
theorem LS.grown (h : LS W w eb kb A C u sn g U j) (hg : w.grownBy w' (some g)) : SS W w' eb kb A C u sn := by
  obtain ⟨n0, Zb, Ze, h1, h2, h3, h4⟩ := h
  have hbt : But (fun k => k = g) w w' := by
    refine ⟨hg.os, hg.tape, hg.output, hg.size, fun k hk hn => hg.block k hk (fun e => hn (Option.some.inj e))⟩
  exact ⟨n0, _, _, h1.foreign hbt ⟨h4.gz.1, h4.gz.2.1, Nat.le_trans h3 h4.gz.2.2, h4.gz.2.2⟩, Nat.le_trans h2 hbt.size⟩
theorem LS.rowx (h : LS W w eb kb A C u sn g U j) (hU : U.map FL.a = A) : ∃ xs, RowX w (.slice (some ⟨g, 0, none⟩) A.length A.length) A.length xs := by
  have hl : U.length = A.length := by rw [← hU]; simp
  have := h.len.1
  obtain ⟨n0, Zb, Ze, h1, h2, h3, h4⟩ := h
  rw [← hl]
  exact h4.rowx (by omega)
/-- Deliver of nothing -/
theorem SS.deliver_no (h : SS W w eb kb A C u sn) (i : Int) (hi : ¬ inA i A.length) :
    Calls Try.prog 13 #[.pointer (some ⟨eb, 0, none⟩), .int .i64 i] w fun e w' => e = .returned (.tuple #[.agg #[.int .i64 0, .int .i64 0, .slice none 0 0], .bool false]) ∧ SS W w' eb kb A C u sn := by
  obtain ⟨n0, Zb, Ze, h1, h2⟩ := h
  refine (deliver_any w Ze eb 3 A h1.et h1.ze i).mono fun e w' hq => ?_
  obtain ⟨he, hE, hF⟩ := hq.1 hi
  exact ⟨he, n0, _, _, h1.net (F := fun _ => False) (hE.z fun k _ hk => hk.elim id False.elim) hF (fun k hk => hk.elim), Nat.le_trans h2 hF.size⟩
/-- a list that is nobody's -/
def DS (W w : World) (eb kb : Nat) (A C : List FA) (u : LT YF) (sn : Int) (d : Nat) (zs : List Int) : Prop := ∃ n0 Zb Ze, St W w eb kb A C u sn n0 Zb Ze ∧ n0 ≤ w.heap.size ∧ Box w d (bys zs) 5 ∧ Zb d ∧ Ze d ∧ W.heap.size ≤ d ∧ n0 ≤ d ∧ zs.length ≤ 32776 ∧ ∀ z ∈ zs, 0 ≤ z ∧ z ≤ 255
theorem DS.ss {d : Nat} {zs : List Int} (h : DS W w eb kb A C u sn d zs) : SS W w eb kb A C u sn := by obtain ⟨n0, Zb, Ze, h1, h2, _⟩ := h; exact ⟨n0, Zb, Ze, h1, h2⟩
theorem DS.box {d : Nat} {zs : List Int} (h : DS W w eb kb A C u sn d zs) : Box w d (bys zs) 5 := by obtain ⟨n0, Zb, Ze, h1, h2, h3, _⟩ := h; exact h3
theorem DS.below {d : Nat} {zs : List Int} (h : DS W w eb kb A C u sn d zs) (hb : Below w.heap.size w w') : DS W w' eb kb A C u sn d zs := by
  obtain ⟨n0, Zb, Ze, h1, h2, h3, h4, h5, h6⟩ := h
  exact ⟨n0, _, _, h1.below hb, Nat.le_trans h2 hb.size, h3.below hb, .inl h4, .inl h5, h6⟩
theorem DS.bytes {d : Nat} {zs : List Int} (h : DS W w eb kb A C u sn d zs) (mark : Int) (hmk : -1000000000 ≤ mark ∧ mark ≤ 1000000000) (hsn : sn < 1000000) :
    Calls Try.prog 11 #[.pointer (some ⟨kb, 0, none⟩), .slice (some ⟨d, 0, none⟩) zs.length zs.length, .int .i64 mark] w fun e w' => e = .returned (.tuple #[]) ∧ SS W w' eb kb A C u (sn + 1) := by
  obtain ⟨n0, Zb, Ze, h1, h2, h3, h4, h5, h6, h7, h8, h9⟩ := h
  refine (h1.bytes h3 ⟨h4, h5, h6, h7⟩ (by omega) h9 mark hmk hsn).mono fun e w' hq => ?_
  obtain ⟨he, hs, hF⟩ := hq
  exact ⟨he, n0, _, _, hs, Nat.le_trans h2 hF.size⟩
/-- Deliver of one -/
theorem SS.deliver (h : SS W w eb kb A C u sn) (i : Int) (hi : inA i A.length) :
    Calls Try.prog 13 #[.pointer (some ⟨eb, 0, none⟩), .int .i64 i] w fun e w' => ∃ a d, A[i.toNat]? = some a ∧ e = .returned (.tuple #[.agg #[.int .i64 a.fr, .int .i64 a.tt, .slice (some ⟨d, 0, none⟩) a.zs.length a.zs.length], .bool true]) ∧ DS W w' eb kb (A.eraseIdx i.toNat) C u sn d a.zs := by
  have hfa := h.facts
  obtain ⟨n0, Zb, Ze, h1, h2⟩ := h
  refine (deliver_any w Ze eb 3 A h1.et h1.ze i).mono fun e w' hq => ?_
  obtain ⟨a, d, ha, he, hd, hX, hE, hF⟩ := hq.2 hi
  have hs := h1.bel.size
  have hf := hfa.2 a (List.mem_of_getElem? ha)
  exact ⟨a, d, ha, he, n0, _, _, h1.net (F := fun k => k = d) hE hF (fun k hk => by subst hk; exact ⟨hd, hX.lt⟩), Nat.le_trans h2 hF.size, hX, .inr ⟨hd, hX.lt⟩, .inr rfl, by omega, by omega, hf.1, hf.2⟩
/-- the list of what is in flight now is copied -/
theorem SS.copies (h : SS W w eb kb A C u sn) (w1 : World) (hb : Below w.heap.size w w1) (p : Option Addr) (c : Nat) (hp : FlsR w1 p A) :
    Calls Try.prog 7 #[.slice p A.length c] w1 fun e w' => ∃ u' : LT YF, e = .returned (.slice u'.p u'.n u'.c) ∧ SS W w' eb kb A A u' sn := by
  have hfa := h.facts
  refine (copies_any A p c w1 hp (by omega) fun a ha => by have := (hfa.2 a ha).1; omega).mono fun e w' hq => ?_
  obtain ⟨u', he, hu, hn, hk, hb2⟩ := hq
  obtain ⟨n0, Zb, Ze, h1, h2⟩ := h.below hb
  refine ⟨u', he, w'.heap.size, _, _, (h1.below hb2).rewas (hu.mono fun k hk hl => ⟨⟨.inr ⟨hk, hl⟩, .inr ⟨hk, hl⟩⟩, hl⟩) hn hk, Nat.le_refl _⟩
/-- the beginning -/
theorem SS.init {B : Nat} {W0 w3 w5 w6 : World} (h : En B W0 w3 eb 3 A) (hW : W.heap.size ≤ B) (hbel : Below W.heap.size W w3) (hb5 : Below w3.heap.size w3 w5) (hu : LT.In elY w5 (fun k => w3.heap.size ≤ k) u) (hn : u.n = A.length) (hk : ∀ j a, A[j]? = some a → (u.item j).a = a)
    (h6 : Below w5.heap.size w5 w6) (hX : Box w6 w5.heap.size (ybC (.slice none 0 0) (.slice none 0 0) (.slice none 0 0) (.slice none 0 0) (.slice none 0 0) (.slice none 0 0) 0) 48) : SS W w6 eb w5.heap.size A A u 0 := by
  obtain ⟨v, L, hI, rfl⟩ := h.et
  have hlt : ∀ k, EtC eb v L k → k < w3.heap.size := fun k hk => hI.lt hk
  have hlo : ∀ k, EtC eb v L k → ¬ k < B := fun k hk => hI.z k hk
  have s5 := hb5.size
  have s6 := h6.size
  have hkl := hX.lt
  have hI6 : EtI w6 (fun k => k < w6.heap.size ∧ ¬ EtC eb v L k) eb 3 v L := hI.kept (fun k hk => ((h6.block k (Nat.lt_of_lt_of_le (hlt k hk) s5)).trans (hb5.block k (hlt k hk)))) fun k hk e => e.2 hk
  refine ⟨w6.heap.size, fun k => k < w6.heap.size ∧ k ≠ w5.heap.size, fun k => k < w6.heap.size ∧ ¬ EtC eb v L k, ⟨⟨v, L, hI6, rfl⟩, ⟨yb0, [], [], [], [], [], [], book_new hX (fun e => e.2 rfl) (fun k hk => hk.1), (fun x hx => by simp at hx), by show (0 : Int) ≤ 0; omega⟩, ((hu.mono (S' := fun k => w3.heap.size ≤ k ∧ k < w5.heap.size) fun k hk hl => ⟨hk, hl⟩).below h6).mono fun k hk hl => ⟨⟨⟨hl, ?_⟩, hl, ?_⟩, hl⟩, hn, hk, fun k hk => ?_, fun k hk => ⟨⟨?_, ?_⟩, ?_, ?_⟩, fun k hk => hk.1, ?_⟩, Nat.le_refl _⟩
  · have := hk.2; omega
  · exact fun e => by have := hlt k e; have := hk.1; omega
  · by_cases hk2 : k = w5.heap.size
    · exact .inr ⟨hk, fun e => by have := hlt k e; omega⟩
    · exact .inl ⟨hk, hk2⟩
  · have := hbel.size; omega
  · have := hbel.size; omega
  · have := hbel.size; omega
  · exact fun e => hlo k e (by omega)
  · exact (hbel.trans (hb5.mono hbel.size)).trans (h6.mono (Nat.le_trans hbel.size s5))
end
end Go.Proofs.Ytbeibhmbaofjhaa

namespace Go.Proofs.Ytbeibhmbaofjhaa
open Go.RowKit
set_option maxRecDepth 100000
def kz : Array Value := ybC (.slice none 0 0) (.slice none 0 0) (.slice none 0 0) (.slice none 0 0) (.slice none 0 0) (.slice none 0 0) 0
theorem run_kb (w : World) : (Instr.build 48 #[]).run Try.prog w = .ok (.agg kz) w := by
  with_unfolding_all rfl
theorem run_kx (w : World) : (Instr.box 48 (.agg kz)).run Try.prog w = .ok (.pointer (some ⟨w.heap.size, 0, none⟩)) (w.alloc (.cells kz 48)) := by
  with_unfolding_all rfl
theorem wpList_kb {ops : Array Oper} {rest : List Oper} {o : Oper} {a : Act} {w : World} {Q : Exit → Act → World → Prop} (hg : o.guard = none) (hop : o.op = Op.build 48 #[])
    (h : wpList Try.prog ops Q rest (a.put o.dst (.agg kz)) w) : wpList Try.prog ops Q (o :: rest) a w := by
  refine wpList_plain hg fun K hK => ?_
  unfold Oper.wp
  simp [execOp, hop, run_kb, Result.andThen]
  exact hK _ _ h
theorem wpList_kx {ops : Array Oper} {rest : List Oper} {o : Oper} {a : Act} {w : World} {Q : Exit → Act → World → Prop} (hg : o.guard = none) (x : Operand) (hop : o.op = Op.box 48 x) (hx : a.eval x = .agg kz)
    (h : wpList Try.prog ops Q rest (a.put o.dst (.pointer (some ⟨w.heap.size, 0, none⟩))) (w.alloc (.cells kz 48))) : wpList Try.prog ops Q (o :: rest) a w := by
  refine wpList_plain hg fun K hK => ?_
  unfold Oper.wp
  simp [execOp, hop, hx, run_kx, Result.andThen]
  exact hK _ _ h
end Go.Proofs.Ytbeibhmbaofjhaa
