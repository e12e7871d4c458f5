import Derived.Test.YtbeibhmbaofjhaaYkK
import Derived.Test.YtbeibhmbaofjhaaUfA
import Derived.Test.YtbeibhmbaofjhaaPack21
import Derived.Test.YtbeibhmbaofjhaaPack17
namespace Go.Proofs.Ytbeibhmbaofjhaa
open Go.RowKit
set_option maxRecDepth 8000
theorem et_facts {w : World} {Z : Nat → Prop} {b : Nat} {m : Int} {A : List FA} (h : EtA w Z b m A) : A.length ≤ 256 ∧ ∀ a ∈ A, a.zs.length ≤ 32776 ∧ ∀ z ∈ a.zs, 0 ≤ z ∧ z ≤ 255 := by
  obtain ⟨v, L, hI, rfl⟩ := h
  refine ⟨by rw [List.length_map]; exact hI.len, fun a ha => ?_⟩
  obtain ⟨x, hx, rfl⟩ := List.mem_map.1 ha
  exact ⟨hI.sz x hx, fun z hz => by have := hI.by_ x hx z hz; omega⟩
theorem box_own {w : World} {d : Nat} {zs : List Int} (h : Box w d (bys zs) 5) (hl : zs.length ≤ 100000) : OwnBy 0 w (.slice (some ⟨d, 0, none⟩) zs.length zs.length) zs :=
  ⟨by simp, .inr ⟨d, zs.length, bys zs, rfl, Nat.zero_le _, h, Nat.le_refl _, by unfold maxLen; omega, by simp [bys], by simp only [bys]; rw [List.take_of_length_le (by simp)]⟩⟩
/-- the network, the book and the list of what was in flight, beside one another -/
structure St (W w : World) (eb kb : Nat) (A C : List FA) (u : LT YF) (sn : Int) (n0 : Nat) (Zb Ze : Nat → Prop) : Prop where
  et : EtA w Ze eb 3 A
  bk : ∃ b outs told waits notes marks lefts, YbI w Zb kb b outs told waits notes marks lefts ∧ (∀ x ∈ waits, x.zs.length ≤ 100000) ∧ b.sn ≤ sn
  ws : LT.In elY w (fun k => (Zb k ∧ Ze k) ∧ k < n0) u
  wn : u.n = C.length
  wk : ∀ j a, C[j]? = some a → (u.item j).a = a
  cov : ∀ k, k < w.heap.size → Zb k ∨ Ze k
  lo : ∀ k, k < W.heap.size → Zb k ∧ Ze k
  ze : ∀ k, Ze k → k < w.heap.size
  bel : Below W.heap.size W w
def Nw (w w' : World) (k : Nat) : Prop := w.heap.size ≤ k ∧ k < w'.heap.size
section
variable {W w w' : World} {eb kb : Nat} {A C : List FA} {u : LT YF} {sn : Int} {n0 : Nat} {Zb Ze : Nat → Prop}
theorem St.zb (h : St W w eb kb A C u sn n0 Zb Ze) : ∀ k, Zb k → k < w.heap.size := by
  obtain ⟨b, o, t, wt, n, m, l, hI, _⟩ := h.bk
  exact hI.1.zl
theorem St.below (h : St W w eb kb A C u sn n0 Zb Ze) (hb : Below w.heap.size w w') : St W w' eb kb A C u sn n0 (fun k => Zb k ∨ Nw w w' k) (fun k => Ze k ∨ Nw w w' k) := by
  have hs := h.bel.size
  refine ⟨h.et.below hb fun k hk e => e.elim id fun e => absurd e.1 (by omega), ?_, (h.ws.below hb).mono fun k hk _ => ⟨⟨.inl hk.1.1, .inl hk.1.2⟩, hk.2⟩, h.wn, h.wk, fun k hk => ?_, fun k hk => ⟨.inl (h.lo k hk).1, .inl (h.lo k hk).2⟩, fun k hk => hk.elim (fun e => Nat.lt_of_lt_of_le (h.ze k e) hb.size) fun e => e.2, h.bel.trans (hb.mono hs)⟩
  · obtain ⟨b, o, t, wt, n, m, l, hI, h2, h3⟩ := h.bk
    exact ⟨b, o, t, wt, n, m, l, ⟨hI.1.more hb, hI.2⟩, h2, h3⟩
  · by_cases hk2 : k < w.heap.size
    · exact (h.cov k hk2).imp .inl .inl
    · exact .inl (.inr ⟨by omega, hk⟩)
/-- a list of nobody's is kept in the book -/
theorem St.bytes (h : St W w eb kb A C u sn n0 Zb Ze) {d : Nat} {zs : List Int} (hd : Box w d (bys zs) 5) (hf : Zb d ∧ Ze d ∧ W.heap.size ≤ d ∧ n0 ≤ d) (hzl : zs.length ≤ 100000) (hzb : ∀ z ∈ zs, 0 ≤ z ∧ z ≤ 255) (mark : Int) (hmk : -1000000000 ≤ mark ∧ mark ≤ 1000000000) (hsn : sn < 1000000) :
    Calls Try.prog 11 #[.pointer (some ⟨kb, 0, none⟩), .slice (some ⟨d, 0, none⟩) zs.length zs.length, .int .i64 mark] w fun e w' => e = .returned (.tuple #[]) ∧ St W w' eb kb A C u (sn + 1) n0 (fun k => Zb k ∧ k ≠ d) (fun k => Ze k ∨ Nw w w' k) ∧ Fr (fun k => Zb k ∧ k ≠ d) w w' := by
  obtain ⟨b, o, t, wt, n, m, l, hI, h2, h3⟩ := h.bk
  have hob : ∀ k, k ∈ ob (YS.val ⟨some ⟨d, 0, none⟩, zs.length, zs⟩) ↔ k = d := fun k => by
    rw [ob_mem]
    simp only [YS.val, Value.ownBlock, Option.some.injEq]
    exact eq_comm
  refine (bytes_any Zb (fun k => Zb k ∧ k ≠ d) kb b o t wt n m l ⟨some ⟨d, 0, none⟩, zs.length, zs⟩ mark w hI.1 hI.2 h2 (box_own hd hzl) hzb hzl (fun k hk => ⟨hk.1, fun e => hk.2 ((hob k).1 e)⟩) (fun k hk => ?_) hmk (by omega)).mono fun e w' hq => ?_
  · rw [(hob k).1 hk]
    exact ⟨fun e => hI.1.zh d e hf.1, fun e => hI.1.zc d e hf.1⟩
  · obtain ⟨he, hF, b', o', t', wt', n', m', l', hI', hs', hz'⟩ := hq
    refine ⟨he, ⟨h.et.but (hF.mono fun k hk hn => ?_) fun k hk e => e.elim id fun e => absurd e.1 (by omega), ⟨b', o', t', wt', n', m', l', hI', hz', by rw [hs']; omega⟩, ?_, h.wn, h.wk, fun k hk => ?_, fun k hk => ⟨⟨(h.lo k hk).1, by have := hf.2.2.1; omega⟩, .inl (h.lo k hk).2⟩, fun k hk => hk.elim (fun e => Nat.lt_of_lt_of_le (h.ze k e) hF.size) fun e => e.2, h.bel.trans (But.below hF h.bel.size fun k hk e => e ⟨(h.lo k hk).1, by omega⟩)⟩, hF⟩
    · rcases h.cov k hk with h1 | h1
      · by_cases hkd : k = d
        · subst hkd; exact hf.2.1
        · exact absurd ⟨h1, hkd⟩ hn
      · exact h1
    · have hne : ∀ k, k < n0 → k ≠ d := fun k hk => by have := hf.2.2.2; omega
      exact (h.ws.kept hF.size fun k hk hl => hF.block k hl fun e => e ⟨hk.1.1, hne k hk.2⟩).mono fun k hk _ => ⟨⟨⟨hk.1.1, hne k hk.2⟩, .inl hk.1.2⟩, hk.2⟩
    · by_cases hk2 : k < w.heap.size
      · rcases h.cov k hk2 with h1 | h1
        · by_cases hkd : k = d
          · subst hkd; exact .inr (.inl hf.2.1)
          · exact .inl ⟨h1, hkd⟩
        · exact .inr (.inl h1)
      · exact .inr (.inr ⟨by omega, hk⟩)
/-- what is nobody's changes -/
theorem St.foreign (h : St W w eb kb A C u sn n0 Zb Ze) {g : Nat} (hb : But (fun k => k = g) w w') (hg : Zb g ∧ Ze g ∧ W.heap.size ≤ g ∧ n0 ≤ g) : St W w' eb kb A C u sn n0 (fun k => Zb k ∨ Nw w w' k) (fun k => Ze k ∨ Nw w w' k) := by
  refine ⟨h.et.but (hb.mono fun k _ e => by subst e; exact hg.2.1) fun k hk e => e.elim id fun e => absurd e.1 (by omega), ?_, (h.ws.kept hb.size fun k hk hl => hb.block k hl fun e => by have := hk.2; have := hg.2.2.2; omega).mono fun k hk _ => ⟨⟨.inl hk.1.1, .inl hk.1.2⟩, hk.2⟩, h.wn, h.wk, fun k hk => ?_, fun k hk => ⟨.inl (h.lo k hk).1, .inl (h.lo k hk).2⟩, fun k hk => hk.elim (fun e => Nat.lt_of_lt_of_le (h.ze k e) hb.size) fun e => e.2, h.bel.trans (But.below hb h.bel.size fun k hk e => by have := hg.2.2.1; omega)⟩
  · obtain ⟨b, o, t, wt, n, m, l, hI, h2, h3⟩ := h.bk
    exact ⟨b, o, t, wt, n, m, l, ⟨hI.1.kept hb.size (fun k hk => hb.block k (hk.elim hI.1.hot_lt hI.1.cold_lt) fun e => by subst e; exact hk.elim (fun e => hI.1.zh k e hg.1) fun e => hI.1.zc k e hg.1) (fun k hk e => e.elim id fun e => absurd e.1 (by omega)) fun k hk => hk.elim (fun e => Nat.lt_of_lt_of_le (hI.1.zl k e) hb.size) fun e => e.2, hI.2⟩, h2, h3⟩
  · by_cases hk2 : k < w.heap.size
    · exact (h.cov k hk2).imp .inl .inl
    · exact .inl (.inr ⟨by omega, hk⟩)
/-- the network does something -/
theorem St.net (h : St W w eb kb A C u sn n0 Zb Ze) {A' : List FA} {F : Nat → Prop} (he : EtA w' (fun k => Ze k ∨ F k) eb 3 A') (hF : Fr Ze w w') (hFn : ∀ k, F k → Nw w w' k) : St W w' eb kb A' C u sn n0 (fun k => Zb k ∨ Nw w w' k) (fun k => Ze k ∨ F k) := by
  refine ⟨he, ?_, (h.ws.kept hF.size fun k hk hl => hF.block k hl fun e => e hk.1.2).mono fun k hk _ => ⟨⟨.inl hk.1.1, .inl hk.1.2⟩, hk.2⟩, h.wn, h.wk, fun k hk => ?_, fun k hk => ⟨.inl (h.lo k hk).1, .inl (h.lo k hk).2⟩, fun k hk => hk.elim (fun e => Nat.lt_of_lt_of_le (h.ze k e) hF.size) fun e => (hFn k e).2, h.bel.trans (But.below hF h.bel.size fun k hk e => e (h.lo k hk).2)⟩
  · obtain ⟨b, o, t, wt, n, m, l, hI, h2, h3⟩ := h.bk
    have key : ∀ k, k ∈ b.hot kb ∨ b.cold k → Ze k := fun k hk => by
      have hl := hk.elim hI.1.hot_lt hI.1.cold_lt
      rcases h.cov k hl with h1 | h1
      · exact absurd h1 (hk.elim (hI.1.zh k) (hI.1.zc k))
      · exact h1
    exact ⟨b, o, t, wt, n, m, l, ⟨hI.1.kept hF.size (fun k hk => hF.block k (hk.elim hI.1.hot_lt hI.1.cold_lt) fun e => e (key k hk)) (fun k hk e => e.elim id fun e => absurd e.1 (by omega)) fun k hk => hk.elim (fun e => Nat.lt_of_lt_of_le (hI.1.zl k e) hF.size) fun e => e.2, hI.2⟩, h2, h3⟩
  · by_cases hk2 : k < w.heap.size
    · exact (h.cov k hk2).imp .inl .inl
    · exact .inl (.inr ⟨by omega, hk⟩)
/-- another list of what was in flight -/
theorem St.rewas (h : St W w eb kb A C u sn n0 Zb Ze) {C' : List FA} {u' : LT YF} {n1 : Nat} (hu : LT.In elY w (fun k => (Zb k ∧ Ze k) ∧ k < n1) u') (hn : u'.n = C'.length) (hk : ∀ j a, C'[j]? = some a → (u'.item j).a = a) : St W w eb kb A C' u' sn n1 Zb Ze :=
  ⟨h.et, h.bk, hu, hn, hk, h.cov, h.lo, h.ze, h.bel⟩
theorem St.hold (h : St W w eb kb A C u sn n0 Zb Ze) : Calls Try.prog 10 #[.pointer (some ⟨kb, 0, none⟩)] w fun e w' => e = .returned (.bool true) ∧ Below w.heap.size w w' := by
  obtain ⟨b, o, t, wt, n, m, l, hI, h2, h3⟩ := h.bk
  exact hold_any Zb kb b o t wt n m l w hI
theorem St.list (h : St W w eb kb A C u sn n0 Zb Ze) : Calls Try.prog 8 #[.pointer (some ⟨eb, 0, none⟩)] w fun e w' => ListQ w A e w' := list_any w Ze eb 3 A h.et
theorem St.was (h : St W w eb kb A C u sn n0 Zb Ze) : FlsR w u.p C := h.ws.fls h.wn h.wk
theorem St.raise (h : St W w eb kb A C u sn n0 Zb Ze) {n1 : Nat} (hn : n0 ≤ n1) : St W w eb kb A C u sn n1 Zb Ze :=
  ⟨h.et, h.bk, h.ws.mono fun k hk _ => ⟨hk.1, by have := hk.2; omega⟩, h.wn, h.wk, h.cov, h.lo, h.ze, h.bel⟩
end
end Go.Proofs.Ytbeibhmbaofjhaa

namespace Go.Proofs.Ytbeibhmbaofjhaa
open Go.RowKit
set_option maxRecDepth 8000
/-- a packet of the reference's -/
structure PK where
  fr : Int
  tt : Int
  y : BY
  out : Bool
def PK.cells (x : PK) : List Value := [.int .i64 x.fr, .int .i64 x.tt, .slice x.y.p x.y.n x.y.c, .bool x.out]
def PK.a (x : PK) : FA := ⟨x.fr, x.tt, x.y.zs⟩
/-- the ones that are in flight -/
def infl : List PK → List FA
  | [] => []
  | x :: r => if x.out then infl r else x.a :: infl r
theorem infl_app : ∀ (P Q : List PK), infl (P ++ Q) = infl P ++ infl Q
  | [], _ => rfl
  | x :: r, Q => by
    simp only [List.cons_append, infl, infl_app r Q]
    cases x.out <;> simp
theorem flat4_len (P : List PK) : (P.flatMap PK.cells).length = P.length * 4 := by
  induction P with
  | nil => rfl
  | cons x P ih => simp [PK.cells] at ih ⊢; omega
theorem flat4 : ∀ (P : List PK) (j r : Nat) (x : PK), P[j]? = some x → r < 4 → (P.flatMap PK.cells)[j * 4 + r]? = x.cells[r]?
  | [], j, r, x, h, _ => by simp at h
  | y :: P, 0, r, x, h, hr => by
    simp at h
    subst h
    rw [List.flatMap_cons, List.getElem?_append_left (by simp [PK.cells]; omega)]
    simp
  | y :: P, j + 1, r, x, h, hr => by
    rw [List.flatMap_cons, List.getElem?_append_right (by simp [PK.cells]; omega)]
    have := flat4 P j r x (by simpa using h) hr
    rw [← this]
    congr 1
    simp [PK.cells]
    omega
theorem flat4_set : ∀ (P : List PK) (k : Nat) (x : PK), k < P.length → (P.set k x).flatMap PK.cells = ((((P.flatMap PK.cells).set (k * 4) (.int .i64 x.fr)).set (k * 4 + 1) (.int .i64 x.tt)).set (k * 4 + 2) (.slice x.y.p x.y.n x.y.c)).set (k * 4 + 3) (.bool x.out)
  | [], k, x, h => by simp at h
  | y :: P, 0, x, _ => by simp [PK.cells]
  | y :: P, k + 1, x, h => by
    have ih := flat4_set P k x (by simpa using h)
    have e : (y :: P).flatMap PK.cells = [.int .i64 y.fr, .int .i64 y.tt, .slice y.y.p y.y.n y.y.c, .bool y.out] ++ P.flatMap PK.cells := by simp [PK.cells]
    rw [List.set_cons_succ, List.flatMap_cons, ih, e]
    rw [show (k + 1) * 4 = k * 4 + 4 by omega]
    simp [PK.cells]
/-- where the i-th in flight stands -/
structure Pl (P : List PK) (i k : Nat) (x : PK) : Prop where
  at_ : P[k]? = some x
  fly : x.out = false
  cnt : (infl (P.take k)).length = i
theorem Pl.split {P : List PK} {i k : Nat} {x : PK} (h : Pl P i k x) : ∃ P1 P2, P = P1 ++ x :: P2 ∧ P1.length = k ∧ (infl P1).length = i := by
  have hk : k < P.length := by
    rcases Nat.lt_or_ge k P.length with h1 | h1
    · exact h1
    · have := h.at_; rw [List.getElem?_eq_none h1] at this; cases this
  have e : P[k] = x := by have := h.at_; rw [List.getElem?_eq_getElem hk] at this; exact Option.some.inj this
  refine ⟨P.take k, P.drop (k + 1), ?_, by rw [List.length_take]; omega, h.cnt⟩
  rw [← e, ← List.drop_eq_getElem_cons hk, List.take_append_drop]
theorem Pl.get {P : List PK} {i k : Nat} {x : PK} (h : Pl P i k x) : (infl P)[i]? = some x.a := by
  obtain ⟨P1, P2, rfl, h1, h2⟩ := h.split
  rw [infl_app, infl, h.fly, List.getElem?_append_right (by omega), h2]
  simp
theorem Pl.put {P : List PK} {i k : Nat} {x : PK} (h : Pl P i k x) (y : PK) : (y.out = true → infl (P.set k y) = (infl P).eraseIdx i) ∧ (y.out = false → infl (P.set k y) = (infl P).set i y.a) := by
  obtain ⟨P1, P2, rfl, h1, h2⟩ := h.split
  have hs : (P1 ++ x :: P2).set k y = P1 ++ y :: P2 := by rw [← h1, List.set_append_right _ _ (Nat.le_refl _)]; simp
  have hp : infl (P1 ++ x :: P2) = infl P1 ++ x.a :: infl P2 := by rw [infl_app, infl, h.fly]; rfl
  rw [hs, hp]
  refine ⟨fun ho => ?_, fun ho => ?_⟩
  · rw [infl_app, infl, ho, ← h2, List.eraseIdx_append_of_length_le (Nat.le_refl _)]
    simp
  · rw [infl_app, infl, ho, ← h2, List.set_append_right _ _ (Nat.le_refl _)]
    simp
theorem PK.one (x : PK) : ∀ u ∈ x.cells, u.oneCell' = true := by
  intro u hu
  simp only [PK.cells, List.mem_cons, List.not_mem_nil, or_false] at hu
  rcases hu with rfl | rfl | rfl | rfl <;> rfl
section
variable {w w' : World} {Z Z' : Nat → Prop} {rb : Nat} {m : Int} {v : Value} {P : List PK}
end
/-- a row of bytes of the call's own -/
theorem Byts.ofOwn {w : World} {base n c : Nat} {p : Option Addr} {f : Nat → Int} (h : w.ownsRow base 5 1 (.slice p n c) n ((List.range n).map fun j => .int .u8 (f j))) (hn : n ≤ 140737488355328) (hf : ∀ j, j < n → 0 ≤ f j ∧ f j < 256) : Byts w (fun k => base ≤ k) p n c f := by
  have hlt := h.lt
  have hce := @World.ownsRow.cells _ _ _ _ _ _ _ h
  obtain ⟨_, ⟨hv, h0⟩ | ⟨g, cap, cur, hv, hbg, hh, hnc, hcm, hcs, htk⟩⟩ := id h
  · obtain ⟨rfl, h1, rfl⟩ := Value.slice.inj hv
    rw [h0]
    exact ⟨fun h => absurd h (by omega), Nat.le_refl _, by omega, Nat.zero_le _, fun j hj => absurd hj (by omega), fun _ => ⟨rfl, rfl⟩⟩
  · obtain ⟨rfl, _, rfl⟩ := Value.slice.inj hv
    refine ⟨fun _ => ⟨g, 0, rfl, hbg, (hlt g rfl).2, fun j hj => ?_⟩, hnc, hn, hcm, hf, fun h => by cases h⟩
    have := hce (g := g) rfl j (.int .u8 (f j)) (by simp [List.getElem?_range hj])
    rw [Go.WideShapes.add_plain] at this
    exact this
def FreQ (n : Nat) (f : Nat → Int) (w : World) (e : Ending) (w' : World) : Prop := ∃ (p : Option Addr) (c : Nat), e = .returned (.slice p n c) ∧ w'.ownsRow w.heap.size 5 1 (.slice p n c) n ((List.range n).map fun j => .int .u8 (f j)) ∧ Below w.heap.size w w'
end Go.Proofs.Ytbeibhmbaofjhaa

namespace Go.Proofs.Ytbeibhmbaofjhaa
open Go.RowKit
set_option maxRecDepth 8000
set_option maxHeartbeats 4000000 in
/-- the reference's New -/
theorem infl_take {P : List PK} {k : Nat} {x : PK} (hx : P[k]? = some x) : infl (P.take (k + 1)) = infl (P.take k) ++ (if x.out then [] else [x.a]) := by
  rw [List.take_add_one, hx, infl_app]
  congr 1
end Go.Proofs.Ytbeibhmbaofjhaa
