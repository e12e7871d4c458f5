import Derived.Test.YtbkikbhodgjijaaYL
import Derived.Test.YtbkikbhodgjijaaRgF
namespace Go.Proofs.Ytbkikbhodgjijaa
open Go.RowKit Go.Shelf
set_option maxRecDepth 8000
attribute [local go_sem] Oper.semAt_some
theorem Box.grownN {W W' : World} {B b : Nat} {cs : Array Value} {e : TypeId} {row : Option Nat} (h : Box W b cs e) (hg : W.grownBy W' row) (hr : ∀ r, row = some r → B ≤ r ∧ ∃ o : Obj, W.heap[r]? = some o ∧ o.isCells = false) : Box W' b cs e :=
  h.kept (hg.block b h.lt (fun e => by
    obtain ⟨_, o, ho, hc⟩ := hr b e.symm
    unfold Box at h
    rw [h] at ho
    cases ho
    cases hc))
theorem wrap_nat {x : Nat} (h : x + 1 ≤ 140737488355328) : IntKind.i64.wrap ((x : Int) + 1) = ((x + 1 : Nat) : Int) := by
  rw [IntKind.wrap_i64]; omega
/-- a list from a place on -/
theorem sub_tr {w : World} {S : Nat → Prop} {l : LT TR} {b1 o1 x : Nat} (hl : LT.In elTr w S l) (hp : l.p = some ⟨b1, o1, none⟩) (hx : x + 1 ≤ l.n) : LT.In elTr w S ⟨if l.c = x + 1 then (some ⟨b1, o1, none⟩ : Option Addr) else some ⟨b1, o1 + (x + 1) * 4, none⟩, l.n - (x + 1), l.c - (x + 1), fun j => l.item (x + 1 + j)⟩ := by
  have hnc := hl.nc
  have hnn := hl.nn
  have hcc := hl.cc
  refine ⟨fun hn => ?_, fun _ _ => trivial, (by dsimp only; omega), (by dsimp only; omega), (by dsimp only; omega), fun h => ?_⟩
  · dsimp only at hn ⊢
    rw [if_neg (by omega)]
    obtain ⟨b, o, e, hS, hb, ha⟩ := hl.at_ (by omega)
    rw [hp] at e
    cases e
    refine ⟨b1, o1 + (x + 1) * 4, rfl, hS, hb, fun j hj r u hu => ?_⟩
    have := ha (x + 1 + j) (by omega) r u hu
    rw [show o1 + (x + 1) * 4 + j * elTr.size + r = o1 + (x + 1 + j) * elTr.size + r by simp only [elTr]; omega]
    exact this
  · dsimp only at h
    split at h <;> cases h
theorem set3 {W : World} {b : Nat} {x y z u v t : Value} {e : TypeId} (h : Box W b #[x, y, z] e) : Box (((W.setCell ⟨b, 0, none⟩ u).setCell ⟨b, 1, none⟩ v).setCell ⟨b, 2, none⟩ t) b #[u, v, t] e := by
  have := ((h.set 0 u).set 1 v).set 2 t
  simpa using this
theorem keeps3 (W : World) (B b : Nat) (u v t : Value) : KeepsFrom B W (((W.setCell ⟨b, 0, none⟩ u).setCell ⟨b, 1, none⟩ v).setCell ⟨b, 2, none⟩ t) := (((KeepsOthers.setCell W _ u).trans (KeepsOthers.setCell _ _ v)).trans (KeepsOthers.setCell _ _ t)).from B
theorem below3 {n : Nat} {w W : World} (h : Below n w W) {b : Nat} (hb : n ≤ b) (u v t : Value) : Below n w (((W.setCell ⟨b, 0, none⟩ u).setCell ⟨b, 1, none⟩ v).setCell ⟨b, 2, none⟩ t) := ((h.setCell (p := ⟨b, 0, none⟩) hb u).setCell (p := ⟨b, 1, none⟩) hb v).setCell (p := ⟨b, 2, none⟩) hb t
/-- where the last life begins -/
def Cuts (f : Nat → TR) (n a : Nat) : Prop := a ≤ n ∧ (a = 0 ∨ (f (a - 1)).kind = 11) ∧ ∀ q, a ≤ q → q < n → (f q).kind ≠ 11
def beganOf (f : Nat → TR) (a : Nat) : Int := if a = 0 then 0 else (f (a - 1)).id
/-- what lastLife answers -/
def LastQ (l : LT TR) (S : Nat → Prop) (w : World) (e : Ending) (w' : World) : Prop := ∃ (a : Nat) (pa pe : Option Addr) (ca ce : Nat), Cuts l.item l.n a ∧ e = .returned (.agg #[.int .i64 (beganOf l.item a), .slice pa (a - 1) ca, .slice pe (l.n - a) ce]) ∧ LT.In elTr w' S ⟨pa, a - 1, ca, l.item⟩ ∧ LT.In elTr w' S ⟨pe, l.n - a, ce, fun j => l.item (a + j)⟩ ∧ Below w.heap.size w w'
set_option maxHeartbeats 8000000 in
theorem lastLife_any (l : LT TR) (w : World) (S : Nat → Prop) (hl : LT.In elTr w S l) :
    Calls Try.prog 33 #[.slice l.p l.n l.c] w fun e w' => LastQ l S w e w' := by
  have hnn := hl.nn
  have hl0 : LT.In elTr w (fun b => b < w.heap.size) l := hl.mono fun b _ h => h
  refine (callsIn_wide (n := 3)).1 ?_
  refine callsIn_of_wp_marks Try.func33 rfl trivial ?_ rfl
  simp only [Try.ntmps33, List.size_toArray, List.length_cons, List.length_nil, Nat.reduceAdd, Nat.reduceSub, Array.replicate_succ, Array.replicate_zero, List.push_toArray, List.append_toArray, List.nil_append, List.cons_append]
  gi_wp2_with (refine ⟨trivial, ?_⟩; gi_at_call 43; refine (back_in Fence.wide 2 trivial rfl _ _ _ _).mono ?_; rintro e w' ⟨rfl, rfl⟩)
  obtain ⟨W0, hW0⟩ : ∃ W0, W0 = ((w.alloc (.cells #[.slice l.p l.n l.c] 22)).alloc (.cells #[.int .i64 0, .slice none 0 0, .slice none 0 0] 59)).alloc (.cells #[.slice l.p l.n l.c] 22) := ⟨_, rfl⟩
  have hB0 : Below w.heap.size w W0 := by rw [hW0]; exact (below2 _ _ _).alloc (by simp; omega) _
  have hs0 : W0.heap.size = w.heap.size + 3 := by rw [hW0]; simp
  have bL : Box W0 w.heap.size #[.slice l.p l.n l.c] 22 := by rw [hW0]; exact ((Box.new w _ _).below (below1 _ _)).below (below1 _ _)
  have bR : Box W0 (w.heap.size + 1) #[.int .i64 0, .slice none 0 0, .slice none 0 0] 59 := by
    rw [hW0]
    have := (Box.new (w.alloc (.cells #[.slice l.p l.n l.c] 22)) #[.int .i64 0, .slice none 0 0, .slice none 0 0] 59).below (below1 _ (.cells #[.slice l.p l.n l.c] 22))
    simpa using this
  have bS : Box W0 (w.heap.size + 2) #[.slice l.p l.n l.c] 22 := by
    rw [hW0]
    have := Box.new ((w.alloc (.cells #[.slice l.p l.n l.c] 22)).alloc (.cells #[.int .i64 0, .slice none 0 0, .slice none 0 0] 59)) #[.slice l.p l.n l.c] 22
    simpa using this
  have hl3 : LT.In elTr W0 (fun b => b < w.heap.size + 3) l := (hl0.kept hB0.size fun b hb _ => hB0.block b hb).mono fun b hb _ => by omega
  rw [← hW0]
  clear hW0
  refine wpIn_rangeFunc_ownH rfl (by omega) (gf := 50) (lb := #[.pointer (some ⟨w.heap.size + 2, 0, none⟩)]) rfl trivial (enters_of Try.func50 (by kernel_rfl) rfl)
    (back_stops Fence.wide 2 trivial rfl (by omega) (w.heap.size + 2) (w.heap.size + 3) l W0 (by omega) (by omega) (by have := bS.cell 0; simpa using this) hl3) belowK_t (belowK_b (by omega)) (Below.refl _ _) (fun _ => rfl)
    (fun pre W => (∀ y ∈ pre, (l.item y.val).kind ≠ 11) ∧ Below W0.heap.size W0 W)
    (fun c pre W => (c = .ret ∧ ∃ (ini : List (Fin l.n)) (x : Fin l.n) (pe : Option Addr) (ce : Nat), pre = ini ++ [x] ∧ (∀ y ∈ ini, (l.item y.val).kind ≠ 11) ∧ (l.item x.val).kind = 11 ∧ Box W (w.heap.size + 1) #[.int .i64 (l.item x.val).id, .slice l.p x.val l.c, .slice pe (l.n - (x.val + 1)) ce] 59 ∧ LT.In elTr W (fun b => S b ∧ b < w.heap.size) ⟨pe, l.n - (x.val + 1), ce, fun j => l.item (x.val + 1 + j)⟩) ∧ Below w.heap.size w W)
    (OwnFrom.and (ownFrom_pure _ _) (ownFrom_below (Nat.le_refl _) (Nat.le_refl _)))
    (fun c => OwnFrom.and (fun s A B row hs hg hr => by
      obtain ⟨rfl, ini, x, pe, ce, e1, e2, e3, e4, e5⟩ := hs
      exact ⟨rfl, ini, x, pe, ce, e1, e2, e3, e4.grownN hg hr, e5.kept hg.size fun b hb hl => hg.block b hl fun e => by have := (hr b e.symm).1; omega⟩) (ownFrom_below (Nat.le_refl _) (by omega)))
    ⟨by simp, Below.refl _ _⟩
    (fun x a' W => ∃ Bx, W0.heap.size ≤ Bx ∧ Box W Bx #[.int .i64 (l.item x.val).kind, .int .i64 (l.item x.val).task, .int .i64 (l.item x.val).port, .int .i64 (l.item x.val).id] 37 ∧ a' = { tmps := #[.slice l.p l.n l.c, .pointer (some ⟨w.heap.size, 0, none⟩), .pointer (some ⟨w.heap.size + 1, 0, none⟩), .int .i64 (x.val : Int), .pointer (some ⟨Bx, 0, none⟩), .slice l.p l.n l.c, .func (.func 50) #[] #[.pointer (some ⟨w.heap.size + 2, 0, none⟩)], .int .i64 (x.val : Int), trV (l.item x.val), undef, undef, undef, undef, undef, undef, undef, undef, undef, undef, undef, undef, undef, undef, undef], defers := [] })
    (fun x a' _ X Y row hs hg hr => by obtain ⟨Bx, e1, e2, e3⟩ := hs; exact ⟨Bx, e1, e2.grownN hg hr, e3⟩)
    ?assign ?body ?done ?stop
  case assign =>
    rintro l' pre x W K ⟨hp, hB1⟩ hK
    unfold trV
    gi_wp2
    exact hK _ _ ((KeepsOthers.alloc _ _).from _) ((Below.refl _ W).alloc (by have := hB1.size; omega) _) ⟨hp, hB1.alloc hB1.size _⟩ ⟨W.heap.size, hB1.size, Box.new W _ _, rfl⟩
  case body =>
    rintro l' pre ⟨x, hxn⟩ a' W hl' ⟨r, hr⟩ ⟨hp, hB1⟩ ⟨Bx, hBx, bX, rfl⟩ hlt
    dsimp only at bX ⊢
    have x0 := bX.cell 0
    have x3 := bX.cell 3
    have y0 := (bL.below hB1).cell 0
    have r0 := (bR.below hB1).cell 0
    have r1 := (bR.below hB1).cell 1
    have r2 := (bR.below hB1).cell 2
    have f0 := (bR.below hB1).frozen 0
    have f1 := (bR.below hB1).frozen 1
    have f2 := (bR.below hB1).frozen 2
    simp at x0 x3 y0 r0 r1 r2
    by_cases hk : (l.item x).kind = 11
    · rw [hk] at x0
      obtain ⟨b1, o1, hp1, hS1, hb1, ha1⟩ := hl.at_ (by omega)
      rw [hp1] at y0 ⊢
      have hxn' : (x : Int) < (l.n : Int) := by omega
      have hnc := hl.nc
      have hxc : x ≤ l.c := by omega
      have hx1 : x + 1 ≤ l.n := by omega
      have hx2 : x + 1 ≤ l.c := by omega
      have hx3 : (0 : Int) ≤ (x : Int) + 1 := by omega
      have hx4 : (x : Int) + 1 ≤ (l.n : Int) := by omega
      gi_wp2
      refine wpIn_region_calmE l' _ 30 (fun wx => Below W.heap.size W wx) [(0, true), (1, false), (2, false), (3, true), (4, true), (5, false), (6, true), (7, true), (8, true), (9, true)] (.one 10 false [] .done) (by kernel_rfl) (by kernel_rfl) (by kernel_rfl) (Below.refl _ _).drew ?_
      refine wpPre_e rfl rfl (fun K1 hK1 => ?_)
      apply Exists.intro
      refine And.intro (fun wx hx => ?_) ?_
      · go_simp
        try rfl
      go_simp
      refine hK1 _ ?_
      clear hK1 K1
      refine wpPre_e rfl rfl (fun K1 hK1 => ?_)
      apply Exists.intro
      refine And.intro (fun wx hx => ?_) ?_
      · have e0 := below_fact hx rfl x3
        have e1 := below_fact hx rfl y0
        go_simp
        try rfl
      go_simp
      refine hK1 _ ?_
      clear hK1 K1
      refine wpPre_e rfl rfl (fun K1 hK1 => ?_)
      apply Exists.intro
      refine And.intro (fun wx hx => ?_) ?_
      · have e0 := below_fact hx rfl x3
        have e1 := below_fact hx rfl y0
        go_simp
        try rfl
      go_simp
      refine hK1 _ ?_
      clear hK1 K1
      refine wpPre_e rfl rfl (fun K1 hK1 => ?_)
      apply Exists.intro
      refine And.intro (fun wx hx => ?_) ?_
      · go_simp
        try rfl
      go_simp
      refine hK1 _ ?_
      clear hK1 K1
      refine wpPre_e rfl rfl (fun K1 hK1 => ?_)
      apply Exists.intro
      refine And.intro (fun wx hx => ?_) ?_
      · go_simp
        try rfl
      go_simp
      refine hK1 _ ?_
      clear hK1 K1
      refine wpPre_e rfl rfl (fun K1 hK1 => ?_)
      apply Exists.intro
      refine And.intro (fun wx hx => ?_) ?_
      · have e0 := below_fact hx rfl x3
        have e1 := below_fact hx rfl y0
        go_simp
        try rfl
      go_simp
      refine hK1 _ ?_
      clear hK1 K1
      refine wpPre_e rfl rfl (fun K1 hK1 => ?_)
      apply Exists.intro
      refine And.intro (fun wx hx => ?_) ?_
      · go_simp
        try rfl
      go_simp
      refine hK1 _ ?_
      clear hK1 K1
      refine wpPre_e rfl rfl (fun K1 hK1 => ?_)
      apply Exists.intro
      refine And.intro (fun wx hx => ?_) ?_
      · go_simp
        try rfl
      go_simp
      refine hK1 _ ?_
      clear hK1 K1
      rw [wrap_nat (show x + 1 ≤ 140737488355328 by omega)]
      refine wpPre_e rfl rfl (fun K1 hK1 => ?_)
      apply Exists.intro
      refine And.intro (fun wx hx => ?_) ?_
      · go_simp
        try rfl
      go_simp
      refine hK1 _ ?_
      clear hK1 K1
      generalize hpe : (if l.c = x + 1 then (some ⟨b1, o1, none⟩ : Option Addr) else some ⟨b1, o1 + (x + 1) * 4, none⟩) = pe
      refine wpPre_e rfl rfl (fun K1 hK1 => ?_)
      apply Exists.intro
      refine And.intro (fun wx hx => ?_) ?_
      · go_simp
        try rfl
      go_simp
      refine hK1 _ ?_
      clear hK1 K1
      refine wpPre_nil ?_
      refine wpTr_e rfl (fun K1 hK1 => ?_)
      go_simp
      refine hK1 _ _ (fun h => by cases h) ?_
      clear hK1 K1
      refine wpPre_nil ?_
      refine wpTr_done ⟨rfl, ?_⟩
      gi_wp2
      have hbw : Below w.heap.size w W := hB0.trans (hB1.mono (by omega))
      have hb' := below3 hbw (b := w.heap.size + 1) (by omega) (.int .i64 (l.item x).id) (.slice (some ⟨b1, o1, none⟩) x l.c) (.slice pe (l.n - (x + 1)) (l.c - (x + 1)))
      refine ⟨(keeps3 _ _ _ _ _ _).trans ((KeepsOthers.drew _).from _), ⟨rfl, pre, ⟨x, hxn⟩, pe, l.c - (x + 1), rfl, hp, hk, ?_, ?_⟩, hb'.drew⟩
      · exact set3 (bR.below hB1)
      · have h9 := sub_tr ((hl.mono fun b hb hlt => (⟨hb, hlt⟩ : S b ∧ b < w.heap.size)).kept hb'.drew.size fun b hb _ => hb'.drew.block b hb.2) hp1 hx1
        rw [hpe] at h9
        exact h9
    · gi_wp2
      exact ⟨KeepsFrom.refl _ _, Below.refl _ _, fun y hy => (List.mem_append.1 hy).elim (hp y) (fun e => by simp at e; subst e; exact hk), hB1⟩
  case done =>
    rintro D ys W hD rfl ⟨hne, hB1⟩ hK
    have y0 := (bL.below hB1).cell 0
    have r0 := (bR.below hB1).cell 0
    have r1 := (bR.below hB1).cell 1
    have r2 := (bR.below hB1).cell 2
    have f0 := (bR.below hB1).frozen 0
    have f1 := (bR.below hB1).frozen 1
    have f2 := (bR.below hB1).frozen 2
    simp at y0 r0 r1 r2
    gi_wp2
    have hbw : Below w.heap.size w W := hB0.trans (hB1.mono (by omega))
    have hb' := below3 hbw (b := w.heap.size + 1) (by omega) (.int .i64 0) (.slice none 0 0) (.slice l.p l.n l.c)
    have hK' := (keeps3 W 0 (w.heap.size + 1) (.int .i64 0) (.slice none 0 0) (.slice l.p l.n l.c)).same D _ (Nat.zero_le _) hK rfl
    have hbx := (set3 (u := .int .i64 0) (v := .slice none 0 0) (t := .slice l.p l.n l.c) (bR.below hB1)).grownN (grownBy_putObj' _ D (.deferred none)) (B := 0) (fun r e => by cases e; exact ⟨Nat.zero_le _, _, hK', rfl⟩)
    have g0 := hbx.cell 0
    have g1 := hbx.cell 1
    have g2 := hbx.cell 2
    simp at g0 g1 g2
    have hbl := hb'.trans (belowK_b (w := w) (Nat.le_refl _) _ D _ (.deferred none) (by omega) hK' rfl rfl)
    refine ⟨by simp, .inl ⟨_, _, rfl, run_takeDeferred hK', ?_⟩⟩
    refine ⟨.agg #[.int .i64 0, .slice none 0 0, .slice l.p l.n l.c], by simp [results, Try.results33, go_sem, g0, g1, g2], 0, none, l.p, 0, l.c, ⟨Nat.zero_le _, .inl rfl, fun q _ hq => hne ⟨q, hq⟩ ((backs_mem (Nat.le_refl _)).2 (by simp))⟩, rfl, LT.In.none_ elTr _ _ none 0 _ (Nat.zero_le _) (fun _ => rfl), ?_, hbl⟩
    have := hl.below hbl
    simpa using this
  case stop =>
    rintro D c pre W hD ⟨k, hk, rfl⟩ ⟨⟨rfl, ini, ⟨x, hx⟩, pe, ce, e1, e2, e3, e4, e5⟩, hB⟩ hK
    gi_wp2
    try dsimp only at e3 e4 e5
    obtain ⟨k', rfl⟩ : ∃ k', k = k' + 1 := by
      cases k with
      | zero => simp [backs] at e1
      | succ k' => exact ⟨k', rfl⟩
    rw [backs_succ (by omega)] at e1
    obtain ⟨rfl, e6⟩ := List.append_inj' e1 rfl
    have e7 : x = l.n - 1 - k' := by simpa using e6.symm
    subst e7
    have hbx := e4.grownN (grownBy_putObj' _ D (.deferred none)) (B := 0) (fun r e => by cases e; exact ⟨Nat.zero_le _, _, hK, rfl⟩)
    have g0 := hbx.cell 0
    have g1 := hbx.cell 1
    have g2 := hbx.cell 2
    simp at g0 g1 g2
    have hbt := belowK_b (n₀ := w.heap.size) (w := w) (Nat.le_refl _) W D _ (.deferred none) (by omega) hK rfl rfl
    have hbl := hB.trans hbt
    refine ⟨by simp, .inl ⟨_, _, rfl, run_takeDeferred hK, ?_⟩⟩
    have ea : l.n - 1 - k' + 1 - 1 = l.n - 1 - k' := by omega
    refine ⟨.agg #[.int .i64 (l.item (l.n - 1 - k')).id, .slice l.p (l.n - 1 - k') l.c, .slice pe (l.n - (l.n - 1 - k' + 1)) ce], by simp [results, Try.results33, go_sem, g0, g1, g2], l.n - 1 - k' + 1, l.p, pe, l.c, ce, ⟨by omega, .inr (by rw [ea]; exact e3), fun q h1 h2 => e2 ⟨q, h2⟩ ((backs_mem (by omega)).2 (by dsimp only; omega))⟩, ?_, ?_, ?_, hbl⟩
    · rw [ea]
      simp only [beganOf, Nat.add_eq_zero_iff, Nat.succ_ne_self, and_false, if_false, ea]
    · rw [ea]
      have h9 := hl.below hbl
      exact ⟨fun hn => by
        obtain ⟨b, o, e, hS, hb, ha⟩ := h9.at_ (by omega)
        exact ⟨b, o, e, hS, hb, fun j hj => ha j (by dsimp only at hj; omega)⟩, fun _ _ => trivial, by have := hl.nc; dsimp only; omega, by dsimp only; omega, hl.cc, fun h => by have := h9.nil h; dsimp only; omega⟩
    · exact (e5.kept hbt.size fun b hb _ => hbt.block b hb.2).mono fun b hb _ => hb.1
end Go.Proofs.Ytbkikbhodgjijaa
