import Derived.Test.YtdpfgflofjiheaaPack11
import Derived.Test.YtdpfgflofjiheaaYN
namespace Go.Proofs.Ytdpfgflofjiheaa
open Go.RowKit Go.Shelf
set_option maxRecDepth 8000
attribute [local go_sem] Oper.semAt_some
/-- what lifeOf answers -/
def LifeOfQ (l : LT TR) (S : Nat → Prop) (i : Int) (w : World) (e : Ending) (w' : World) : Prop := Below w.heap.size w w' ∧ ((NoLife l.item l.n i ∧ e = .returned (.tuple #[.agg #[.int .i64 0, .slice none 0 0, .slice none 0 0], .bool false])) ∨ ∃ (a b : Nat) (pa pe : Option Addr) (ca ce : Nat), LifeAt l.item l.n i a b ∧ e = .returned (.tuple #[.agg #[.int .i64 (beganOf l.item a), .slice pa (a - 1) ca, .slice pe (b - a) ce], .bool true]) ∧ LT.In elTr w' S ⟨pa, a - 1, ca, l.item⟩ ∧ LT.In elTr w' S ⟨pe, b - a, ce, fun j => l.item (a + j)⟩)
theorem LT.In.front {w : World} {S : Nat → Prop} {l : LT TR} (hl : LT.In elTr w S l) {m : Nat} (hm : m ≤ l.n) : LT.In elTr w S ⟨l.p, m, l.c, l.item⟩ := by
  refine ⟨fun hn => ?_, fun _ _ => trivial, by have := hl.nc; dsimp only; omega, by have := hl.nn; dsimp only; omega, hl.cc, fun h => ?_⟩
  · obtain ⟨b, o, e, hS, hb, ha⟩ := hl.at_ (by dsimp only at hn; omega)
    exact ⟨b, o, e, hS, hb, fun j hj => ha j (by dsimp only at hj; omega)⟩
  · have := hl.nil h
    dsimp only
    omega
theorem keeps_below {B : Nat} {W X : World} (h : Below W.heap.size W X) : KeepsFrom B W X := ⟨h.size, fun k _ _ hk _ => (h.block k (Array.getElem?_eq_some_iff.1 hk).1).trans hk⟩
/-- the found life, by places -/
structure Found (f : Nat → TR) (i : Int) (x a b : Nat) : Prop where
  cut : Cuts f (x + 1) a
  ab : a ≤ b
  bx : b ≤ x
  rd : f b = ⟨6, 0, 0, i⟩
  no : ∀ q, a ≤ q → q < b → f q ≠ ⟨6, 0, 0, i⟩
theorem Found.life {f : Nat → TR} {n : Nat} {i : Int} {x a b : Nat} (h : Found f i x a b) (hx : x < n) (hr : f x = ⟨6, 0, 0, i⟩) (hl : ∀ q, x < q → q < n → f q ≠ ⟨6, 0, 0, i⟩) (hrd : ∀ q, q < n → (f q).rd i → f q = ⟨6, 0, 0, i⟩) : LifeAt f n i a b := by
  have hbx := h.bx
  refine ⟨h.ab, by omega, by rw [h.rd]; exact ⟨rfl, rfl⟩, fun q h1 h2 h3 => h.no q h1 h2 (hrd q (by omega) h3), h.cut.2.1, x, hbx, hx, by rw [hr]; exact ⟨rfl, rfl⟩, fun q h1 h2 h3 => hl q h1 h2 (hrd q h2 h3), fun q h1 h2 => h.cut.2.2 q h1 (by omega)⟩
set_option maxHeartbeats 16000000 in
theorem lifeOf_any (l : LT TR) (i : Int) (w : World) (S : Nat → Prop) (hl : LT.In elTr w S l) (hrd : ∀ q, q < l.n → (l.item q).rd i → l.item q = ⟨6, 0, 0, i⟩) :
    Calls Try.prog 44 #[.slice l.p l.n l.c, .int .i64 i] w fun e w' => LifeOfQ l S i w e w' := by
  have hnn := hl.nn
  have hl0 : LT.In elTr w (fun b => b < w.heap.size) l := hl.mono fun b _ h => h
  refine (callsIn_wide (n := 3)).1 ?_
  refine callsIn_of_wp_marks Try.func44 rfl trivial ?_ rfl
  simp only [Try.ntmps44, List.size_toArray, List.length_cons, List.length_nil, Nat.reduceAdd, Nat.reduceSub, Array.replicate_succ, Array.replicate_zero, List.push_toArray, List.append_toArray, List.nil_append, List.cons_append]
  gi_wp2_with (refine ⟨trivial, ?_⟩; gi_at_call 43; refine (back_in Fence.wide 2 trivial rfl _ _ _ _).mono ?_; rintro e w' ⟨rfl, rfl⟩)
  obtain ⟨W0, hW0⟩ : ∃ W0, W0 = ((((w.alloc (.cells #[.slice l.p l.n l.c] 22)).alloc (.cells #[.int .i64 0, .slice none 0 0, .slice none 0 0] 59)).alloc (.cells #[.bool false] 4)).alloc (.cells #[.int .i64 6, .int .i64 0, .int .i64 0, .int .i64 i] 37)).alloc (.cells #[.slice l.p l.n l.c] 22) := ⟨_, rfl⟩
  have hB0 : Below w.heap.size w W0 := by rw [hW0]; exact (((below2 _ _ _).alloc (by simp; omega) _).alloc (by simp; omega) _).alloc (by simp; omega) _
  have hs0 : W0.heap.size = w.heap.size + 5 := by rw [hW0]; simp
  have bL : Box W0 w.heap.size #[.slice l.p l.n l.c] 22 := by rw [hW0]; exact ((((Box.new w _ _).below (below1 _ _)).below (below1 _ _)).below (below1 _ _)).below (below1 _ _)
  have bR : Box W0 (w.heap.size + 1) #[.int .i64 0, .slice none 0 0, .slice none 0 0] 59 := by
    rw [hW0]
    have := (((Box.new (w.alloc (.cells #[.slice l.p l.n l.c] 22)) #[.int .i64 0, .slice none 0 0, .slice none 0 0] 59).below (below1 _ (.cells #[.bool false] 4))).below (below1 _ (.cells #[.int .i64 6, .int .i64 0, .int .i64 0, .int .i64 i] 37))).below (below1 _ (.cells #[.slice l.p l.n l.c] 22))
    simpa using this
  have bF : Box W0 (w.heap.size + 2) #[.bool false] 4 := by
    rw [hW0]
    have := ((Box.new ((w.alloc (.cells #[.slice l.p l.n l.c] 22)).alloc (.cells #[.int .i64 0, .slice none 0 0, .slice none 0 0] 59)) #[.bool false] 4).below (below1 _ (.cells #[.int .i64 6, .int .i64 0, .int .i64 0, .int .i64 i] 37))).below (below1 _ (.cells #[.slice l.p l.n l.c] 22))
    simpa using this
  have bY : Box W0 (w.heap.size + 3) #[.int .i64 6, .int .i64 0, .int .i64 0, .int .i64 i] 37 := by
    rw [hW0]
    have := (Box.new (((w.alloc (.cells #[.slice l.p l.n l.c] 22)).alloc (.cells #[.int .i64 0, .slice none 0 0, .slice none 0 0] 59)).alloc (.cells #[.bool false] 4)) #[.int .i64 6, .int .i64 0, .int .i64 0, .int .i64 i] 37).below (below1 _ (.cells #[.slice l.p l.n l.c] 22))
    simpa using this
  have bS : Box W0 (w.heap.size + 4) #[.slice l.p l.n l.c] 22 := by
    rw [hW0]
    have := Box.new ((((w.alloc (.cells #[.slice l.p l.n l.c] 22)).alloc (.cells #[.int .i64 0, .slice none 0 0, .slice none 0 0] 59)).alloc (.cells #[.bool false] 4)).alloc (.cells #[.int .i64 6, .int .i64 0, .int .i64 0, .int .i64 i] 37)) #[.slice l.p l.n l.c] 22
    simpa using this
  have hl3 : LT.In elTr W0 (fun b => b < w.heap.size + 5) l := (hl0.kept hB0.size fun b hb _ => hB0.block b hb).mono fun b hb _ => by omega
  rw [← hW0]
  clear hW0
  refine wpIn_rangeFunc_ownH rfl (by omega) (gf := 50) (lb := #[.pointer (some ⟨w.heap.size + 4, 0, none⟩)]) rfl trivial (enters_of Try.func50 (by kernel_rfl) rfl)
    (back_stops Fence.wide 2 trivial rfl (by omega) (w.heap.size + 4) (w.heap.size + 5) l W0 (by omega) (by omega) (by have := bS.cell 0; simpa using this) hl3) belowK_t (belowK_b (by omega)) (Below.refl _ _) (fun _ => rfl)
    (fun pre W => (∀ y ∈ pre, l.item y.val ≠ ⟨6, 0, 0, i⟩) ∧ Below W0.heap.size W0 W)
    (fun c pre W => (c = .ret ∧ ∃ (ini : List (Fin l.n)) (x : Fin l.n) (a b : Nat) (pa pe : Option Addr) (ca ce : Nat), pre = ini ++ [x] ∧ (∀ y ∈ ini, l.item y.val ≠ ⟨6, 0, 0, i⟩) ∧ l.item x.val = ⟨6, 0, 0, i⟩ ∧ Found l.item i x.val a b ∧ Box W (w.heap.size + 1) #[.int .i64 (beganOf l.item a), .slice pa (a - 1) ca, .slice pe (b - a) ce] 59 ∧ Box W (w.heap.size + 2) #[.bool true] 4 ∧ LT.In elTr W (fun b => S b ∧ b < w.heap.size) ⟨pa, a - 1, ca, l.item⟩ ∧ LT.In elTr W (fun b => S b ∧ b < w.heap.size) ⟨pe, b - a, ce, fun j => l.item (a + j)⟩) ∧ Below w.heap.size w W)
    (OwnFrom.and (ownFrom_pure _ _) (ownFrom_below (Nat.le_refl _) (Nat.le_refl _)))
    (fun c => OwnFrom.and (fun s A B row hs hg hr => by
      obtain ⟨rfl, ini, x, a, b, pa, pe, ca, ce, e1, e2, e3, e4, e5, e6, e7, e8⟩ := hs
      exact ⟨rfl, ini, x, a, b, pa, pe, ca, ce, e1, e2, e3, e4, e5.grownN hg hr, e6.grownN hg hr, e7.kept hg.size fun b hb hl => hg.block b hl fun e => by have := (hr b e.symm).1; omega, e8.kept hg.size fun b hb hl => hg.block b hl fun e => by have := (hr b e.symm).1; omega⟩) (ownFrom_below (Nat.le_refl _) (by omega)))
    ⟨by simp, Below.refl _ _⟩
    (fun x a' W => ∃ Bx, W0.heap.size ≤ Bx ∧ Box W Bx #[.int .i64 (l.item x.val).kind, .int .i64 (l.item x.val).task, .int .i64 (l.item x.val).port, .int .i64 (l.item x.val).id] 37 ∧ a' = { tmps := #[.slice l.p l.n l.c, .int .i64 i, .pointer (some ⟨w.heap.size, 0, none⟩), undef, .pointer (some ⟨w.heap.size + 1, 0, none⟩), .pointer (some ⟨w.heap.size + 2, 0, none⟩), .pointer (some ⟨w.heap.size + 3, 0, none⟩), .int .i64 (x.val : Int), .pointer (some ⟨Bx, 0, none⟩), undef, .int .i64 i, .agg #[.int .i64 6, .int .i64 0, .int .i64 0, .int .i64 i], .slice l.p l.n l.c, .func (.func 50) #[] #[.pointer (some ⟨w.heap.size + 4, 0, none⟩)], .int .i64 (x.val : Int), trV (l.item x.val), undef, undef, undef, undef, undef, undef, undef, undef, undef, undef, undef, undef, undef, undef, undef, undef, undef, undef], defers := [] })
    (fun x a' _ X Y row hs hg hr => by obtain ⟨Bx, e1, e2, e3⟩ := hs; exact ⟨Bx, e1, e2.grownN hg hr, e3⟩)
    ?assign ?body ?done ?stop
  case assign =>
    rintro l' pre x W K ⟨hp, hB1⟩ hK
    unfold trV
    gi_wp2
    exact hK _ _ ((KeepsOthers.alloc _ _).from _) ((Below.refl _ W).alloc (by have := hB1.size; omega) _) ⟨hp, hB1.alloc hB1.size _⟩ ⟨W.heap.size, hB1.size, Box.new W _ _, rfl⟩
  case body =>
    rintro l' pre ⟨x, hxn⟩ a' W hl' ⟨r, hr⟩ ⟨hp, hB1⟩ ⟨Bx, hBx, bX, rfl⟩ hlt
    dsimp only at bX ⊢
    have x0 := bX.cell 0
    have x1 := bX.cell 1
    have x2 := bX.cell 2
    have x3 := bX.cell 3
    have y0 := (bY.below hB1).cell 0
    have y1 := (bY.below hB1).cell 1
    have y2 := (bY.below hB1).cell 2
    have y3 := (bY.below hB1).cell 3
    have z0 := (bL.below hB1).cell 0
    simp at x0 x1 x2 x3 y0 y1 y2 y3 z0
    by_cases h0 : (l.item x).kind = 6
    · by_cases h1 : (l.item x).task = 0
      · by_cases h2 : (l.item x).port = 0
        · by_cases h3 : (l.item x).id = i
          · have HE : Hid (l.item x = ⟨6, 0, 0, i⟩) := TR.ext_ h0 h1 h2 h3
            rw [h0] at x0
            rw [h1] at x1
            rw [h2] at x2
            rw [h3] at x3
            clear h0 h1 h2 h3
            obtain ⟨b1, o1, hp1, hS1, hb1, ha1⟩ := hl.at_ (by omega)
            have hnc := hl.nc
            have hbw : Below w.heap.size w W := hB0.trans (hB1.mono (by omega))
            have hlW : LT.In elTr W (fun b => S b ∧ b < w.heap.size) l := (hl.mono fun b hb hlt => (⟨hb, hlt⟩ : S b ∧ b < w.heap.size)).kept hbw.size fun b hb _ => hbw.block b hb.2
            have HL := hid (lastLife_any ⟨l.p, x + 1, l.c, l.item⟩ W _ (hlW.front (m := x + 1) (by omega)))
            dsimp only at HL
            rw [hp1] at z0 HL ⊢
            have hx2 : x + 1 ≤ l.c := by omega
            have hx3 : (0 : Int) ≤ (x : Int) + 1 := by omega
            have hx4 : (x : Int) + 1 ≤ (l.c : Int) := by omega
            have h47 : x + 1 ≤ 140737488355328 := by omega
            gi_wp2
            refine ⟨trivial, ?_⟩
            refine (CallsIn.inRound l' (callsIn_wide.2 HL.out)).mono ?_
            rintro e W1 ⟨a, pa, pe, ca, ce, hcut, rfl, hA, hE, hb1'⟩
            dsimp only at hcut hA hE
            obtain ⟨bg, hbg⟩ : ∃ bg, bg = beganOf l.item a := ⟨_, rfl⟩
            rw [← hbg]
            obtain ⟨V, hV⟩ : ∃ V, V = W1.alloc (.cells #[.int .i64 bg, .slice pa (a - 1) ca, .slice pe (x + 1 - a) ce] 59) := ⟨_, rfl⟩
            have hVb : Below W1.heap.size W1 V := by rw [hV]; exact below1 _ _
            have hVW : Below W.heap.size W V := hb1'.trans (hVb.mono hb1'.size)
            have bN : Box V W1.heap.size #[.int .i64 bg, .slice pa (a - 1) ca, .slice pe (x + 1 - a) ce] 59 := by rw [hV]; exact Box.new _ _ _
            have hs1 : W.heap.size ≤ W1.heap.size := hb1'.size
            have hsW : w.heap.size + 5 ≤ W.heap.size := by have := hB1.size; omega
            have bYV := (bY.below hB1).below hVW
            have bRV := (bR.below hB1).below hVW
            have bFV := (bF.below hB1).below hVW
            have hax : a ≤ x := by
              rcases hcut.2.1 with h | h
              · omega
              · have h1 := hcut.1
                by_cases h2 : a = x + 1
                · rw [h2, Nat.add_sub_cancel, HE.out] at h
                  cases h
                · omega
            have hAV := hA.below hVb
            have hEV := hE.below hVb
            have HI : Hid (Calls Try.prog 51 #[.slice pe (x + 1 - a) ce, .agg #[.int .i64 6, .int .i64 0, .int .i64 0, .int .i64 i]] V.drew fun e w' => ∃ k : Nat, e = .returned (.int .i64 (k : Int)) ∧ k < x + 1 - a ∧ l.item (a + k) = ⟨6, 0, 0, i⟩ ∧ (∀ q, q < k → l.item (a + q) ≠ ⟨6, 0, 0, i⟩) ∧ Below V.heap.size V w') := by
              refine (YN_any ⟨pe, x + 1 - a, ce, fun j => l.item (a + j)⟩ ⟨6, 0, 0, i⟩ V.drew _ (hEV.below (Below.refl _ V).drew)).mono ?_
              rintro e w' ⟨hq, hb⟩
              have hb9 : Below V.heap.size V w' := (Below.refl _ V).drew.trans hb
              rcases hq with ⟨_, h⟩ | ⟨k, h1, h2, h3, h4⟩
              · exact (h (x - a) (by dsimp only; omega) (by dsimp only; rw [show a + (x - a) = x by omega]; exact HE.out)).elim
              · exact ⟨k, h2, h1, h3, h4, hb9⟩
            have hcE : x + 1 - a ≤ ce := hE.nc
            have n2 := bN.cell 2
            have q0 := bYV.cell 0
            have q1 := bYV.cell 1
            have q2 := bYV.cell 2
            have q3 := bYV.cell 3
            simp at n2 q0 q1 q2 q3
            have HV := hid hV
            have HCut := hid hcut
            have HBg := hid hbg
            clear hV hcut hbg HL z0 x0 x1 x2 x3 y0 y1 y2 y3
            gi_wp2
            rw [← HV.out]
            refine wpIn_region_calmE l' _ 30 (fun wx => Below V.heap.size V wx) [(0, true), (1, false), (2, true), (3, false), (4, false)] (.one 5 true [(6, true), (7, true)] (.one 8 false [] .done)) (by kernel_rfl) (by kernel_rfl) (by kernel_rfl) (Below.refl _ _).drew ?_
            refine wpPre_e rfl rfl (fun K1 hK1 => ?_)
            apply Exists.intro
            refine And.intro (fun wx hx => ?_) ?_
            · go_simp
              try rfl
            go_simp
            refine hK1 _ ?_
            clear hK1 K1
            refine wpPre_e rfl rfl (fun K1 hK1 => ?_)
            apply Exists.intro
            refine And.intro (fun wx hx => ?_) ?_
            · have e0 := below_fact hx rfl n2
              have e1 := below_fact hx rfl q0
              have e2 := below_fact hx rfl q1
              have e3 := below_fact hx rfl q2
              have e4 := below_fact hx rfl q3
              go_simp
              try rfl
            go_simp
            refine hK1 _ ?_
            clear hK1 K1
            refine wpPre_e rfl rfl (fun K1 hK1 => ?_)
            apply Exists.intro
            refine And.intro (fun wx hx => ?_) ?_
            · go_simp
              try rfl
            go_simp
            refine hK1 _ ?_
            clear hK1 K1
            refine wpPre_e rfl rfl (fun K1 hK1 => ?_)
            apply Exists.intro
            refine And.intro (fun wx hx => ?_) ?_
            · have e0 := below_fact hx rfl n2
              have e1 := below_fact hx rfl q0
              have e2 := below_fact hx rfl q1
              have e3 := below_fact hx rfl q2
              have e4 := below_fact hx rfl q3
              go_simp
              try rfl
            go_simp
            refine hK1 _ ?_
            clear hK1 K1
            refine wpPre_e rfl rfl (fun K1 hK1 => ?_)
            apply Exists.intro
            refine And.intro (fun wx hx => ?_) ?_
            · have e0 := below_fact hx rfl n2
              have e1 := below_fact hx rfl q0
              have e2 := below_fact hx rfl q1
              have e3 := below_fact hx rfl q2
              have e4 := below_fact hx rfl q3
              go_simp
              try rfl
            go_simp
            refine hK1 _ ?_
            clear hK1 K1
            refine wpPre_nil ?_
            refine wpTr_e rfl (fun K1 hK1 => ?_)
            refine step_callG (by first | rfl | go_simp) 51 #[.tmp 27, .tmp 28] _ rfl Try.f51 Try.func51 (by kernel_rfl) rfl #[.slice pe (x + 1 - a) ce, .agg #[.int .i64 6, .int .i64 0, .int .i64 0, .int .i64 i]] rfl _ HI.out ?_
            rintro e_ w2 ⟨k, rfl, hk1, hk2, hk3, hbI⟩
            refine ⟨_, rfl, ?_⟩
            have bN2 := bN.below hbI
            have m0 := bN2.cell 0
            have m1 := bN2.cell 1
            have m2 := bN2.cell 2
            have mf := bN2.frozen 2
            have ml := bN2.lt
            simp at m0 m1 m2
            have hkc : k ≤ ce := by omega
            go_simp
            refine hK1 _ _ (fun _ => hbI) ?_
            clear hK1 K1
            refine wpPre_e rfl rfl (fun K1 hK1 => ?_)
            apply Exists.intro
            refine And.intro (fun wx hx => ?_) ?_
            · go_simp
              try rfl
            go_simp
            refine hK1 _ ?_
            clear hK1 K1
            refine wpPre_e rfl rfl (fun K1 hK1 => ?_)
            apply Exists.intro
            refine And.intro (fun wx hx => ?_) ?_
            · go_simp
              try rfl
            go_simp
            refine hK1 _ ?_
            clear hK1 K1
            refine wpPre_nil ?_
            refine wpTr_e rfl (fun K1 hK1 => ?_)
            go_simp
            refine hK1 _ _ (fun h => by cases h) ?_
            clear hK1 K1
            refine wpPre_nil ?_
            refine wpTr_done ⟨rfl, ?_⟩
            obtain ⟨U, hU⟩ : ∃ U, U = w2.setCell ⟨W1.heap.size, 2, none⟩ (.slice pe k ce) := ⟨_, rfl⟩
            have hbU : But (fun q => q = W1.heap.size) w2 U := by rw [hU]; exact (But.one w2 W1.heap.size).setAt 2 _
            have bN3 : Box U W1.heap.size #[.int .i64 bg, .slice pa (a - 1) ca, .slice pe k ce] 59 := by
              rw [hU]
              have := bN2.set 2 (.slice pe k ce)
              simpa using this
            have bR3 := (bRV.below hbI).but hbU (fun e => by omega)
            have bF3 := (bFV.below hbI).but hbU (fun e => by omega)
            have hWU : Below W.heap.size W U := (hVW.trans (hbI.mono hVW.size)).trans (hbU.below (by have := hVW.size; have := hbI.size; omega) fun q hq => by omega)
            rw [← hU]
            have HU := hid hU
            clear hU
            have u0 := bN3.cell 0
            have u1 := bN3.cell 1
            have u2 := bN3.cell 2
            have r0 := bR3.cell 0
            have r1 := bR3.cell 1
            have r2 := bR3.cell 2
            have f0 := bR3.frozen 0
            have f1 := bR3.frozen 1
            have f2 := bR3.frozen 2
            have g0 := bF3.cell 0
            have gf := bF3.frozen 0
            simp at u0 u1 u2 r0 r1 r2 g0
            clear m0 m1 m2 mf ml n2 q0 q1 q2 q3
            gi_wp2
            have hs3 := below3 (hbw.trans (hWU.mono hbw.size)) (b := w.heap.size + 1) (by omega) (.int .i64 bg) (.slice pa (a - 1) ca) (.slice pe k ce)
            have hs4 := hs3.setCell (p := ⟨w.heap.size + 2, 0, none⟩) (by show w.heap.size ≤ w.heap.size + 2; omega) (.bool true)
            have bR4 := set3 (u := .int .i64 bg) (v := .slice pa (a - 1) ca) (t := .slice pe k ce) bR3
            have hbt3 : But (fun q => q = w.heap.size + 1) U (((U.setCell ⟨w.heap.size + 1, 0, none⟩ (.int .i64 bg)).setCell ⟨w.heap.size + 1, 1, none⟩ (.slice pa (a - 1) ca)).setCell ⟨w.heap.size + 1, 2, none⟩ (.slice pe k ce)) := (((But.one U _).setAt 0 _).setAt 1 _).setAt 2 _
            have bF4 : Box ((((U.setCell ⟨w.heap.size + 1, 0, none⟩ (.int .i64 bg)).setCell ⟨w.heap.size + 1, 1, none⟩ (.slice pa (a - 1) ca)).setCell ⟨w.heap.size + 1, 2, none⟩ (.slice pe k ce)).setCell ⟨w.heap.size + 2, 0, none⟩ (.bool true)) (w.heap.size + 2) #[.bool true] 4 := by
              have := (bF3.but hbt3 (fun e => by omega)).set 0 (.bool true)
              simpa using this
            have bR5 := bR4.but ((But.one (((U.setCell ⟨w.heap.size + 1, 0, none⟩ (.int .i64 bg)).setCell ⟨w.heap.size + 1, 1, none⟩ (.slice pa (a - 1) ca)).setCell ⟨w.heap.size + 1, 2, none⟩ (.slice pe k ce)) (w.heap.size + 2)).setAt 0 (.bool true)) (fun e => by omega)
            have hkf : KeepsFrom W0.heap.size W ((((U.setCell ⟨w.heap.size + 1, 0, none⟩ (.int .i64 bg)).setCell ⟨w.heap.size + 1, 1, none⟩ (.slice pa (a - 1) ca)).setCell ⟨w.heap.size + 1, 2, none⟩ (.slice pe k ce)).setCell ⟨w.heap.size + 2, 0, none⟩ (.bool true)) := ((keeps_below hWU).trans (keeps3 U _ (w.heap.size + 1) (.int .i64 bg) (.slice pa (a - 1) ca) (.slice pe k ce))).trans ((KeepsOthers.setCell _ _ _).from _)
            have hkb : a + k - a = k := by omega
            have hWb : ∀ b, b < w.heap.size → W.heap[b]? = w.heap[b]? := fun b hb => hbw.block b hb
            refine ⟨hkf, ⟨rfl, pre, ⟨x, hxn⟩, a, a + k, pa, pe, ca, ce, rfl, hp, HE.out, ⟨HCut.out, by omega, (by show a + k ≤ x; omega), hk2, fun q h1 h2 => ?_⟩, ?_, bF4, ?_, ?_⟩, hs4⟩
            · have := hk3 (q - a) (by omega)
              rwa [show a + (q - a) = q by omega] at this
            · rw [← HBg.out, hkb]; exact bR5
            · exact hA.kept (by have := hs4.size; have := hkf.size; have := hb1'.size; have := hWU.size; have h5 := hVb.size; have h6 := hbI.size; have h7 := hbU.size; simp at h7 ⊢; omega) fun b hb _ => (hs4.block b hb.2).trans ((hb1'.block b (Nat.lt_of_lt_of_le hb.2 hbw.size)).trans (hWb b hb.2)).symm
            · have h8 := hE.front (m := k) (by dsimp only; omega)
              rw [hkb]
              exact h8.kept (by have := hs4.size; have := hkf.size; have := hb1'.size; have := hWU.size; have h5 := hVb.size; have h6 := hbI.size; have h7 := hbU.size; simp at h7 ⊢; omega) fun b hb _ => (hs4.block b hb.2).trans ((hb1'.block b (Nat.lt_of_lt_of_le hb.2 hbw.size)).trans (hWb b hb.2)).symm
          · have HE : Hid (l.item x ≠ ⟨6, 0, 0, i⟩) := fun h => h3 (by rw [h])
            rw [h0] at x0
            rw [h1] at x1
            rw [h2] at x2
            clear h0 h1 h2
            gi_wp2
            exact ⟨KeepsFrom.refl _ _, Below.refl _ _, fun y hy => (List.mem_append.1 hy).elim (hp y) (fun e => by simp at e; subst e; exact HE.out), hB1⟩
        · have HE : Hid (l.item x ≠ ⟨6, 0, 0, i⟩) := fun h => h2 (by rw [h])
          rw [h0] at x0
          rw [h1] at x1
          clear h0 h1
          gi_wp2
          exact ⟨KeepsFrom.refl _ _, Below.refl _ _, fun y hy => (List.mem_append.1 hy).elim (hp y) (fun e => by simp at e; subst e; exact HE.out), hB1⟩
      · have HE : Hid (l.item x ≠ ⟨6, 0, 0, i⟩) := fun h => h1 (by rw [h])
        rw [h0] at x0
        clear h0
        gi_wp2
        exact ⟨KeepsFrom.refl _ _, Below.refl _ _, fun y hy => (List.mem_append.1 hy).elim (hp y) (fun e => by simp at e; subst e; exact HE.out), hB1⟩
    · have HE : Hid (l.item x ≠ ⟨6, 0, 0, i⟩) := fun h => h0 (by rw [h])
      gi_wp2
      exact ⟨KeepsFrom.refl _ _, Below.refl _ _, fun y hy => (List.mem_append.1 hy).elim (hp y) (fun e => by simp at e; subst e; exact HE.out), hB1⟩
  case done =>
    rintro D ys W hD rfl ⟨hne, hB1⟩ hK
    have bR1 := bR.below hB1
    have bF1 := bF.below hB1
    have r0 := bR1.cell 0
    have r1 := bR1.cell 1
    have r2 := bR1.cell 2
    have f0 := bR1.frozen 0
    have f1 := bR1.frozen 1
    have f2 := bR1.frozen 2
    have g0 := bF1.cell 0
    have gf := bF1.frozen 0
    simp at r0 r1 r2 g0
    gi_wp2
    have hbw : Below w.heap.size w W := hB0.trans (hB1.mono (by omega))
    have hs3 := below3 hbw (b := w.heap.size + 1) (by omega) (.int .i64 0) (.slice none 0 0) (.slice none 0 0)
    have hs4 := hs3.setCell (p := ⟨w.heap.size + 2, 0, none⟩) (by show w.heap.size ≤ w.heap.size + 2; omega) (.bool false)
    have hbt3 : But (fun q => q = w.heap.size + 1) W (((W.setCell ⟨w.heap.size + 1, 0, none⟩ (.int .i64 0)).setCell ⟨w.heap.size + 1, 1, none⟩ (.slice none 0 0)).setCell ⟨w.heap.size + 1, 2, none⟩ (.slice none 0 0)) := (((But.one W _).setAt 0 _).setAt 1 _).setAt 2 _
    have bF4 : Box ((((W.setCell ⟨w.heap.size + 1, 0, none⟩ (.int .i64 0)).setCell ⟨w.heap.size + 1, 1, none⟩ (.slice none 0 0)).setCell ⟨w.heap.size + 1, 2, none⟩ (.slice none 0 0)).setCell ⟨w.heap.size + 2, 0, none⟩ (.bool false)) (w.heap.size + 2) #[.bool false] 4 := by
      have := (bF1.but hbt3 (fun e => by omega)).set 0 (.bool false)
      simpa using this
    have bR5 := (set3 (u := .int .i64 0) (v := .slice none 0 0) (t := .slice none 0 0) bR1).but ((But.one (((W.setCell ⟨w.heap.size + 1, 0, none⟩ (.int .i64 0)).setCell ⟨w.heap.size + 1, 1, none⟩ (.slice none 0 0)).setCell ⟨w.heap.size + 1, 2, none⟩ (.slice none 0 0)) (w.heap.size + 2)).setAt 0 (.bool false)) (fun e => by omega)
    have hkf := (keeps3 W 0 (w.heap.size + 1) (.int .i64 0) (.slice none 0 0) (.slice none 0 0)).trans ((KeepsOthers.setCell (((W.setCell ⟨w.heap.size + 1, 0, none⟩ (.int .i64 0)).setCell ⟨w.heap.size + 1, 1, none⟩ (.slice none 0 0)).setCell ⟨w.heap.size + 1, 2, none⟩ (.slice none 0 0)) ⟨w.heap.size + 2, 0, none⟩ (.bool false)).from 0)
    have hK' := hkf.same D _ (Nat.zero_le _) hK rfl
    have hbx := bR5.grownN (grownBy_putObj' _ D (.deferred none)) (B := 0) (fun r e => by cases e; exact ⟨Nat.zero_le _, _, hK', rfl⟩)
    have hby := bF4.grownN (grownBy_putObj' _ D (.deferred none)) (B := 0) (fun r e => by cases e; exact ⟨Nat.zero_le _, _, hK', rfl⟩)
    have e0 := hbx.cell 0
    have e1 := hbx.cell 1
    have e2 := hbx.cell 2
    have e3 := hby.cell 0
    simp at e0 e1 e2 e3
    have hbl := hs4.trans (belowK_b (w := w) (Nat.le_refl _) _ D _ (.deferred none) (by omega) hK' rfl rfl)
    refine ⟨by simp, .inl ⟨_, _, rfl, run_takeDeferred hK', ?_⟩⟩
    refine ⟨.tuple #[.agg #[.int .i64 0, .slice none 0 0, .slice none 0 0], .bool false], by simp [results, Try.results44, go_sem, e0, e1, e2, e3], hbl, .inl ⟨fun q hq h => hne ⟨q, hq⟩ ((backs_mem (Nat.le_refl _)).2 (by simp)) (hrd q hq h), rfl⟩⟩
  case stop =>
    rintro D c pre W hD ⟨k, hk, rfl⟩ ⟨⟨rfl, ini, ⟨x, hx⟩, a, b, pa, pe, ca, ce, e1, e2, e3, e4, e5, e6, e7, e8⟩, hB⟩ hK
    gi_wp2
    try dsimp only at e3 e4
    obtain ⟨k', rfl⟩ : ∃ k', k = k' + 1 := by
      cases k with
      | zero => simp [backs] at e1
      | succ k' => exact ⟨k', rfl⟩
    rw [backs_succ (by omega)] at e1
    obtain ⟨rfl, e9⟩ := List.append_inj' e1 rfl
    have e10 : x = l.n - 1 - k' := by simpa using e9.symm
    have hbx := e5.grownN (grownBy_putObj' _ D (.deferred none)) (B := 0) (fun r e => by cases e; exact ⟨Nat.zero_le _, _, hK, rfl⟩)
    have hby := e6.grownN (grownBy_putObj' _ D (.deferred none)) (B := 0) (fun r e => by cases e; exact ⟨Nat.zero_le _, _, hK, rfl⟩)
    have g0 := hbx.cell 0
    have g1 := hbx.cell 1
    have g2 := hbx.cell 2
    have g3 := hby.cell 0
    simp at g0 g1 g2 g3
    have hbt := belowK_b (n₀ := w.heap.size) (w := w) (Nat.le_refl _) W D _ (.deferred none) (by omega) hK rfl rfl
    have hbl := hB.trans hbt
    refine ⟨by simp, .inl ⟨_, _, rfl, run_takeDeferred hK, ?_⟩⟩
    refine ⟨.tuple #[.agg #[.int .i64 (beganOf l.item a), .slice pa (a - 1) ca, .slice pe (b - a) ce], .bool true], by simp [results, Try.results44, go_sem, g0, g1, g2, g3], hbl, .inr ⟨a, b, pa, pe, ca, ce, e4.life hx e3 (fun q h1 h2 => e2 ⟨q, h2⟩ ((backs_mem (by omega)).2 (by dsimp only; omega))) hrd, rfl, ?_, ?_⟩⟩
    · exact (e7.kept hbt.size fun b hb _ => hbt.block b hb.2).mono fun b hb _ => hb.1
    · exact (e8.kept hbt.size fun b hb _ => hbt.block b hb.2).mono fun b hb _ => hb.1
end Go.Proofs.Ytdpfgflofjiheaa
