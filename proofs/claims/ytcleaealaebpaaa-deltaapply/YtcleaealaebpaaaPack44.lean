import Derived.Test.YtcleaealaebpaaaPack43
namespace Go.Proofs.Ytcleaealaebpaaa
open Go.RowKit
set_option maxRecDepth 8000
theorem Rise.erased {α : Type} {k : α → ByteArray} {l : List α} (h : Rise k l) {i : Nat} {x y : α} (hx : l[i]? = some x) (hy : y ∈ l.eraseIdx i) : k y ≠ k x := by
  rw [List.mem_eraseIdx_iff_getElem?] at hy
  obtain ⟨j, hj, e⟩ := hy
  obtain ⟨hi, ei⟩ := List.getElem?_eq_some_iff.1 hx
  obtain ⟨hjl, ej⟩ := List.getElem?_eq_some_iff.1 e
  intro ek
  rcases Nat.lt_trichotomy i j with h1 | h1 | h1
  · have := List.pairwise_iff_getElem.1 h i j hi hjl h1
    rw [ei, ej, ek] at this
    exact this.irr
  · exact hj h1.symm
  · have := List.pairwise_iff_getElem.1 h j i hjl hi h1
    rw [ei, ej, ek] at this
    exact this.irr
section
variable {w : World} {S : Nat → Prop} {a b : LT VT} {bn : Int} {u d' : DT} {t : LT VT} (ha : SOk w S a) (hb : SOk w S b) (hu : Dfd a bn b u)
include hu in
theorem Dfd.cl : u.set.cl = (dSet (dEv a b)).map cn := by
  rw [← nS_cl, hu.set, List.map_map]
  exact List.map_congr_left fun c _ => cn_norm c
include ha hb hu in
/-- without an entry of Set another state comes out -/
theorem Dfd.needS {i : Nat} (hi : i < u.set.n) (hs : d'.set.cl = u.set.cl.eraseIdx i) (hg : d'.gone.toL = u.gone.toL) (ht : Apd a d' t) (hbi : LT.In elCell w S b) : ¬ LsAlk t b := by
  intro hal
  have ou := chkD_ok hu.fit
  have ru := cS_rise ou.set
  have e1 := hal.cl hbi
  rw [ht.cl, hs, hg] at e1
  have hlen : i < u.set.cl.length := by rw [cl_len]; exact hi
  have hx : u.set.cl[i]? = some u.set.cl[i] := List.getElem?_eq_getElem hlen
  have hm : u.set.cl[i] ∈ u.set.cl := List.getElem_mem hlen
  generalize u.set.cl[i] = x at hx hm
  rw [hu.cl] at hm
  obtain ⟨c, hc, rfl⟩ := List.mem_map.1 hm
  obtain ⟨h1, h2⟩ := (dSet_mem ha hb c).1 hc
  have h3 : cn c ∈ b.cl := List.mem_map.2 ⟨c, h1, rfl⟩
  rw [← e1, jS_mem (cS_rise ha.rise) (ru.sublist (List.eraseIdx_sublist _ _)) ou.gone] at h3
  rcases h3 with h3 | ⟨⟨h3, _⟩, _⟩
  · exact ru.erased hx h3 rfl
  · obtain ⟨y, hy, ey⟩ := List.mem_map.1 h3
    exact h2 y hy (by have := congrArg VT.text ey; exact this) (cn_to ey)
include ha hb hu in
/-- without an entry of Gone another state comes out -/
theorem Dfd.needG {i : Nat} (hi : i < u.gone.n) (hs : d'.set.cl = u.set.cl) (hg : d'.gone.toL = u.gone.toL.eraseIdx i) (ht : Apd a d' t) (hbi : LT.In elCell w S b) : ¬ LsAlk t b := by
  intro hal
  have ou := chkD_ok hu.fit
  have ru := cS_rise ou.set
  have e1 := hal.cl hbi
  rw [ht.cl, hs, hg] at e1
  have hlen : i < u.gone.toL.length := by rw [LT.toL_len]; exact hi
  have hx : u.gone.toL[i]? = some u.gone.toL[i] := List.getElem?_eq_getElem hlen
  have hm : u.gone.toL[i] ∈ u.gone.toL := List.getElem_mem hlen
  generalize u.gone.toL[i] = g at hx hm
  have hm2 := hm
  rw [hu.gone] at hm2
  obtain ⟨hka, hkb⟩ := (dGone_mem ha hb g).1 hm2
  apply hkb
  rw [← keyIn_cl, ← e1, keyIn_jS (cS_rise ha.rise) ru (ou.gone.sublist (List.eraseIdx_sublist _ _))]
  exact .inr ⟨keyIn_cl.2 hka, fun hmem => ou.gone.erased hx hmem rfl⟩
include ha in
/-- Diff of a state and itself -/
theorem diff_self : dSet (dEv a a) = [] ∧ dGone (dEv a a) = [] := by
  constructor
  · rw [List.eq_nil_iff_forall_not_mem]
    intro c hc
    obtain ⟨h1, h2⟩ := (dSet_mem ha ha c).1 hc
    exact h2 c h1 rfl ⟨rfl, rfl, fun j _ => VT.Alike.refl _⟩
  · rw [List.eq_nil_iff_forall_not_mem]
    intro g hg
    obtain ⟨h1, h2⟩ := (dGone_mem ha ha g).1 hg
    exact h2 h1
end
end Go.Proofs.Ytcleaealaebpaaa

namespace Go.Proofs.Ytcleaealaebpaaa
open Go.RowKit
set_option maxRecDepth 8000

theorem er_same {α : Type} (xs : List α) {k : Nat} (hk : k < xs.length) : (xs.take (k + 1)).eraseIdx k = (xs.take k).eraseIdx k := by
  rw [List.take_succ_eq_append_getElem hk, List.eraseIdx_append_of_length_le (by simp; omega)]
  have h1 : (xs.take k).length = k := by simp; omega
  rw [h1, Nat.sub_self, List.eraseIdx_of_length_le (l := xs.take k) (by omega)]
  simp
theorem er_push {α : Type} (xs : List α) {i k : Nat} (hk : k < xs.length) (hi : k ≠ i) : (xs.take (k + 1)).eraseIdx i = (xs.take k).eraseIdx i ++ [xs[k]] := by
  rw [List.take_succ_eq_append_getElem hk]
  have h1 : (xs.take k).length = k := by simp; omega
  by_cases h : i < k
  · rw [List.eraseIdx_append_of_lt_length (by omega)]
  · rw [List.eraseIdx_of_length_le (by simp; omega), List.eraseIdx_of_length_le (l := xs.take k) (by omega)]
theorem er_len {α : Type} (xs : List α) (i : Nat) : (xs.eraseIdx i).length ≤ xs.length := (List.eraseIdx_sublist xs i).length_le
/-- the first k keys that go, but the one that is left out -/
def gtk (d : DT) (i k : Nat) : List ByteArray := if i < d.set.n then d.gone.toL.take k else (d.gone.toL.take k).eraseIdx (i - d.set.n)
theorem gtk_len (d : DT) (i k : Nat) : (gtk d i k).length ≤ k := by
  unfold gtk
  split
  · simp; omega
  · have := er_len (d.gone.toL.take k) (i - d.set.n)
    simp at this ⊢
    omega
theorem gtk_same (d : DT) {i k : Nat} (hk : k < d.gone.n) (h : d.set.n + k = i) : gtk d i (k + 1) = gtk d i k := by
  unfold gtk
  rw [if_neg (by omega), if_neg (by omega), show i - d.set.n = k by omega]
  exact er_same _ (by rw [LT.toL_len]; exact hk)
theorem toL_at {α : Type} (l : LT α) {k : Nat} (hk : k < l.toL.length) : l.toL[k] = l.item k := by
  have := LT.toL_get l (show k < l.n by rw [LT.toL_len] at hk; exact hk)
  rw [List.getElem?_eq_getElem hk] at this
  exact Option.some.inj this
theorem gtk_push (d : DT) {i k : Nat} (hk : k < d.gone.n) (h : ¬ d.set.n + k = i) : gtk d i (k + 1) = gtk d i k ++ [d.gone.item k] := by
  have hkl : k < d.gone.toL.length := by rw [LT.toL_len]; exact hk
  unfold gtk
  split
  · rw [List.take_succ_eq_append_getElem hkl, toL_at]
  · rw [er_push _ hkl (by omega), toL_at]
/-- u is the delta d without its i-th entry -/
structure Wo (d : DT) (i : Nat) (u : DT) : Prop where
  num : u.num = d.num
  set : u.set.toL = d.set.toL.eraseIdx i
  gone : u.gone.toL = gtk d i d.gone.n
set_option maxHeartbeats 8000000 in
theorem without_any (d : DT) (i : Nat) (w : World) (S : Nat → Prop) (hd : DT.In w S d) (hz : DSz d) (hi : i < 20000) :
    Calls Try.prog 16 #[.agg #[.int .i64 d.num, .slice d.set.p d.set.n d.set.c, .slice d.gone.p d.gone.n d.gone.c], .int .i64 (i : Int)] w fun e w' => ∃ u : DT, e = .returned (.agg #[.int .i64 u.num, .slice u.set.p u.set.n u.set.c, .slice u.gone.p u.gone.n u.gone.c]) ∧ DT.In w' (fun k => S k ∨ w.heap.size ≤ k) u ∧ Wo d i u ∧ Below w.heap.size w w' := by
  obtain ⟨W, hW⟩ : ∃ V, V = ((w.alloc (.cells #[.int .i64 d.num, .slice d.set.p d.set.n d.set.c, .slice d.gone.p d.gone.n d.gone.c] 30)).alloc (.cells #[.int .i64 0, .slice none 0 0, .slice none 0 0] 30)).alloc (.cells #[.int .i64 d.num, .slice none 0 0, .slice none 0 0] 30) := ⟨_, rfl⟩
  have hBel : Below w.heap.size w W := by rw [hW]; exact (((Below.refl _ _).alloc (Nat.le_refl _) _).alloc (by simp) _).alloc (by simp; omega) _
  have hWs : W.heap.size = w.heap.size + 3 := by rw [hW]; simp
  have h0 : Box W w.heap.size #[.int .i64 d.num, .slice d.set.p d.set.n d.set.c, .slice d.gone.p d.gone.n d.gone.c] 30 := by rw [hW]; exact ((Box.new w _ _).below ((Below.refl _ _).alloc (Nat.le_refl _) _)).below ((Below.refl _ _).alloc (Nat.le_refl _) _)
  have h1 : Box W (w.heap.size + 1) #[.int .i64 0, .slice none 0 0, .slice none 0 0] 30 := by
    have h := Box.new (w.alloc (.cells #[.int .i64 d.num, .slice d.set.p d.set.n d.set.c, .slice d.gone.p d.gone.n d.gone.c] 30)) #[.int .i64 0, .slice none 0 0, .slice none 0 0] 30
    rw [show (w.alloc (.cells #[.int .i64 d.num, .slice d.set.p d.set.n d.set.c, .slice d.gone.p d.gone.n d.gone.c] 30)).heap.size = w.heap.size + 1 by simp] at h
    rw [hW]; exact h.below ((Below.refl _ _).alloc (Nat.le_refl _) _)
  have h2 : Box W (w.heap.size + 2) #[.int .i64 d.num, .slice none 0 0, .slice none 0 0] 30 := by
    have h := Box.new ((w.alloc (.cells #[.int .i64 d.num, .slice d.set.p d.set.n d.set.c, .slice d.gone.p d.gone.n d.gone.c] 30)).alloc (.cells #[.int .i64 0, .slice none 0 0, .slice none 0 0] 30)) #[.int .i64 d.num, .slice none 0 0, .slice none 0 0] 30
    rw [show ((w.alloc (.cells #[.int .i64 d.num, .slice d.set.p d.set.n d.set.c, .slice d.gone.p d.gone.n d.gone.c] 30)).alloc (.cells #[.int .i64 0, .slice none 0 0, .slice none 0 0] 30)).heap.size = w.heap.size + 2 by simp] at h
    rw [hW]; exact h
  obtain ⟨B, hB⟩ : ∃ B, B = w.heap.size + 3 := ⟨_, rfl⟩
  have HB := hid hB
  have HBl := hid hBel
  have HW := hid hW
  have HWs := hid hWs
  have H0 := hid h0
  have H1 := hid h1
  have H2 := hid h2
  have HD := hid hd
  have hsn := hz.set
  have hgn := hz.gone
  have hbb : w.heap.size + 2 < B := by omega
  obtain ⟨i0, Kd⟩ := kindC
  have HKd := hid Kd
  clear hd hz hW hBel hWs h0 h1 h2 hB Kd
  go_enter Try.func16, Try.ntmps16
  go_upto_region 2 with fail
  rw [← HW.out]
  go_wp2_with fail
  go_loopw [6] (fun x wr => ∃ k : Nat, k ≤ d.set.n ∧ x = .int .i64 (k : Int) ∧ DRow w B (w.heap.size + 2) d.num wr ((d.set.toL.take k).eraseIdx i) [] ∧ Box wr w.heap.size #[.int .i64 d.num, .slice d.set.p d.set.n d.set.c, .slice d.gone.p d.gone.n d.gone.c] 30 ∧ Box wr (w.heap.size + 1) #[.int .i64 0, .slice none 0 0, .slice none 0 0] 30) (fun x _ => d.set.n - (intOf x).toNat)
  case atStart => exact ⟨0, Nat.zero_le _, rfl, ⟨⟨_, _, H2.out, by simpa using World.ownsRow_nil _ _ _ _, by simpa using World.ownsRow_nil _ _ _ _⟩, HBl.out, by rw [HB.out, HWs.out]; exact Nat.le_refl _⟩, H0.out, H1.out⟩
  case round =>
    obtain ⟨k, hk, rfl, ⟨⟨vS, vG, hbx, hos, hog⟩, hbel, hsz⟩, hb0, hb1⟩ := hrel
    have HBx := hid hbx
    have HOS := hid hos
    have HOG := hid hog
    have HBel := hid hbel
    have HSz := hid hsz
    have HX := hid hb0
    have HY := hid hb1
    have x1 := hb0.cell 1
    have xl := hb0.lt
    have o1 := hbx.cell 1
    have ol := hbx.lt
    simp at x1 o1
    clear hbx hos hog hbel hsz hb0 hb1
    by_cases hlt : k < d.set.n
    · have hlt' : (k : Int) < (d.set.n : Int) := by omega
      by_cases hki : k = i
      · subst hki
        go_wp2
        go_roundw
        case rel => exact ⟨k + 1, by omega, by go_num, by rw [er_same _ (by rw [LT.toL_len]; exact hlt)]; exact ⟨⟨vS, vG, HBx.out, HOS.out, HOG.out⟩, HBel.out, HSz.out⟩, HX.out, HY.out⟩
        case measure => simp [intOf]; omega
      · have hki' : ((k : Int) != (i : Int)) = true := int_ne hki
        obtain ⟨b1, o, hp, _, hl1, ha⟩ := HD.out.set.at_ (by omega)
        have a0 : wr.cell? ⟨b1, o + k * 2, none⟩ = some (.string (d.set.item k).text) := (World.cell?_of_block (a := ⟨b1, o + k * 2, none⟩) (HBel.out.block b1 hl1)).trans (ha k hlt 0 _ rfl)
        have a1 : wr.cell? ⟨b1, o + k * 2 + 1, none⟩ = some (.slice (d.set.item k).p (d.set.item k).n (d.set.item k).c) := (World.cell?_of_block (a := ⟨b1, o + k * 2 + 1, none⟩) (HBel.out.block b1 hl1)).trans (ha k hlt 1 _ rfl)
        rw [hp] at x1
        have hln : ((d.set.toL.take k).eraseIdx i).length ≤ 10000 := by
          have h1 := er_len (d.set.toL.take k) i
          have h2 : (d.set.toL.take k).length ≤ k := by simp; omega
          omega
        clear ha hp
        go_wp2_with fail
        refine wp_region_calmE 30 (fun wx => Below wr.heap.size wr wx) [(0, true), (1, false), (2, true), (3, false), (4, true), (5, true), (6, false)] (.one 7 true [] (.one 8 false [(9, true)] (.one 10 false [] .done))) (by kernel_rfl) (by kernel_rfl) (Below.refl _ _).drew ?_
        refine wpPre_e rfl rfl (fun K1 hK1 => ?_)
        apply Exists.intro
        refine And.intro (fun wx hx => ?_) ?_
        · go_simp
          try rfl
        go_simp
        refine hK1 _ ?_
        clear hK1 K1
        refine wpPre_e rfl rfl (fun K1 hK1 => ?_)
        apply Exists.intro
        refine And.intro (fun wx hx => ?_) ?_
        · have e0 := below_fact hx rfl x1
          have e1 := below_fact hx rfl o1
          have e2 := below_fact hx rfl a0
          have e3 := below_fact hx rfl a1
          go_simp
          try rfl
        go_simp
        refine hK1 _ ?_
        clear hK1 K1
        refine wpPre_e rfl rfl (fun K1 hK1 => ?_)
        apply Exists.intro
        refine And.intro (fun wx hx => ?_) ?_
        · go_simp
          try rfl
        go_simp
        refine hK1 _ ?_
        clear hK1 K1
        refine wpPre_e rfl rfl (fun K1 hK1 => ?_)
        apply Exists.intro
        refine And.intro (fun wx hx => ?_) ?_
        · have e0 := below_fact hx rfl x1
          have e1 := below_fact hx rfl o1
          have e2 := below_fact hx rfl a0
          have e3 := below_fact hx rfl a1
          go_simp
          try rfl
        go_simp
        refine hK1 _ ?_
        clear hK1 K1
        refine wpPre_e rfl rfl (fun K1 hK1 => ?_)
        apply Exists.intro
        refine And.intro (fun wx hx => ?_) ?_
        · go_simp
          try rfl
        go_simp
        refine hK1 _ ?_
        clear hK1 K1
        refine wpPre_e rfl rfl (fun K1 hK1 => ?_)
        apply Exists.intro
        refine And.intro (fun wx hx => ?_) ?_
        · go_simp
          try rfl
        go_simp
        refine hK1 _ ?_
        clear hK1 K1
        refine wpPre_e rfl rfl (fun K1 hK1 => ?_)
        apply Exists.intro
        refine And.intro (fun wx hx => ?_) ?_
        · have e0 := below_fact hx rfl x1
          have e1 := below_fact hx rfl o1
          have e2 := below_fact hx rfl a0
          have e3 := below_fact hx rfl a1
          go_simp
          try rfl
        go_simp
        refine hK1 _ ?_
        clear hK1 K1
        refine wpPre_nil ?_
        refine wpTr_e rfl (fun K1 hK1 => ?_)
        go_simp
        have hb5 : Below wr.heap.size wr (wr.alloc (.cells #[.string (d.set.item k).text, .slice (d.set.item k).p (d.set.item k).n (d.set.item k).c] 62)).drew := ((Below.refl wr.heap.size wr).alloc (Nat.le_refl _) _).drew
        refine hK1 _ _ (fun _ => hb5) ?_
        clear hK1 K1
        refine wpPre_nil ?_
        refine wpTr_e rfl (fun K1 hK1 => ?_)
        have hnews : ∀ j u', (elCell.cells (d.set.item k))[j]? = some u' → ((wr.alloc (.cells #[.string (d.set.item k).text, .slice (d.set.item k).p (d.set.item k).n (d.set.item k).c] 62)).drew).cell? ((⟨wr.heap.size, 0, none⟩ : Addr).add j) = some u' := fun j u' hu => by
          show (wr.alloc (.cells #[.string (d.set.item k).text, .slice (d.set.item k).p (d.set.item k).n (d.set.item k).c] 62)).cell? _ = _
          rw [Go.WideShapes.add_plain, (Box.new wr #[.string (d.set.item k).text, .slice (d.set.item k).p (d.set.item k).n (d.set.item k).c] 62).cell]
          rw [show 0 + j = j by omega]
          simpa [elCell, VT.two] using hu
        have hown5 : ((wr.alloc (.cells #[.string (d.set.item k).text, .slice (d.set.item k).p (d.set.item k).n (d.set.item k).c] 62)).drew).ownsRow B elCell.ty elCell.size vS ((d.set.toL.take k).eraseIdx i).length (((d.set.toL.take k).eraseIdx i).flatMap elCell.cells) := ownsRow_keep HOS.out (fun k _ hl => Below.heap_alloc _ _ _ hl)
        refine step_app rfl (.tmp 22) (.tmp 28) 22 62 i0 _ 2 40 HKd.out rfl B vS ((d.set.toL.take k).eraseIdx i).length (((d.set.toL.take k).eraseIdx i).flatMap elCell.cells) rfl hown5 ⟨wr.heap.size, 0, none⟩ 1 1 (elCell.cells (d.set.item k)) rfl rfl hnews (elCell.one _) (by omega) (by omega) (by have := HSz.out; simp; omega) ?_
        intro v' w9 ho9 hg9 _
        obtain ⟨p2, e2, hv2⟩ := ownsRow_slice ho9
        rw [hv2] at ho9 ⊢
        clear hv2
        have hg9' : (wr.alloc (.cells #[.string (d.set.item k).text, .slice (d.set.item k).p (d.set.item k).n (d.set.item k).c] 62)).grownBy w9 (vS).ownBlock := ⟨hg9.os, hg9.tape, hg9.output, hg9.size, fun k hk hr => hg9.block k hk hr⟩
        have hP := push_core (w := w) (i := 1) (T := fun _ => False) (x := (d.set.item k)) HBx.out HOS.out HBel.out HSz.out (fun h => h) (by omega) (by omega) ho9 hg9'
        have z0 := hP.2.1.cell 1
        have zf := hP.2.1.frozen 1
        have zl := hP.2.1.lt
        simp at z0
        have HP := hid hP
        clear hP ho9 hg9 hg9' hnews hown5 hb5
        refine hK1 _ _ (fun h => by cases h) ?_
        clear hK1 K1
        refine wpPre_e rfl rfl (fun K1 hK1 => ?_)
        apply Exists.intro
        refine And.intro (fun wx hx => ?_) ?_
        · go_simp
          try rfl
        go_simp
        refine hK1 _ ?_
        clear hK1 K1
        refine wpPre_nil ?_
        refine wpTr_e rfl (fun K1 hK1 => ?_)
        go_simp
        refine hK1 _ _ (fun h => by cases h) ?_
        clear hK1 K1
        refine wpPre_nil ?_
        refine wpTr_done ?_
        go_wp2
        obtain ⟨hkp, _, hbx9, hown9, hoth9, hbel9, hsz9⟩ := HP.out
        go_roundw
        case rel =>
          refine ⟨k + 1, by omega, by go_num, ?_, HX.out.kept (hkp.kt.low _ (by omega) xl (by omega)), HY.out.kept (hkp.kt.low _ (by omega) HY.out.lt (by omega))⟩
          have hkl : k < d.set.toL.length := by rw [LT.toL_len]; exact hlt
          rw [er_push _ hkl hki, toL_at]
          exact ⟨⟨_, _, hbx9, hown9, hoth9 (by decide) HOG.out⟩, hbel9, hsz9⟩
        case measure => simp [intOf]; omega
    · obtain rfl : k = d.set.n := by omega
      have HFull : Hid (d.set.toL.take d.set.n = d.set.toL) := List.take_of_length_le (by rw [LT.toL_len]; exact Nat.le_refl _)
      clear o1 ol H0 H1 H2 HBl HW
      obtain ⟨i1, Kd⟩ := kindS
      have HKd := hid Kd
      clear Kd
      go_wp2_with fail
      clear x1 xl
      obtain ⟨wo, hwo⟩ : ∃ x, x = wr := ⟨_, rfl⟩
      subst hwo
      go_loopw [7] (fun x wr => ∃ k : Nat, k ≤ d.gone.n ∧ x = .int .i64 (k : Int) ∧ DRow w B (w.heap.size + 2) d.num wr (d.set.toL.eraseIdx i) (gtk d i k) ∧ Box wr w.heap.size #[.int .i64 d.num, .slice d.set.p d.set.n d.set.c, .slice d.gone.p d.gone.n d.gone.c] 30 ∧ Box wr (w.heap.size + 1) #[.int .i64 0, .slice none 0 0, .slice none 0 0] 30) (fun x _ => d.gone.n - (intOf x).toNat)
      case atStart => exact ⟨0, Nat.zero_le _, rfl, by rw [← HFull.out]; exact ⟨⟨vS, vG, HBx.out, HOS.out, by have := HOG.out; simpa [gtk] using this⟩, HBel.out, HSz.out⟩, HX.out, HY.out⟩
      case round =>
        clear HBx HOS HOG HBel HSz HX HY
        obtain ⟨k, hk, rfl, ⟨⟨vS, vG, hbx, hos, hog⟩, hbel, hsz⟩, hb0, hb1⟩ := hrel
        have HBx := hid hbx
        have HOS := hid hos
        have HOG := hid hog
        have HBel := hid hbel
        have HSz := hid hsz
        have HX := hid hb0
        have HY := hid hb1
        have x1 := hb0.cell 1
        have x2 := hb0.cell 2
        have xl := hb0.lt
        have o2 := hbx.cell 2
        have ol := hbx.lt
        simp at x1 x2 o2
        clear hbx hos hog hbel hsz hb0 hb1
        by_cases hlt : k < d.gone.n
        · have hlt' : (k : Int) < (d.gone.n : Int) := by omega
          by_cases hki : d.set.n + k = i
          · have hki' : ((d.set.n : Int) + (k : Int) != (i : Int)) = false := by simp; omega
            have hki2 : (d.set.n : Int) + (k : Int) = (i : Int) := by omega
            go_wp2
            go_roundw
            case rel => exact ⟨k + 1, by omega, by go_num, by rw [gtk_same d hlt hki]; exact ⟨⟨vS, vG, HBx.out, HOS.out, HOG.out⟩, HBel.out, HSz.out⟩, HX.out, HY.out⟩
            case measure => simp [intOf]; omega
          · have hki' : ((d.set.n : Int) + (k : Int) != (i : Int)) = true := by simp; omega
            have hki2 : ¬ (d.set.n : Int) + (k : Int) = (i : Int) := by omega
            obtain ⟨b1, o, hp, _, hl1, ha⟩ := HD.out.gone.at_ (by omega)
            have a0 : wr.cell? ⟨b1, o + k, none⟩ = some (.string (d.gone.item k)) := (World.cell?_of_block (a := ⟨b1, o + k, none⟩) (HBel.out.block b1 hl1)).trans (by have := ha k hlt 0 _ rfl; simpa [elStr] using this)
            rw [hp] at x2
            have hln : (gtk d i k).length ≤ 10000 := by have := gtk_len d i k; omega
            clear ha hp
            go_wp2_with fail
            refine wp_region_calmE 30 (fun wx => Below wr.heap.size wr wx) [(0, true), (1, false), (2, true), (3, false), (4, true), (5, true), (6, false)] (.one 7 true [] (.one 8 false [(9, true)] (.one 10 false [] .done))) (by kernel_rfl) (by kernel_rfl) (Below.refl _ _).drew ?_
            refine wpPre_e rfl rfl (fun K1 hK1 => ?_)
            apply Exists.intro
            refine And.intro (fun wx hx => ?_) ?_
            · go_simp
              try rfl
            go_simp
            refine hK1 _ ?_
            clear hK1 K1
            refine wpPre_e rfl rfl (fun K1 hK1 => ?_)
            apply Exists.intro
            refine And.intro (fun wx hx => ?_) ?_
            · have e0 := below_fact hx rfl x2
              have e1 := below_fact hx rfl o2
              have e2 := below_fact hx rfl a0
              go_simp
              try rfl
            go_simp
            refine hK1 _ ?_
            clear hK1 K1
            refine wpPre_e rfl rfl (fun K1 hK1 => ?_)
            apply Exists.intro
            refine And.intro (fun wx hx => ?_) ?_
            · go_simp
              try rfl
            go_simp
            refine hK1 _ ?_
            clear hK1 K1
            refine wpPre_e rfl rfl (fun K1 hK1 => ?_)
            apply Exists.intro
            refine And.intro (fun wx hx => ?_) ?_
            · have e0 := below_fact hx rfl x2
              have e1 := below_fact hx rfl o2
              have e2 := below_fact hx rfl a0
              go_simp
              try rfl
            go_simp
            refine hK1 _ ?_
            clear hK1 K1
            refine wpPre_e rfl rfl (fun K1 hK1 => ?_)
            apply Exists.intro
            refine And.intro (fun wx hx => ?_) ?_
            · go_simp
              try rfl
            go_simp
            refine hK1 _ ?_
            clear hK1 K1
            refine wpPre_e rfl rfl (fun K1 hK1 => ?_)
            apply Exists.intro
            refine And.intro (fun wx hx => ?_) ?_
            · go_simp
              try rfl
            go_simp
            refine hK1 _ ?_
            clear hK1 K1
            refine wpPre_e rfl rfl (fun K1 hK1 => ?_)
            apply Exists.intro
            refine And.intro (fun wx hx => ?_) ?_
            · have e0 := below_fact hx rfl x2
              have e1 := below_fact hx rfl o2
              have e2 := below_fact hx rfl a0
              go_simp
              try rfl
            go_simp
            refine hK1 _ ?_
            clear hK1 K1
            refine wpPre_nil ?_
            refine wpTr_e rfl (fun K1 hK1 => ?_)
            go_simp
            have hb5 : Below wr.heap.size wr (wr.alloc (.cells #[.string (d.gone.item k)] 9)).drew := ((Below.refl wr.heap.size wr).alloc (Nat.le_refl _) _).drew
            refine hK1 _ _ (fun _ => hb5) ?_
            clear hK1 K1
            refine wpPre_nil ?_
            refine wpTr_e rfl (fun K1 hK1 => ?_)
            have hnews : ∀ j u', (elStr.cells (d.gone.item k))[j]? = some u' → ((wr.alloc (.cells #[.string (d.gone.item k)] 9)).drew).cell? ((⟨wr.heap.size, 0, none⟩ : Addr).add j) = some u' := fun j u' hu => by
              show (wr.alloc (.cells #[.string (d.gone.item k)] 9)).cell? _ = _
              rw [Go.WideShapes.add_plain, (Box.new wr #[.string (d.gone.item k)] 9).cell]
              rw [show 0 + j = j by omega]
              simpa [elStr, VT.two] using hu
            have hown5 : ((wr.alloc (.cells #[.string (d.gone.item k)] 9)).drew).ownsRow B elStr.ty elStr.size vG (gtk d i k).length ((gtk d i k).flatMap elStr.cells) := ownsRow_keep HOG.out (fun k _ hl => Below.heap_alloc _ _ _ hl)
            refine step_app rfl (.tmp 46) (.tmp 52) 28 9 i1 _ 1 16 HKd.out rfl B vG (gtk d i k).length ((gtk d i k).flatMap elStr.cells) rfl hown5 ⟨wr.heap.size, 0, none⟩ 1 1 (elStr.cells (d.gone.item k)) rfl rfl hnews (elStr.one _) (by omega) (by omega) (by have := HSz.out; simp; omega) ?_
            intro v' w9 ho9 hg9 _
            obtain ⟨p2, e2, hv2⟩ := ownsRow_slice ho9
            rw [hv2] at ho9 ⊢
            clear hv2
            have hg9' : (wr.alloc (.cells #[.string (d.gone.item k)] 9)).grownBy w9 (vG).ownBlock := ⟨hg9.os, hg9.tape, hg9.output, hg9.size, fun k hk hr => hg9.block k hk hr⟩
            have hP := push_core (w := w) (i := 2) (T := fun _ => False) (x := (d.gone.item k)) HBx.out HOG.out HBel.out HSz.out (fun h => h) (by omega) (by omega) ho9 hg9'
            have z0 := hP.2.1.cell 2
            have zf := hP.2.1.frozen 2
            have zl := hP.2.1.lt
            simp at z0
            have HP := hid hP
            clear hP ho9 hg9 hg9' hnews hown5 hb5
            refine hK1 _ _ (fun h => by cases h) ?_
            clear hK1 K1
            refine wpPre_e rfl rfl (fun K1 hK1 => ?_)
            apply Exists.intro
            refine And.intro (fun wx hx => ?_) ?_
            · go_simp
              try rfl
            go_simp
            refine hK1 _ ?_
            clear hK1 K1
            refine wpPre_nil ?_
            refine wpTr_e rfl (fun K1 hK1 => ?_)
            go_simp
            refine hK1 _ _ (fun h => by cases h) ?_
            clear hK1 K1
            refine wpPre_nil ?_
            refine wpTr_done ?_
            go_wp2
            obtain ⟨hkp, _, hbx9, hown9, hoth9, hbel9, hsz9⟩ := HP.out
            go_roundw
            case rel =>
              refine ⟨k + 1, by omega, by go_num, ?_, HX.out.kept (hkp.kt.low _ (by omega) xl (by omega)), HY.out.kept (hkp.kt.low _ (by omega) HY.out.lt (by omega))⟩
              rw [gtk_push d hlt hki]
              exact ⟨⟨_, _, hbx9, hoth9 (by decide) HOS.out, hown9⟩, hbel9, hsz9⟩
            case measure => simp [intOf]; omega
        · obtain rfl : k = d.gone.n := by omega
          obtain ⟨pS, cS, rfl⟩ := ownsRow_slice HOS.out
          obtain ⟨pG, cG, rfl⟩ := ownsRow_slice HOG.out
          clear x1 o2 ol
          have o0 := HBx.out.cell 0
          have o1 := HBx.out.cell 1
          have o2 := HBx.out.cell 2
          have ol := HBx.out.lt
          have y0 := HY.out.cell 0
          have y1 := HY.out.cell 1
          have y2 := HY.out.cell 2
          have f0 := HY.out.frozen 0
          have f1 := HY.out.frozen 1
          have f2 := HY.out.frozen 2
          have yl := HY.out.lt
          simp at o0 o1 o2 y0 y1 y2
          obtain ⟨sn, hsn'⟩ : ∃ n, n = (d.set.toL.eraseIdx i).length := ⟨_, rfl⟩
          obtain ⟨gn, hgn'⟩ : ∃ n, n = (gtk d i d.gone.n).length := ⟨_, rfl⟩
          rw [← hsn'] at o1
          rw [← hgn'] at o2
          have r9 := ((HY.out.set 0 (.int .i64 d.num)).set 1 (.slice pS sn cS)).set 2 (.slice pG gn cG)
          have r0 := r9.cell 0
          have r1 := r9.cell 1
          have r2 := r9.cell 2
          simp at r0 r1 r2
          have HBt : Hid (But (fun k => k = w.heap.size + 1) wr (((wr.setCell ⟨w.heap.size + 1, 0, none⟩ (.int .i64 d.num)).setCell ⟨w.heap.size + 1, 1, none⟩ (.slice pS sn cS)).setCell ⟨w.heap.size + 1, 2, none⟩ (.slice pG gn cG))) := (((But.one wr (w.heap.size + 1)).setAt 0 _).setAt 1 _).setAt 2 _
          have HLn := hid (And.intro hsn' hgn')
          clear r9 hsn' hgn'
          go_wp2
          refine bodyPost_ret (v := .agg #[.int .i64 d.num, .slice pS sn cS, .slice pG gn cG]) (by simp [results, Try.results16, go_sem, r0, r1, r2]) rfl ?_
          have hbt := HBt.out
          have ho1 := ownsRow_keep HOS.out (fun k hk hl => hbt.block k hl fun e => by
            obtain ⟨_, _, h⟩ := own_tag HOS.out hk
            omega)
          have ho2 := ownsRow_keep HOG.out (fun k hk hl => hbt.block k hl fun e => by
            obtain ⟨_, _, h⟩ := own_tag HOG.out hk
            omega)
          have hbe : Below w.heap.size w _ := HBel.out.trans (hbt.below HBel.out.size fun k hk => by omega)
          have hl1 := er_len d.set.toL i
          rw [LT.toL_len] at hl1
          have hl2 := gtk_len d i d.gone.n
          refine ⟨⟨d.num, ltOf pS cS zC (d.set.toL.eraseIdx i), ltOf pG cG (⟨#[]⟩ : ByteArray) (gtk d i d.gone.n)⟩, by rw [HLn.out.1, HLn.out.2]; rfl, ⟨own_lt zC ho1 (fun k hk => .inr (by omega)) (fun x hx => ?_) (by omega), own_lt _ ho2 (fun k hk => .inr (by omega)) (fun x hx => ?_) (by omega), HD.out.n0, HD.out.n1⟩, ⟨rfl, ltOf_toL _ _ _ _, ltOf_toL _ _ _ _⟩, hbe⟩
          · obtain ⟨j, hj, rfl⟩ := LT.mem_toL ((List.eraseIdx_sublist _ _).subset hx)
            exact ((show VT.In w S (d.set.item j) from HD.out.set.each j hj).below hbe).mono fun b hb _ => .inl hb
          · have hx' : x ∈ d.gone.toL := by
              unfold gtk at hx
              split at hx
              · exact List.mem_of_mem_take hx
              · exact List.mem_of_mem_take ((List.eraseIdx_sublist _ _).subset hx)
            obtain ⟨j, hj, rfl⟩ := LT.mem_toL hx'
            exact HD.out.gone.each j hj
end Go.Proofs.Ytcleaealaebpaaa
