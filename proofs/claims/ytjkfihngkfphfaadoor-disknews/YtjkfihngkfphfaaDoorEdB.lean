import Derived.Test.YtjkfihngkfphfaaDoorEcF
namespace Go.Proofs.YtjkfihngkfphfaaDoor
open Go.RowKit
set_option maxRecDepth 8000
set_option maxHeartbeats 4000000 in
theorem same_yes (p q : Option Addr) (n c d : Nat) (f g : Nat → Int) (w : World) (S R : Nat → Prop) (hp : Byts w S p n c f) (hq : Byts w R q n d g) (he : ∀ j, j < n → g j = f j) :
    Calls Tryd.prog 13 #[.slice p n c, .slice q n d] w fun e w' => e = .returned (.bool true) ∧ Below w.heap.size w w' := by
  have HP := hid hp
  have HQ := hid hq
  have HE := hid he
  have hnn := hp.nn
  clear hp hq he
  go_enter Tryd.func13, Tryd.ntmps13
  go_wp2_with fail
  go_loopw [5] (fun x wr => ∃ i : Nat, i ≤ n ∧ x = .int .i64 (i : Int) ∧ Below w.heap.size w wr) (fun x _ => n - (intOf x).toNat)
  case atStart => exact ⟨0, Nat.zero_le _, rfl, Below.refl _ _⟩
  case round =>
    obtain ⟨i, hi, rfl, hbw⟩ := hrel
    have HBw := hid hbw
    clear hbw
    by_cases hlt : i < n
    · have hlt' : (i : Int) < (n : Int) := by omega
      obtain ⟨b1, o1, hp1, _, hb1, hat1⟩ := HP.out.at_ (by omega)
      obtain ⟨b2, o2, hp2, _, hb2, hat2⟩ := HQ.out.at_ (by omega)
      subst hp1 hp2
      have c0 : wr.cell? ⟨b1, o1 + i, none⟩ = some (.int .u8 (f i)) := (World.cell?_of_block (a := ⟨b1, o1 + i, none⟩) (HBw.out.block b1 hb1)).trans (hat1 i hlt)
      have c1 : wr.cell? ⟨b2, o2 + i, none⟩ = some (.int .u8 (f i)) := (World.cell?_of_block (a := ⟨b2, o2 + i, none⟩) (HBw.out.block b2 hb2)).trans ((hat2 i hlt).trans (by rw [HE.out i hlt]))
      clear hat1 hat2
      go_upto_region 6 with fail
      refine wp_region_calmE 30 (fun wx => Below wr.heap.size wr wx) [(0, true), (1, true), (2, true), (3, false), (4, true), (5, true), (6, true), (7, false), (8, true)] .done (by kernel_rfl) (by kernel_rfl) (Below.refl _ _).drew ?_
      refine wpPre_e rfl rfl (fun K1 hK1 => ?_)
      apply Exists.intro
      refine And.intro (fun wx hx => ?_) ?_
      · go_simp
        try rfl
      go_simp
      refine hK1 _ ?_
      clear hK1 K1
      refine wpPre_e rfl rfl (fun K1 hK1 => ?_)
      apply Exists.intro
      refine And.intro (fun wx hx => ?_) ?_
      · go_simp
        try rfl
      go_simp
      refine hK1 _ ?_
      clear hK1 K1
      refine wpPre_e rfl rfl (fun K1 hK1 => ?_)
      apply Exists.intro
      refine And.intro (fun wx hx => ?_) ?_
      · go_simp
        try rfl
      go_simp
      refine hK1 _ ?_
      clear hK1 K1
      refine wpPre_e rfl rfl (fun K1 hK1 => ?_)
      apply Exists.intro
      refine And.intro (fun wx hx => ?_) ?_
      · have e0 := below_fact hx rfl c0
        have e1 := below_fact hx rfl c1
        go_simp
        try rfl
      go_simp
      refine hK1 _ ?_
      clear hK1 K1
      refine wpPre_e rfl rfl (fun K1 hK1 => ?_)
      apply Exists.intro
      refine And.intro (fun wx hx => ?_) ?_
      · go_simp
        try rfl
      go_simp
      refine hK1 _ ?_
      clear hK1 K1
      refine wpPre_e rfl rfl (fun K1 hK1 => ?_)
      apply Exists.intro
      refine And.intro (fun wx hx => ?_) ?_
      · go_simp
        try rfl
      go_simp
      refine hK1 _ ?_
      clear hK1 K1
      refine wpPre_e rfl rfl (fun K1 hK1 => ?_)
      apply Exists.intro
      refine And.intro (fun wx hx => ?_) ?_
      · go_simp
        try rfl
      go_simp
      refine hK1 _ ?_
      clear hK1 K1
      refine wpPre_e rfl rfl (fun K1 hK1 => ?_)
      apply Exists.intro
      refine And.intro (fun wx hx => ?_) ?_
      · have e0 := below_fact hx rfl c0
        have e1 := below_fact hx rfl c1
        go_simp
        try rfl
      go_simp
      refine hK1 _ ?_
      clear hK1 K1
      refine wpPre_e rfl rfl (fun K1 hK1 => ?_)
      apply Exists.intro
      refine And.intro (fun wx hx => ?_) ?_
      · go_simp
        try rfl
      go_simp
      refine hK1 _ ?_
      clear hK1 K1
      refine wpPre_nil ?_
      refine wpTr_done ?_
      clear c0 c1
      go_wp2
      go_roundw
      case rel => exact ⟨i + 1, by omega, by go_num, HBw.out.drew⟩
      case measure => simp [intOf]; omega
    · have hlt' : ¬ (i : Int) < (n : Int) := by omega
      go_wp2
      exact bodyPost_ret (v := .bool true) (by simp [results, Tryd.results13, go_sem]) rfl ⟨rfl, HBw.out⟩
theorem FA.key_at {a b : FA} (h : a.key = b.key) : a.name = b.name ∧ a.n = b.n ∧ a.sy = b.sy ∧ ∀ j, j < b.n → a.f j = b.f j := by
  unfold FA.key at h
  simp only [Prod.mk.injEq] at h
  obtain ⟨h1, h2, h3⟩ := h
  have hl : a.n = b.n := by have := congrArg List.length h2; simpa [FA.zs] using this
  refine ⟨h1, hl, h3, fun j hj => ?_⟩
  have h4 := congrArg (fun l => l[j]?) h2
  simp only [FA.zs, List.getElem?_map] at h4
  rw [List.getElem?_range (by omega), List.getElem?_range (by omega)] at h4
  simpa using h4
set_option maxHeartbeats 8000000 in
theorem alike_yes (A B : LT FA) (w : World) (S R : Nat → Prop) (hA : LT.In elF w S A) (hB : LT.In elF w R B) (hn : B.n = A.n) (hk : ∀ j, j < A.n → (B.item j).key = (A.item j).key) :
    Calls Tryd.prog 6 #[.slice A.p A.n A.c, .slice B.p B.n B.c] w fun e w' => e = .returned (.bool true) ∧ Below w.heap.size w w' := by
  have HA := hid hA
  have HB := hid hB
  have HK := hid hk
  have hnn := hA.nn
  rw [hn]
  have HN := hid hn
  clear hA hB hk hn
  go_enter Tryd.func6, Tryd.ntmps6
  go_wp2_with fail
  go_loopw [5] (fun x wr => ∃ i : Nat, i ≤ A.n ∧ x = .int .i64 (i : Int) ∧ Below w.heap.size w wr) (fun x _ => A.n - (intOf x).toNat)
  case atStart => exact ⟨0, Nat.zero_le _, rfl, Below.refl _ _⟩
  case round =>
    obtain ⟨i, hi, rfl, hbw⟩ := hrel
    have HBw := hid hbw
    clear hbw
    by_cases hlt : i < A.n
    · have hlt' : (i : Int) < (A.n : Int) := by omega
      obtain ⟨k1, k2, k3, k4⟩ := FA.key_at (HK.out i hlt)
      obtain ⟨b1, o1, hp1, _, hb1, hat1⟩ := HA.out.at_ (by omega)
      obtain ⟨b2, o2, hp2, _, hb2, hat2⟩ := HB.out.at_ (by have := HN.out; omega)
      rw [hp1, hp2]
      have hlb : i < B.n := by have := HN.out; omega
      have hc1 : ∀ q u, (elF.cells (A.item i))[q]? = some u → wr.cell? ⟨b1, o1 + i * 3 + q, none⟩ = some u := fun q u hu => (World.cell?_of_block (a := ⟨b1, o1 + i * 3 + q, none⟩) (HBw.out.block b1 hb1)).trans (hat1 i hlt q u hu)
      have hc2 : ∀ q u, (elF.cells (B.item i))[q]? = some u → wr.cell? ⟨b2, o2 + i * 3 + q, none⟩ = some u := fun q u hu => (World.cell?_of_block (a := ⟨b2, o2 + i * 3 + q, none⟩) (HBw.out.block b2 hb2)).trans (hat2 i hlb q u hu)
      have a0 : wr.cell? ⟨b1, o1 + i * 3, none⟩ = some (.string (A.item i).name) := hc1 0 _ rfl
      have a1 : wr.cell? ⟨b1, o1 + i * 3 + 1, none⟩ = some (.slice (A.item i).p (A.item i).n (A.item i).c) := hc1 1 _ rfl
      have a2 : wr.cell? ⟨b1, o1 + i * 3 + 2, none⟩ = some (.int .i64 (A.item i).sy) := hc1 2 _ rfl
      have b0 : wr.cell? ⟨b2, o2 + i * 3, none⟩ = some (.string (A.item i).name) := by rw [← k1]; exact hc2 0 _ rfl
      have b1' : wr.cell? ⟨b2, o2 + i * 3 + 1, none⟩ = some (.slice (B.item i).p (A.item i).n (B.item i).c) := by rw [← k2]; exact hc2 1 _ rfl
      have b2' : wr.cell? ⟨b2, o2 + i * 3 + 2, none⟩ = some (.int .i64 (A.item i).sy) := by rw [← k3]; exact hc2 2 _ rfl
      have HSm : Hid (∀ W, Below wr.heap.size wr W → Calls Tryd.prog 13 #[.slice (A.item i).p (A.item i).n (A.item i).c, .slice (B.item i).p (A.item i).n (B.item i).c] W fun e w' => e = .returned (.bool true) ∧ Below W.heap.size W w') := by
        intro W hW
        have hb : Below w.heap.size w W := HBw.out.trans (hW.mono HBw.out.size)
        have h1 := (HA.out.each i hlt).2.1.kept hb.size fun b _ hl => hb.block b hl
        have h2 := (HB.out.each i hlb).2.1.kept hb.size fun b _ hl => hb.block b hl
        rw [k2] at h2
        exact same_yes _ _ _ _ _ _ _ W S R h1 h2 k4
      clear hc1 hc2 hat1 hat2 k1 k2 k3 k4
      go_upto_region 6 with fail
      refine wp_region_calmE 30 (fun wx => Below wr.heap.size wr wx) [(0, true), (1, true), (2, true), (3, true), (4, false), (5, true), (6, true), (7, true), (8, true), (9, false), (10, true), (11, true), (12, true), (13, true), (14, true), (15, true), (16, false), (17, true), (18, true), (19, true), (20, true), (21, false), (22, true), (23, true), (24, true), (25, true), (26, true), (27, true), (28, true), (29, false), (30, true), (31, true), (32, true), (33, true), (34, false)] (.one 35 false [(36, true), (37, true)] .done) (by kernel_rfl) (by kernel_rfl) (Below.refl _ _).drew ?_
      refine wpPre_e rfl rfl (fun K1 hK1 => ?_)
      apply Exists.intro
      refine And.intro (fun wx hx => ?_) ?_
      · go_simp
        try rfl
      go_simp
      refine hK1 _ ?_
      clear hK1 K1
      refine wpPre_e rfl rfl (fun K1 hK1 => ?_)
      apply Exists.intro
      refine And.intro (fun wx hx => ?_) ?_
      · go_simp
        try rfl
      go_simp
      refine hK1 _ ?_
      clear hK1 K1
      refine wpPre_e rfl rfl (fun K1 hK1 => ?_)
      apply Exists.intro
      refine And.intro (fun wx hx => ?_) ?_
      · go_simp
        try rfl
      go_simp
      refine hK1 _ ?_
      clear hK1 K1
      refine wpPre_e rfl rfl (fun K1 hK1 => ?_)
      apply Exists.intro
      refine And.intro (fun wx hx => ?_) ?_
      · go_simp
        try rfl
      go_simp
      refine hK1 _ ?_
      clear hK1 K1
      refine wpPre_e rfl rfl (fun K1 hK1 => ?_)
      apply Exists.intro
      refine And.intro (fun wx hx => ?_) ?_
      · have e0 := below_fact hx rfl a0
        have e1 := below_fact hx rfl a1
        have e2 := below_fact hx rfl a2
        have e3 := below_fact hx rfl b0
        have e4 := below_fact hx rfl  b1'
        have e5 := below_fact hx rfl  b2'
        go_simp
        try rfl
      go_simp
      refine hK1 _ ?_
      clear hK1 K1
      refine wpPre_e rfl rfl (fun K1 hK1 => ?_)
      apply Exists.intro
      refine And.intro (fun wx hx => ?_) ?_
      · go_simp
        try rfl
      go_simp
      refine hK1 _ ?_
      clear hK1 K1
      refine wpPre_e rfl rfl (fun K1 hK1 => ?_)
      apply Exists.intro
      refine And.intro (fun wx hx => ?_) ?_
      · go_simp
        try rfl
      go_simp
      refine hK1 _ ?_
      clear hK1 K1
      refine wpPre_e rfl rfl (fun K1 hK1 => ?_)
      apply Exists.intro
      refine And.intro (fun wx hx => ?_) ?_
      · go_simp
        try rfl
      go_simp
      refine hK1 _ ?_
      clear hK1 K1
      refine wpPre_e rfl rfl (fun K1 hK1 => ?_)
      apply Exists.intro
      refine And.intro (fun wx hx => ?_) ?_
      · go_simp
        try rfl
      go_simp
      refine hK1 _ ?_
      clear hK1 K1
      refine wpPre_e rfl rfl (fun K1 hK1 => ?_)
      apply Exists.intro
      refine And.intro (fun wx hx => ?_) ?_
      · have e0 := below_fact hx rfl a0
        have e1 := below_fact hx rfl a1
        have e2 := below_fact hx rfl a2
        have e3 := below_fact hx rfl b0
        have e4 := below_fact hx rfl  b1'
        have e5 := below_fact hx rfl  b2'
        go_simp
        try rfl
      go_simp
      refine hK1 _ ?_
      clear hK1 K1
      refine wpPre_e rfl rfl (fun K1 hK1 => ?_)
      apply Exists.intro
      refine And.intro (fun wx hx => ?_) ?_
      · go_simp
        try rfl
      go_simp
      refine hK1 _ ?_
      clear hK1 K1
      refine wpPre_e rfl rfl (fun K1 hK1 => ?_)
      apply Exists.intro
      refine And.intro (fun wx hx => ?_) ?_
      · go_simp
        try rfl
      go_simp
      refine hK1 _ ?_
      clear hK1 K1
      refine wpPre_i rfl (fun K1 hK1 => ?_)
      rw [if_pos (by go_simp)]
      apply Exists.intro
      refine And.intro (fun wx hx => ?_) ?_
      · go_simp
        try rfl
      go_simp
      refine hK1 _ ?_
      clear hK1 K1
      refine wpPre_i rfl (fun K1 hK1 => ?_)
      rw [if_pos (by go_simp)]
      apply Exists.intro
      refine And.intro (fun wx hx => ?_) ?_
      · go_simp
        try rfl
      go_simp
      refine hK1 _ ?_
      clear hK1 K1
      refine wpPre_i rfl (fun K1 hK1 => ?_)
      rw [if_pos (by go_simp)]
      apply Exists.intro
      refine And.intro (fun wx hx => ?_) ?_
      · go_simp
        try rfl
      go_simp
      refine hK1 _ ?_
      clear hK1 K1
      refine wpPre_i rfl (fun K1 hK1 => ?_)
      rw [if_pos (by go_simp)]
      apply Exists.intro
      refine And.intro (fun wx hx => ?_) ?_
      · go_simp
        try rfl
      go_simp
      refine hK1 _ ?_
      clear hK1 K1
      refine wpPre_i rfl (fun K1 hK1 => ?_)
      rw [if_pos (by go_simp)]
      apply Exists.intro
      refine And.intro (fun wx hx => ?_) ?_
      · have e0 := below_fact hx rfl a0
        have e1 := below_fact hx rfl a1
        have e2 := below_fact hx rfl a2
        have e3 := below_fact hx rfl b0
        have e4 := below_fact hx rfl  b1'
        have e5 := below_fact hx rfl  b2'
        go_simp
        try rfl
      go_simp
      refine hK1 _ ?_
      clear hK1 K1
      refine wpPre_i rfl (fun K1 hK1 => ?_)
      rw [if_pos (by go_simp)]
      apply Exists.intro
      refine And.intro (fun wx hx => ?_) ?_
      · go_simp
        try rfl
      go_simp
      refine hK1 _ ?_
      clear hK1 K1
      refine wpPre_i rfl (fun K1 hK1 => ?_)
      rw [if_pos (by go_simp)]
      apply Exists.intro
      refine And.intro (fun wx hx => ?_) ?_
      · go_simp
        try rfl
      go_simp
      refine hK1 _ ?_
      clear hK1 K1
      refine wpPre_i rfl (fun K1 hK1 => ?_)
      rw [if_pos (by go_simp)]
      apply Exists.intro
      refine And.intro (fun wx hx => ?_) ?_
      · go_simp
        try rfl
      go_simp
      refine hK1 _ ?_
      clear hK1 K1
      refine wpPre_i rfl (fun K1 hK1 => ?_)
      rw [if_pos (by go_simp)]
      apply Exists.intro
      refine And.intro (fun wx hx => ?_) ?_
      · go_simp
        try rfl
      go_simp
      refine hK1 _ ?_
      clear hK1 K1
      refine wpPre_i rfl (fun K1 hK1 => ?_)
      rw [if_pos (by go_simp)]
      apply Exists.intro
      refine And.intro (fun wx hx => ?_) ?_
      · have e0 := below_fact hx rfl a0
        have e1 := below_fact hx rfl a1
        have e2 := below_fact hx rfl a2
        have e3 := below_fact hx rfl b0
        have e4 := below_fact hx rfl  b1'
        have e5 := below_fact hx rfl  b2'
        go_simp
        try rfl
      go_simp
      refine hK1 _ ?_
      clear hK1 K1
      refine wpPre_i rfl (fun K1 hK1 => ?_)
      rw [if_pos (by go_simp)]
      apply Exists.intro
      refine And.intro (fun wx hx => ?_) ?_
      · go_simp
        try rfl
      go_simp
      refine hK1 _ ?_
      clear hK1 K1
      refine wpPre_e rfl rfl (fun K1 hK1 => ?_)
      apply Exists.intro
      refine And.intro (fun wx hx => ?_) ?_
      · go_simp
        try rfl
      go_simp
      refine hK1 _ ?_
      clear hK1 K1
      refine wpPre_e rfl rfl (fun K1 hK1 => ?_)
      apply Exists.intro
      refine And.intro (fun wx hx => ?_) ?_
      · go_simp
        try rfl
      go_simp
      refine hK1 _ ?_
      clear hK1 K1
      refine wpPre_i rfl (fun K1 hK1 => ?_)
      rw [if_pos (by go_simp)]
      apply Exists.intro
      refine And.intro (fun wx hx => ?_) ?_
      · go_simp
        try rfl
      go_simp
      refine hK1 _ ?_
      clear hK1 K1
      refine wpPre_i rfl (fun K1 hK1 => ?_)
      rw [if_pos (by go_simp)]
      apply Exists.intro
      refine And.intro (fun wx hx => ?_) ?_
      · go_simp
        try rfl
      go_simp
      refine hK1 _ ?_
      clear hK1 K1
      refine wpPre_i rfl (fun K1 hK1 => ?_)
      rw [if_pos (by go_simp)]
      apply Exists.intro
      refine And.intro (fun wx hx => ?_) ?_
      · go_simp
        try rfl
      go_simp
      refine hK1 _ ?_
      clear hK1 K1
      refine wpPre_i rfl (fun K1 hK1 => ?_)
      rw [if_pos (by go_simp)]
      apply Exists.intro
      refine And.intro (fun wx hx => ?_) ?_
      · go_simp
        try rfl
      go_simp
      refine hK1 _ ?_
      clear hK1 K1
      refine wpPre_i rfl (fun K1 hK1 => ?_)
      rw [if_pos (by go_simp)]
      apply Exists.intro
      refine And.intro (fun wx hx => ?_) ?_
      · have e0 := below_fact hx rfl a0
        have e1 := below_fact hx rfl a1
        have e2 := below_fact hx rfl a2
        have e3 := below_fact hx rfl b0
        have e4 := below_fact hx rfl  b1'
        have e5 := below_fact hx rfl  b2'
        go_simp
        try rfl
      go_simp
      refine hK1 _ ?_
      clear hK1 K1
      refine wpPre_i rfl (fun K1 hK1 => ?_)
      rw [if_pos (by go_simp)]
      apply Exists.intro
      refine And.intro (fun wx hx => ?_) ?_
      · go_simp
        try rfl
      go_simp
      refine hK1 _ ?_
      clear hK1 K1
      refine wpPre_i rfl (fun K1 hK1 => ?_)
      rw [if_pos (by go_simp)]
      apply Exists.intro
      refine And.intro (fun wx hx => ?_) ?_
      · go_simp
        try rfl
      go_simp
      refine hK1 _ ?_
      clear hK1 K1
      refine wpPre_i rfl (fun K1 hK1 => ?_)
      rw [if_pos (by go_simp)]
      apply Exists.intro
      refine And.intro (fun wx hx => ?_) ?_
      · go_simp
        try rfl
      go_simp
      refine hK1 _ ?_
      clear hK1 K1
      refine wpPre_i rfl (fun K1 hK1 => ?_)
      rw [if_pos (by go_simp)]
      apply Exists.intro
      refine And.intro (fun wx hx => ?_) ?_
      · go_simp
        try rfl
      go_simp
      refine hK1 _ ?_
      clear hK1 K1
      refine wpPre_i rfl (fun K1 hK1 => ?_)
      rw [if_pos (by go_simp)]
      apply Exists.intro
      refine And.intro (fun wx hx => ?_) ?_
      · have e0 := below_fact hx rfl a0
        have e1 := below_fact hx rfl a1
        have e2 := below_fact hx rfl a2
        have e3 := below_fact hx rfl b0
        have e4 := below_fact hx rfl  b1'
        have e5 := below_fact hx rfl  b2'
        go_simp
        try rfl
      go_simp
      refine hK1 _ ?_
      clear hK1 K1
      refine wpPre_nil ?_
      refine wpTr_e rfl (fun K1 hK1 => ?_)
      refine step_callG (by first | rfl | go_simp) 13 #[.tmp 46, .tmp 51] _ rfl Tryd.f13 Tryd.func13 (by kernel_rfl) rfl #[.slice (A.item i).p (A.item i).n (A.item i).c, .slice (B.item i).p (A.item i).n (B.item i).c] rfl _ (HSm.out _ (Below.refl _ _).drew) ?_
      rintro e_ w4 ⟨rfl, hb4⟩
      refine ⟨_, rfl, ?_⟩
      have HB4 : Hid (Below wr.heap.size wr w4) := (Below.refl _ _).drew.trans hb4
      clear hb4
      go_simp
      refine hK1 _ _ (fun h => by cases h) ?_
      clear hK1 K1
      refine wpPre_i rfl (fun K1 hK1 => ?_)
      rw [if_pos (by go_simp)]
      apply Exists.intro
      refine And.intro (fun wx hx => ?_) ?_
      · go_simp
        try rfl
      go_simp
      refine hK1 _ ?_
      clear hK1 K1
      refine wpPre_e rfl rfl (fun K1 hK1 => ?_)
      apply Exists.intro
      refine And.intro (fun wx hx => ?_) ?_
      · go_simp
        try rfl
      go_simp
      refine hK1 _ ?_
      clear hK1 K1
      refine wpPre_nil ?_
      refine wpTr_done ?_
      clear a0 a1 a2 b0 b1' b2'
      go_wp2
      go_roundw
      case rel => exact ⟨i + 1, by omega, by go_num, HBw.out.trans (HB4.out.mono HBw.out.size)⟩
      case measure => simp [intOf]; omega
    · have hlt' : ¬ (i : Int) < (A.n : Int) := by omega
      go_wp2
      exact bodyPost_ret (v := .bool true) (by simp [results, Tryd.results6, go_sem]) rfl ⟨rfl, HBw.out⟩
end Go.Proofs.YtjkfihngkfphfaaDoor
