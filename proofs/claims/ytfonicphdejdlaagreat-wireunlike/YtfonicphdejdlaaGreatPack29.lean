import Derived.Test.YtfonicphdejdlaaGreatPack27
import Derived.Test.YtfonicphdejdlaaGreatWzB
import Derived.Test.YtfonicphdejdlaaGreatPack19
namespace Go.Proofs.YtfonicphdejdlaaGreat
open Go.RowKit
set_option maxRecDepth 8000
theorem OwnBy.byts {base : Nat} {w : World} {v : Value} {zs : List Int} (h : OwnBy base w v zs) (hz : Byt zs) (hl : zs.length ≤ 140737488355328) : ∃ p c, v = .slice p zs.length c ∧ Byts w (fun b => base ≤ b) p zs.length c (fun j => zs.getD j 0) := by
  have hlt := World.ownsRow.lt h
  have hce := @World.ownsRow.cells _ _ _ _ _ _ _ h
  have hfit : ∀ j, j < zs.length → 0 ≤ zs.getD j 0 ∧ zs.getD j 0 < 256 := fun j hj => hz _ (by simp [List.getD_eq_getElem?_getD, List.getElem?_eq_getElem hj])
  obtain ⟨_, ⟨hv, h0⟩ | ⟨gb, cap, cur, hv, hbg, hh, hnc, hcm, hcs, htake⟩⟩ := id h
  · refine ⟨none, 0, by rw [hv, h0], ⟨fun h1 => by omega, by omega, hl, Nat.zero_le _, hfit, fun _ => ⟨h0, rfl⟩⟩⟩
  · refine ⟨_, cap, hv, fun h1 => ⟨gb, 0, rfl, hbg, (hlt gb (by rw [hv]; rfl)).2, fun j hj => ?_⟩, hnc, hl, hcm, hfit, fun h => by cases h⟩
    have := hce (g := gb) (by rw [hv]; rfl) j (.int .u8 (zs.getD j 0)) (by simp [List.getD_eq_getElem?_getD, List.getElem?_eq_getElem hj])
    rw [Go.WideShapes.add_plain] at this
    exact this
def want7 : List Int := [1, 97, 1, 10, 2, 0, 2]
theorem byt7 : Byt want7 := by
  intro x hx
  simp only [want7, List.mem_cons, List.not_mem_nil, or_false] at hx
  rcases hx with rfl | rfl | rfl | rfl | rfl | rfl | rfl <;> decide
/-- the chapter's record -/
def r5 (b : Nat) : RT := ⟨⟨#[97]⟩, mkI 5, some ⟨b, 0, none⟩, 2, 2, fun j => if j = 0 then 0 else 2⟩
theorem rec7 : recS want7 = .ok (mkR ⟨#[97]⟩ (mkI 5) [0, 2], []) := by kernel_rfl
theorem alike7 (b : Nat) : RT.Alike (mkR ⟨#[97]⟩ (mkI 5) [0, 2]) (r5 b) := by
  refine ⟨rfl, VT.Alike.refl _, rfl, fun j hj => ?_⟩
  have hj2 : j < 2 := hj
  rcases (by omega : j = 0 ∨ j = 1) with rfl | rfl <;> rfl
theorem one7 (b : Nat) : recB (r5 b) = want7 ∧ chkRec (r5 b) = 0 := one_rec rec7 byt7 (alike7 b)
theorem leaf7 {t : RT} (b : Nat) (h : RT.Alike (mkR ⟨#[97]⟩ (mkI 5) [0, 2]) t) : LeafR t (r5 b) := by
  obtain ⟨h1, h2, h3, h4⟩ := h
  refine ⟨h1.symm, ⟨h2.kind.symm, h2.int.symm, h2.text.symm, h2.n, rfl⟩, h3.symm, fun j hj => ?_⟩
  have hj2 : j < 2 := by rw [h3] at hj; exact hj
  rw [h4 j hj2]
  rcases (by omega : j = 0 ∨ j = 1) with rfl | rfl <;> rfl
set_option maxHeartbeats 8000000 in
theorem known_any (w : World) : Calls Tryz.prog 8 #[] w fun x w' => x = .returned (.bool true) ∧ Below w.heap.size w w' := by
  obtain ⟨W0, hW0⟩ : ∃ W0, W0 = ((w.alloc (.cells #[.int .i64 0, .int .i64 2] 3)).alloc (.cells #[.string ⟨#[97]⟩, .int .i64 1, .int .i64 5, .string ⟨#[]⟩, .slice none 0 0, .slice (some ⟨w.heap.size, 0, none⟩) 2 2] 27)).alloc (.cells #[.int .u8 1, .int .u8 97, .int .u8 1, .int .u8 10, .int .u8 2, .int .u8 0, .int .u8 2] 5) := ⟨_, rfl⟩
  have hb0 : Below w.heap.size w W0 := by rw [hW0]; exact (((Below.refl _ _).alloc (Nat.le_refl _) _).alloc (by simp) _).alloc (by simp; omega) _
  have l1 := fun (W : World) o => (Below.refl W.heap.size W).alloc (Nat.le_refl _) o
  have z1 : (w.alloc (.cells #[.int .i64 0, .int .i64 2] 3)).heap.size = w.heap.size + 1 := by simp
  have z2 : ((w.alloc (.cells #[.int .i64 0, .int .i64 2] 3)).alloc (.cells #[.string ⟨#[97]⟩, .int .i64 1, .int .i64 5, .string ⟨#[]⟩, .slice none 0 0, .slice (some ⟨w.heap.size, 0, none⟩) 2 2] 27)).heap.size = w.heap.size + 1 + 1 := by simp
  have hL : Box W0 w.heap.size #[.int .i64 0, .int .i64 2] 3 := by rw [hW0]; exact ((Box.new w _ _).below (l1 _ _)).below (l1 _ _)
  have hF : Box W0 (w.heap.size + 1) #[.string ⟨#[97]⟩, .int .i64 1, .int .i64 5, .string ⟨#[]⟩, .slice none 0 0, .slice (some ⟨w.heap.size, 0, none⟩) 2 2] 27 := by
    have h := Box.new (w.alloc (.cells #[.int .i64 0, .int .i64 2] 3)) #[.string ⟨#[97]⟩, .int .i64 1, .int .i64 5, .string ⟨#[]⟩, .slice none 0 0, .slice (some ⟨w.heap.size, 0, none⟩) 2 2] 27
    rw [z1] at h
    rw [hW0]; exact h.below (l1 _ _)
  have hB : Box W0 (w.heap.size + 1 + 1) #[.int .u8 1, .int .u8 97, .int .u8 1, .int .u8 10, .int .u8 2, .int .u8 0, .int .u8 2] 5 := by
    have h := Box.new ((w.alloc (.cells #[.int .i64 0, .int .i64 2] 3)).alloc (.cells #[.string ⟨#[97]⟩, .int .i64 1, .int .i64 5, .string ⟨#[]⟩, .slice none 0 0, .slice (some ⟨w.heap.size, 0, none⟩) 2 2] 27)) #[.int .u8 1, .int .u8 97, .int .u8 1, .int .u8 10, .int .u8 2, .int .u8 0, .int .u8 2] 5
    rw [z2] at h
    rw [hW0]; exact h
  have hws : w.heap.size + 1 + 1 < W0.heap.size := hB.lt
  have hI : ∀ W, Below W0.heap.size W0 W → RT.In W (fun b => b = w.heap.size) (r5 w.heap.size) := fun W hW => by
    have hL2 := hL.below hW
    refine ⟨⟨⟨by decide, by decide, by decide, by decide, by decide, by decide, by decide, by decide, fun _ => ⟨rfl, rfl⟩⟩, fun h => absurd h (by decide), fun j h => absurd h (Nat.not_lt_zero j)⟩, ⟨fun _ => ⟨w.heap.size, 0, rfl, rfl, hL2.lt, fun j hj => ?_⟩, (show 2 ≤ 2 by decide), (show 2 ≤ 140737488355328 by decide), (show 2 ≤ maxLen by decide), fun j hj => ?_, fun h => by cases h⟩, (show (⟨#[97]⟩ : ByteArray).size ≤ _ by decide)⟩
    · have hj2 : j < 2 := hj
      rcases (by omega : j = 0 ∨ j = 1) with rfl | rfl
      · have := hL2.cell 0; simpa [r5] using this
      · have := hL2.cell 1; simpa [r5] using this
    · have hj2 : j < 2 := hj
      rcases (by omega : j = 0 ∨ j = 1) with rfl | rfl
      · show -9223372036854775808 ≤ (0 : Int) ∧ (0 : Int) ≤ 9223372036854775807
        decide
      · show -9223372036854775808 ≤ (2 : Int) ∧ (2 : Int) ≤ 9223372036854775807
        decide
  have hY : ∀ W, Below W0.heap.size W0 W → Byts W (fun b => b = w.heap.size + 1 + 1) (some ⟨w.heap.size + 1 + 1, 0, none⟩) want7.length 7 (fun j => want7.getD j 0) := fun W hW => by
    have hB2 := hB.below hW
    refine ⟨fun _ => ⟨w.heap.size + 1 + 1, 0, rfl, rfl, hB2.lt, fun j hj => ?_⟩, by decide, by decide, by decide, fun j hj => ?_, fun h => by cases h⟩
    · have hj2 : j < 7 := hj
      rcases (by omega : j = 0 ∨ j = 1 ∨ j = 2 ∨ j = 3 ∨ j = 4 ∨ j = 5 ∨ j = 6) with rfl | rfl | rfl | rfl | rfl | rfl | rfl
      · have := hB2.cell 0; simpa [want7] using this
      · have := hB2.cell 1; simpa [want7] using this
      · have := hB2.cell 2; simpa [want7] using this
      · have := hB2.cell 3; simpa [want7] using this
      · have := hB2.cell 4; simpa [want7] using this
      · have := hB2.cell 5; simpa [want7] using this
      · have := hB2.cell 6; simpa [want7] using this
    · exact byt7 _ (by simp [List.getD_eq_getElem?_getD, List.getElem?_eq_getElem hj])
  have HP := hid (lawputRec 1 (by decide) (by decide) (by decide) (by decide) (r5 w.heap.size) W0 (fun b => b = w.heap.size) (hI W0 (Below.refl _ _)) (one7 _).2 (fun b hb => by omega))
  rw [(one7 w.heap.size).1] at HP
  have HI := hid hI
  have HY := hid hY
  have HF := hid hF
  have HB0 := hid hb0
  have HWs := hid hws
  have hth : thRT 1 (r5 w.heap.size) = #[.int .i64 1, .string ⟨#[97]⟩, .int .i64 1, .int .i64 5, .string ⟨#[]⟩, .slice none 0 0, .slice (some ⟨w.heap.size, 0, none⟩) 2 2, .int .i64 0, .slice none 0 0, .int .i64 0, .int .i64 0, .int .i64 0, .int .u32 0, .int .i64 0, .slice none 0 0, .int .i64 0, .slice none 0 0, .slice none 0 0, .slice none 0 0, .slice none 0 0, .int .i64 0, .int .u32 0, .slice none 0 0, .int .i64 0, .string ⟨#[]⟩, .int .i64 0, .int .i64 0, .string ⟨#[]⟩, .slice none 0 0, .slice none 0 0] := rfl
  rw [hth, hW0] at HP
  clear hI hY hF hb0 hws hL hB l1 z1 z2 hth
  go_enter Tryz.func8, Tryz.ntmps8
  go_wp2_with fail
  refine HP.out.mono ?_
  rw [← hW0]
  rintro x w1 ⟨v1, rfl, ho1, hb1⟩
  obtain ⟨p1, c1, rfl, hy1⟩ := ho1.byts byt7 (by decide)
  have HS := hid (wsame_any w1 _ _ p1 (some ⟨w.heap.size + 1 + 1, 0, none⟩) 7 c1 7 (fun j => want7.getD j 0) hy1 (HY.out w1 hb1))
  have HB1 := hid hb1
  clear ho1 hy1 HP hb1
  have e7 : want7.length = 7 := rfl
  rw [e7]
  clear e7
  go_wp2_with fail
  refine HS.out.mono ?_
  rintro x w2 ⟨rfl, hb2⟩
  have hb02 : Below W0.heap.size W0 w2 := HB1.out.trans (hb2.mono HB1.out.size)
  have hs2 := hb02.size
  have HG := hid (lawgetRec 1 (by decide) (by decide) (by decide) (by decide) w2 (.slice (some ⟨w.heap.size + 1 + 1, 0, none⟩) 7 7) (fun W t k w' => GetP recS RT.val zRT RT.In (fun t y => RT.Alike y t) W want7 t k w') (fun W t k w' h => h.bel) (fun W hW => getRec W (fun b => b = w.heap.size + 1 + 1) (some ⟨w.heap.size + 1 + 1, 0, none⟩) 7 want7 ((HY.out w2 hb02).kept hW.size fun b _ hl => hW.block b hl) (fun b hb => by have := HWs.out; have := hW.size; omega)))
  have HB2 := hid hb02
  clear hb2 hb02 HS
  go_wp2_with fail
  refine HG.out.mono ?_
  rintro x w3 ⟨t, e, W, wg, rfl, hbW, hWs, hg, hkg⟩
  obtain ⟨he, hal⟩ := hg.good _ rec7
  subst he
  have hsg := hg.bel.size
  have hs23 := hbW.size
  have hb3 : Below w2.heap.size w2 w3 := (hbW.trans (hg.bel.mono (by omega))).trans (hkg.below (by omega) (fun k hk h => by omega))
  have hin3 : RT.In w3 (fun b => W.heap.size ≤ b) t := hg.inn.but hkg (fun b hb _ h => by omega)
  have hb03 : Below W0.heap.size W0 w3 := HB2.out.trans (hb3.mono hs2)
  have hs3 := hb3.size
  have hBx := Box.new w3 zC 45
  have HBx := hid hBx
  have HX := hid (And.intro hb03 (And.intro hin3 hal))
  have hsW0 := HB0.out.size
  clear hBx hb3 hin3 hb03 hg hkg hbW hWs hal hsg hs23 HG
  go_wp2_with (refine wpList_store_any rfl 45 (.tmp 5) (.tmp 28) rfl w3.heap.size (thRT 1 t) rfl rfl 45 zC HBx.out (by rw [info45]; rfl) rfl (thRT_one 1 t) ?_)
  intro w4 ht4 hk4
  have hb4 : Below w3.heap.size w3 w4 := ((Below.refl _ _).alloc (Nat.le_refl _) _).trans (hk4.below (by simp) (fun k hk h => by omega))
  obtain ⟨hb03, hin3, hal⟩ := HX.out
  have c1 := (ht4.cell 1).trans (show (thRT 1 t)[1]? = some (.string t.key) from rfl)
  have c2 := (ht4.cell 2).trans (show (thRT 1 t)[2]? = some (.int .i64 t.v.kind) from rfl)
  have c3 := (ht4.cell 3).trans (show (thRT 1 t)[3]? = some (.int .i64 t.v.int) from rfl)
  have c4 := (ht4.cell 4).trans (show (thRT 1 t)[4]? = some (.string t.v.text) from rfl)
  have c5 := (ht4.cell 5).trans (show (thRT 1 t)[5]? = some (.slice t.v.p t.v.n t.v.c) from rfl)
  have c6 := (ht4.cell 6).trans (show (thRT 1 t)[6]? = some (.slice t.p t.n t.c) from rfl)
  have hF4 := (HF.out.below hb03).below hb4
  have d0 := hF4.cell 0
  have d1 := hF4.cell 1
  have d2 := hF4.cell 2
  have d3 := hF4.cell 3
  have d4 := hF4.cell 4
  have d5 := hF4.cell 5
  simp only [List.getElem?_toArray, List.getElem?_cons_zero, List.getElem?_cons_succ] at d0 d1 d2 d3 d4 d5
  have HR := hid (sameRecord_leaf t (r5 w.heap.size) (leaf7 w.heap.size hal) w4 (fun b => b < w3.heap.size) ((hin3.mono (S' := fun b => b < w3.heap.size) (fun b hb hl => hl)).below hb4) (((HI.out w3 hb03).mono (S' := fun b => b < w3.heap.size) (fun b hb hl => hl)).below hb4) (fun b hb => by have := hb4.size; omega))
  have hr5 : RT.val (r5 w.heap.size) = .agg #[.string ⟨#[97]⟩, .int .i64 1, .int .i64 5, .string ⟨#[]⟩, .slice none 0 0, .slice (some ⟨w.heap.size, 0, none⟩) 2 2] := rfl
  rw [hr5] at HR
  unfold RT.val at HR
  have HB4 := hid ((HB0.out.trans (hb03.mono hsW0)).trans (hb4.mono (by omega)))
  clear hr5 hb4 ht4 hF4 hb03 hin3 hal hk4
  go_wp2_with fail
  refine HR.out.mono ?_
  rintro x w5 ⟨rfl, hb5⟩
  have HB5 := hid (HB4.out.trans (hb5.mono HB4.out.size))
  clear hb5 HR
  go_wp2
  go_ret
  exact ⟨rfl, HB5.out⟩
end Go.Proofs.YtfonicphdejdlaaGreat

namespace Go.Proofs.YtfonicphdejdlaaGreat
open Go.RowKit
set_option maxRecDepth 8000
/-- what get and put of one kind come to -/
def OneK (k : Int) (B : List Int) (x : Ending) (W w' : World) : Prop :=
  ∃ (cT : Array Value) (e : Int), x = .returned (.tuple #[.agg cT, .int .i64 e]) ∧ cT.size = 30 ∧ cT.all (·.oneCell') = true ∧ Below W.heap.size W w' ∧ (e ≠ 0 → cT = kC k) ∧ (e = 0 → ∀ W2, Below w'.heap.size w' W2 → Calls Tryz.prog 11 #[.agg cT] W2 fun x w'' => PutP B W2 x w'')
set_option maxHeartbeats 8000000 in
theorem one_core (k : Int) (w : World) (S : Nat → Prop) (p : Option Addr) (c : Nat) (B : List Int) (hB : Byts w S p B.length c (fun j => B.getD j 0))
    (HG : ∀ W, Below w.heap.size w W → B.length ≤ 262144 → Calls Tryz.prog 12 #[.int .i64 k, .slice p B.length c] W fun x w' => OneK k B x W w') :
    Calls Tryz.prog 4 #[.int .i64 k, .slice p B.length c] w fun x w' => x = .returned (.bool true) ∧ Below w.heap.size w w' := by
  have hByt : Byt B := by
    intro x hx
    obtain ⟨j, hj, rfl⟩ := List.getElem_of_mem hx
    have := hB.fit j hj
    simpa [List.getD_eq_getElem?_getD, List.getElem?_eq_getElem hj] using this
  have hbnn := hB.nn
  have H := fun W => known_any W
  have HY := hid hB
  have HGt := hid HG
  have HBy := hid hByt
  clear hB HG hByt
  obtain ⟨n, hn⟩ : ∃ n, n = B.length := ⟨_, rfl⟩
  have HNn := hid hn
  rw [← hn] at HY HGt hbnn ⊢
  clear hn
  go_enter Tryz.func4, Tryz.ntmps4
  go_wp2_with fail
  refine (H _).mono ?_
  rintro x w1 ⟨rfl, hb1⟩
  have HB1 := hid hb1
  clear H hb1
  by_cases hbig : 262144 < n
  · have hbig' : (262144 : Int) < (n : Int) := by omega
    go_wp2
    go_ret
    exact ⟨rfl, HB1.out⟩
  · have hbig' : ¬ (262144 : Int) < (n : Int) := by omega
    have HC := hid (HGt.out w1 HB1.out (by omega))
    clear HGt
    go_wp2_with fail
    refine HC.out.mono ?_
    rintro x w2 ⟨cT, e, rfl, hsz, hon, hb2, he0, he1⟩
    have hBx := Box.new w2 zC 45
    have HBx := hid hBx
    have hs1 := HB1.out.size
    have HB2 := hid (HB1.out.trans (hb2.mono hs1))
    have hs2 := HB2.out.size
    have HE := hid (And.intro he0 he1)
    have HSz := hid hsz
    have HOn := hid hon
    clear hBx HC hb2 he0 he1 hsz hon
    go_wp2_with (refine wpList_store_any rfl 45 (.tmp 5) (.tmp 18) rfl w2.heap.size cT rfl rfl 45 zC HBx.out (by rw [info45, HSz.out]) (by rw [HSz.out]; rfl) HOn.out ?_)
    intro w3 ht3 hk3
    have hb3 : Below w2.heap.size w2 w3 := ((Below.refl _ _).alloc (Nat.le_refl _) _).trans (hk3.below (by simp) (fun k hk h => by omega))
    have HT3 := hid ht3
    have HB3 := hid hb3
    clear ht3 hk3 hb3
    by_cases he : e = 0
    · subst he
      have HP := hid (HE.out.2 rfl w3 HB3.out)
      clear HE
      go_wp2_with (refine wpList_load_row rfl 45 (.tmp 5) rfl w2.heap.size rfl 45 cT (0, 0) _ HT3.out Tryz.underlying45 rfl (by rw [info45, HSz.out]) ?_)
      refine HP.out.mono ?_
      rintro x w4 ⟨v4, rfl, ho4, hb4⟩
      obtain ⟨p4, c4, rfl, hy4⟩ := ho4.byts HBy.out (by have := HNn.out; omega)
      have hs3 := HB3.out.size
      have hbw : Below w.heap.size w w4 := (HB2.out.trans (HB3.out.mono hs2)).trans (hb4.mono (by omega))
      rw [← HNn.out] at hy4 ⊢
      have HS := hid (wsame_any w4 _ _ p p4 n c c4 (fun j => B.getD j 0) (HY.out.kept hbw.size fun b _ hl => hbw.block b hl) hy4)
      have HBw := hid hbw
      clear ho4 hy4 hb4 hbw HP
      go_wp2_with fail
      refine HS.out.mono ?_
      rintro x w5 ⟨rfl, hb5⟩
      have HB5 := hid (HBw.out.trans (hb5.mono HBw.out.size))
      clear hb5 HS
      go_wp2
      go_ret
      exact ⟨rfl, HB5.out⟩
    · have he' : (e == 0) = false := by simpa using he
      have hcT := HE.out.1 he
      subst hcT
      have HZ := hid (sameThing_zero k w3)
      clear HE
      go_wp2_with (refine wpList_load_row rfl 45 (.tmp 5) rfl w2.heap.size rfl 45 (kC k) (0, 0) _ HT3.out Tryz.underlying45 rfl (by rw [info45]; rfl) ?_)
      refine HZ.out.mono ?_
      rintro x w4 ⟨rfl, hb4⟩
      have hs3 := HB3.out.size
      have HB4 := hid ((HB2.out.trans (HB3.out.mono hs2)).trans (hb4.mono (by omega)))
      clear hb4 HZ
      go_wp2
      go_ret
      exact ⟨rfl, HB4.out⟩
end Go.Proofs.YtfonicphdejdlaaGreat
