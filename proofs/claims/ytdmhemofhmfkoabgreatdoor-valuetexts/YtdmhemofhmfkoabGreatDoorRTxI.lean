import Derived.Test.YtdmhemofhmfkoabGreatDoorPack24
import Derived.Test.YtdmhemofhmfkoabGreatDoorPack8
import Derived.Deep.QuietTactic
import Derived.BigQuiet
namespace Go.Proofs.YtdmhemofhmfkoabGreatDoor
open Go.RowKit
set_option maxRecDepth 8000
def hdr (n : Nat) : PT := ⟨3, 0, ⟨#[]⟩, n⟩
def InsPost (w0 : World) (rb : Nat) (s : ByteArray) (A : List PT) (O : List Nat) (b : Nat) (x : Ending) (w' : World) : Prop :=
  (pk s b = 93 → x = .returned (.bool true) ∧ RR w0 rb w' s (b + 1) (A ++ [hdr 0]) O 0) ∧ (pk s b ≠ 93 → x = .returned (.bool false) ∧ RR w0 rb w' s b (A ++ [hdr 1]) (A.length :: O) 0)
set_option maxHeartbeats 4000000 in
theorem refInside_any (w0 : World) (rb : Nat) (s : ByteArray) (a : Nat) (A : List PT) (O : List Nat) (w : World) (h : RR w0 rb w s a (A ++ [hdr 0]) (A.length :: O) 0) (hs : s.size ≤ 140737488355328) :
    Calls Tryz.prog 55 #[.pointer (some ⟨rb, 0, none⟩)] w fun x w' => InsPost w0 rb s A O (skS s a) x w' := by
  obtain ⟨v5, v6, h⟩ := h
  obtain ⟨g6, cap6, rfl, hc6, hcap6, hg6⟩ := h.top
  obtain ⟨g5, cap5, rfl, hpts, hfz, hg5⟩ := h.pts (by simp)
  have hq3 : w.cell? ⟨g5, 0 + A.length * 4 + 3, none⟩ = some (.int .i64 ((0 : Nat) : Int)) := (hpts.at_ A.length (hdr 0) (by simp)).c3
  have hA12 : A.length + 1 ≤ 12 := by have := h.len; simpa using this
  have hO3 : O.length + 1 ≤ 3 := by have := h.dep; simpa using this
  have hlt5 := hpts.lt
  have hlt6 := (h.stk.lt g6 rfl).2
  have hpt := hpts
  have HM := hid h
  have ha := h.at_
  have hba := skS_le ha
  have x0 := h.box.cell 0
  have x1 := h.box.cell 1
  have f1 := h.box.frozen 1
  simp at x0 x1
  have HBl : Hid (∀ W, Calls Tryz.prog 53 #[.string s, .int .i64 (a : Int)] W fun x w' => x = .returned (.int .i64 (skS s a : Nat)) ∧ Below W.heap.size W w') := fun W => refBlanks_any s a W ha hs
  obtain ⟨b, hb⟩ : ∃ b, skS s a = b := ⟨_, rfl⟩
  rw [hb] at HBl hba ⊢
  clear hb h hpts hfz
  go_enter Tryz.func55, Tryz.ntmps55
  go_wp2_with fail
  go_region_law (refine step_call rfl 53 #[.tmp 7, .tmp 11] _ rfl Tryz.f53 Tryz.func53 (by kernel_rfl) rfl #[.string s, .int .i64 (a : Int)] rfl _ (HBl.out _) ?_
                 rintro e w1 ⟨rfl, hb1'⟩
                 refine ⟨_, rfl, ?_⟩
                 have hb1 : Below w.heap.size w w1 := (Below.refl _ _).drew.trans hb1'
                 have y1 := (HM.out.kept hb1).box.cell 1
                 have g1 := (HM.out.kept hb1).box.frozen 1
                 simp at y1)
  all_goals
    have hM2 := (HM.out.kept hb1).to (b : Int) b rfl hba
    have hq4 := (hpt.below hb1).at_ A.length (hdr 0) (by simp)
    have hc61 : w1.cell? ⟨g6, O.length, none⟩ = some (.int .i64 (A.length : Int)) := (World.cell?_of_block (a := ⟨g6, O.length, none⟩) (hb1.block g6 hlt6)).trans hc6
    have hc62 : (w1.setCell ⟨rb, 1, none⟩ (.int .i64 (b : Int))).cell? ⟨g6, O.length, none⟩ = some (.int .i64 (A.length : Int)) := (World.cell?_of_block (a := ⟨g6, O.length, none⟩) (Below.heap_setCell _ _ _ _ hg6)).trans hc61
    clear hc61 y1 g1 hb1' hb1 hq4
    generalize w1.setCell ⟨rb, 1, none⟩ (.int .i64 (b : Int)) = w2 at hM2 hc62 ⊢
    have HM2 := hid hM2
    have x0 := hM2.box.cell 0
    have x1 := hM2.box.cell 1
    have x2 := hM2.box.cell 2
    have x3 := hM2.box.cell 3
    have f1 := hM2.box.frozen 1
    have f3 := hM2.box.frozen 3
    have fq : w2.frozen? ⟨g5, A.length * 4 + 3, none⟩ = false := hM2.own.frozenAt _
    obtain ⟨_, _, e5, hp2, hf2, _⟩ := hM2.pts (by simp)
    cases e5
    have z3 := (hp2.at_ A.length (hdr 0) (by simp)).c3
    rw [Nat.zero_add] at z3
    simp at x0 x1 x2 x3
    simp only [hdr] at z3
    clear hM2 hp2 hf2
    have hbw : IntKind.i64.wrap ((b : Int) + 1) = (b : Int) + 1 := by rw [IntKind.wrap_i64]; omega
    have how : IntKind.i64.wrap ((O.length : Int) + 1 - 1) = (O.length : Int) := by rw [IntKind.wrap_i64]; omega
    by_cases hlt : b < s.size
    · have hg := pk_get hlt
      have hn2 : (b : Int) < (s.size : Int) := by omega
      have hn3 : decide ((b : Int) < (s.size : Int)) = true := by simp; omega
      by_cases h93 : pk s b = 93
      · rw [h93] at hg
        go_wp2_with fail
        go_quiet (fail)
        go_wp2_with fail
        have hM3 := (HM2.out.kept (below_dN (Below.refl _ _) nq)).to ((b : Int) + 1) (b + 1) rfl hlt
        clear HM2 x0 x1 x2 x3 f1 f3 fq z3 hc62
        generalize (w2.drewN nq).setCell ⟨rb, 1, none⟩ (.int .i64 ((b : Int) + 1)) = w3 at hM3 ⊢
        have x3 := hM3.box.cell 3
        have f3 := hM3.box.frozen 3
        simp at x3
        have HM3 := hid (hM3.kept (Below.refl _ _).drew).pop
        clear hM3
        go_region
        all_goals
          go_wp2
          exact bodyPost_ret (v := .bool true) (by simp [results, Tryz.results55, go_sem]) rfl ⟨fun _ => ⟨rfl, _, _, HM3.out⟩, fun h => absurd h93 h⟩
      · obtain ⟨z, hz⟩ : ∃ z, pk s b = z := ⟨_, rfl⟩
        rw [hz] at hg h93
        have hp' : ¬ (z : Int) = 93 := by omega
        have hq1 : decide ((z : Int) = 93) = false := by simp; omega
        have hq2 : ((z : Int) == 93) = false := by simp; omega
        have HM3 := hid (fun q => RM.count (A := A) (B := []) (q := hdr 0) 1 (by omega) (HM2.out.kept (below_dN (Below.refl _ _) q)))
        go_wp2_with fail
        go_quiet (fail)
        go_wp2_with fail
        go_region
        all_goals
          go_wp2
          exact bodyPost_ret (v := .bool false) (by simp [results, Tryz.results55, go_sem]) rfl ⟨fun h => absurd (hz.symm.trans h) h93, fun _ => ⟨rfl, _, _, HM3.out _⟩⟩
    · have hn2 : ¬ (b : Int) < (s.size : Int) := by omega
      have hn3 : decide ((b : Int) < (s.size : Int)) = false := by simp; omega
      have h93 : pk s b ≠ 93 := fun h => hlt (pk_pos (by omega))
      have HM3 := hid (fun q => RM.count (A := A) (B := []) (q := hdr 0) 1 (by omega) (HM2.out.kept (below_dN (Below.refl _ _) q)))
      go_wp2_with fail
      go_quiet (fail)
      go_wp2_with fail
      go_region
      all_goals
        go_wp2
        exact bodyPost_ret (v := .bool false) (by simp [results, Tryz.results55, go_sem]) rfl ⟨fun h => absurd h h93, fun _ => ⟨rfl, _, _, HM3.out _⟩⟩
end Go.Proofs.YtdmhemofhmfkoabGreatDoor
