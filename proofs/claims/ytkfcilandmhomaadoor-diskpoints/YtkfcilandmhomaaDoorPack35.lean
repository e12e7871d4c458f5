import Derived.Test.YtkfcilandmhomaaDoorPack17
import Derived.Test.YtkfcilandmhomaaDoorPack34
namespace Go.Proofs.YtkfcilandmhomaaDoor
open Go.RowKit
set_option maxRecDepth 8000
end Go.Proofs.YtkfcilandmhomaaDoor

namespace Go.Proofs.YtkfcilandmhomaaDoor
open Go.RowKit
set_option maxRecDepth 8000
def elD : El OpD where
  ty := 33
  size := 7
  cells := fun o => [.int .i64 o.kind, .int .i64 o.which, .string o.name, .int .i64 o.n, .int .i64 o.after, .slice o.bp o.zs.length o.bc, .slice o.K.p o.K.n o.K.c]
  len := fun _ => rfl
  one := fun x u hu => by
    simp only [List.mem_cons, List.not_mem_nil, or_false] at hu
    rcases hu with rfl | rfl | rfl | rfl | rfl | rfl | rfl <;> rfl
  In := fun w S o => o.name.size ≤ 140737488355328 ∧ (-9223372036854775808 ≤ o.kind ∧ o.kind ≤ 9223372036854775807) ∧ (-9223372036854775808 ≤ o.n ∧ o.n ≤ 9223372036854775807) ∧ (-9223372036854775808 ≤ o.after ∧ o.after ≤ 9223372036854775807) ∧ Byts w S o.bp o.zs.length o.bc (fun j => o.zs.getD j 0) ∧ LT.In elInt w S o.K
  kept := fun h hs hb => ⟨h.1, h.2.1, h.2.2.1, h.2.2.2.1, h.2.2.2.2.1.kept hs hb, h.2.2.2.2.2.kept hs hb⟩
  mono := fun h hb => ⟨h.1, h.2.1, h.2.2.1, h.2.2.2.1, h.2.2.2.2.1.mono hb, h.2.2.2.2.2.mono hb⟩
def FsQ (A : LT FA) (P : LT OpD) (w : World) (e : Ending) (w' : World) : Prop := ∃ q : Bool, e = .returned (.bool q) ∧ Below w.heap.size w w' ∧ (q = true → (A.n ≤ 500 ∧ ∀ j, j < A.n → (A.item j).n ≤ 524288) ∧ P.n ≤ 400 ∧ ∀ j, j < P.n → (P.item j).zs.length ≤ 524288 ∧ (P.item j).K.n ≤ 524288)
set_option maxHeartbeats 8000000 in
/-- what the law's fits says of files and script -/
theorem sfits_any (A : LT FA) (P : LT OpD) (w : World) (S S' : Nat → Prop) (hA : LT.In elF w S A) (hP : LT.In elD w S' P) :
    Calls Tryd.prog 7 #[.slice A.p A.n A.c, .slice P.p P.n P.c] w fun e w' => FsQ A P w e w' := by
  have HA := hid hA
  have HP := hid hP
  have hnn := hA.nn
  have hpn := hP.nn
  clear hA hP
  go_enter Tryd.func7, Tryd.ntmps7
  go_wp2_with fail
  go_loopw [5, 6] (fun v x wr => ∃ (i : Nat) (s : Int), i ≤ A.n ∧ x = .int .i64 (i : Int) ∧ v = .int .i64 s ∧ wr = w ∧ (A.n ≤ 500 → 0 ≤ s ∧ s ≤ (i : Int) * 140737488355328 ∧ ∀ j, j < i → ((A.item j).n : Int) ≤ s)) (fun _ x _ => A.n - (intOf x).toNat)
  case atStart => exact ⟨0, 0, Nat.zero_le _, rfl, rfl, rfl, fun _ => ⟨by omega, by omega, fun j hj => absurd hj (by omega)⟩⟩
  case round =>
    obtain ⟨i, s, hi, rfl, rfl, rfl, hs⟩ := hrel
    have HS := hid hs
    clear hs
    by_cases hlt : i < A.n
    · have hlt' : (i : Int) < (A.n : Int) := by omega
      obtain ⟨bb, o, hp, _, hbb, hat⟩ := HA.out.at_ (by omega)
      rw [hp]
      have a1 : wr.cell? ⟨bb, o + i * 3 + 1, none⟩ = some (.slice (A.item i).p (A.item i).n (A.item i).c) := hat i hlt 1 _ rfl
      have HIn := hid (HA.out.each i hlt)
      clear hat
      go_wp2
      go_roundw
      case rel =>
        refine ⟨i + 1, _, by omega, by go_num, rfl, trivial, fun h5 => ?_⟩
        obtain ⟨h1, h2, h3⟩ := HS.out h5
        have h4 := HIn.out.2.1.nn
        have e : wrap64 (s + ((A.item i).n : Int)) = s + ((A.item i).n : Int) := by rw [wrap64]; omega
        rw [e]
        refine ⟨by omega, by push_cast; omega, fun j hj => ?_⟩
        by_cases hji : j < i
        · have := h3 j hji; omega
        · obtain rfl : j = i := by omega
          omega
      case measure => simp [intOf]; omega
    · have hlt' : ¬ (i : Int) < (A.n : Int) := by omega
      obtain rfl : i = A.n := by omega
      obtain ⟨w0, hw0⟩ : ∃ V, V = wr := ⟨_, rfl⟩
      have HW0 := hid hw0
      go_wp2_with fail
      go_loopw [5, 7] (fun v x wq => ∃ (i : Nat) (s2 : Int), i ≤ P.n ∧ x = .int .i64 (i : Int) ∧ v = .int .i64 s2 ∧ Below w0.heap.size w0 wq ∧ (A.n ≤ 500 → P.n ≤ 400 → s ≤ s2 ∧ s2 ≤ s + (i : Int) * 281474976710656 ∧ ∀ j, j < i → ((P.item j).zs.length : Int) ≤ s2 ∧ ((P.item j).K.n : Int) ≤ s2)) (fun _ x _ => P.n - (intOf x).toNat)
      case atStart => exact ⟨0, s, Nat.zero_le _, rfl, rfl, by rw [HW0.out]; exact Below.refl _ _, fun _ _ => ⟨by omega, by omega, fun j hj => absurd hj (by omega)⟩⟩
      case round =>
        obtain ⟨i, s2, hi, rfl, rfl, hbw, hs2⟩ := hrel
        have HS2 := hid hs2
        have HBw := hid hbw
        clear hs2 hbw
        by_cases hlt : i < P.n
        · have hlt' : (i : Int) < (P.n : Int) := by omega
          obtain ⟨bb, o, hp, _, hbb, hat⟩ := HP.out.at_ (by omega)
          rw [hp]
          have hce : ∀ r u, (elD.cells (P.item i))[r]? = some u → wr.cell? ⟨bb, o + i * 7 + r, none⟩ = some u := fun r u hu => (World.cell?_of_block (a := ⟨bb, o + i * 7 + r, none⟩) ((HBw.out.block bb (by rw [HW0.out]; exact hbb)).trans (by rw [HW0.out]))).trans (hat i hlt r u hu)
          have a5 : wr.cell? ⟨bb, o + i * 7 + 5, none⟩ = some (.slice (P.item i).bp (P.item i).zs.length (P.item i).bc) := hce 5 _ rfl
          have a6 : wr.cell? ⟨bb, o + i * 7 + 6, none⟩ = some (.slice (P.item i).K.p (P.item i).K.n (P.item i).K.c) := hce 6 _ rfl
          have HIn := hid (HP.out.each i hlt)
          clear hat hce
          go_upto_region 9 with fail
          refine wp_region_calmE 30 (fun wx => Below wr.heap.size wr wx) [(0, true), (1, true), (2, true), (3, true), (4, true), (5, false), (6, true), (7, true), (8, true), (9, true), (10, true), (11, true), (12, false), (13, true), (14, true), (15, true)] .done (by kernel_rfl) (by kernel_rfl) (Below.refl _ _).drew ?_
          refine wpPre_e rfl rfl (fun K1 hK1 => ?_)
          apply Exists.intro
          refine And.intro (fun wx hx => ?_) ?_
          · go_simp
            try rfl
          go_simp
          refine hK1 _ ?_
          clear hK1 K1
          refine wpPre_e rfl rfl (fun K1 hK1 => ?_)
          apply Exists.intro
          refine And.intro (fun wx hx => ?_) ?_
          · go_simp
            try rfl
          go_simp
          refine hK1 _ ?_
          clear hK1 K1
          refine wpPre_e rfl rfl (fun K1 hK1 => ?_)
          apply Exists.intro
          refine And.intro (fun wx hx => ?_) ?_
          · go_simp
            try rfl
          go_simp
          refine hK1 _ ?_
          clear hK1 K1
          refine wpPre_e rfl rfl (fun K1 hK1 => ?_)
          apply Exists.intro
          refine And.intro (fun wx hx => ?_) ?_
          · go_simp
            try rfl
          go_simp
          refine hK1 _ ?_
          clear hK1 K1
          refine wpPre_e rfl rfl (fun K1 hK1 => ?_)
          apply Exists.intro
          refine And.intro (fun wx hx => ?_) ?_
          · go_simp
            try rfl
          go_simp
          refine hK1 _ ?_
          clear hK1 K1
          refine wpPre_e rfl rfl (fun K1 hK1 => ?_)
          apply Exists.intro
          refine And.intro (fun wx hx => ?_) ?_
          · have e0 := below_fact hx rfl a5
            go_simp
            try rfl
          go_simp
          refine hK1 _ ?_
          clear hK1 K1
          refine wpPre_e rfl rfl (fun K1 hK1 => ?_)
          apply Exists.intro
          refine And.intro (fun wx hx => ?_) ?_
          · go_simp
            try rfl
          go_simp
          refine hK1 _ ?_
          clear hK1 K1
          refine wpPre_e rfl rfl (fun K1 hK1 => ?_)
          apply Exists.intro
          refine And.intro (fun wx hx => ?_) ?_
          · go_simp
            try rfl
          go_simp
          refine hK1 _ ?_
          clear hK1 K1
          refine wpPre_e rfl rfl (fun K1 hK1 => ?_)
          apply Exists.intro
          refine And.intro (fun wx hx => ?_) ?_
          · go_simp
            try rfl
          go_simp
          refine hK1 _ ?_
          clear hK1 K1
          refine wpPre_e rfl rfl (fun K1 hK1 => ?_)
          apply Exists.intro
          refine And.intro (fun wx hx => ?_) ?_
          · go_simp
            try rfl
          go_simp
          refine hK1 _ ?_
          clear hK1 K1
          refine wpPre_e rfl rfl (fun K1 hK1 => ?_)
          apply Exists.intro
          refine And.intro (fun wx hx => ?_) ?_
          · go_simp
            try rfl
          go_simp
          refine hK1 _ ?_
          clear hK1 K1
          refine wpPre_e rfl rfl (fun K1 hK1 => ?_)
          apply Exists.intro
          refine And.intro (fun wx hx => ?_) ?_
          · go_simp
            try rfl
          go_simp
          refine hK1 _ ?_
          clear hK1 K1
          refine wpPre_e rfl rfl (fun K1 hK1 => ?_)
          apply Exists.intro
          refine And.intro (fun wx hx => ?_) ?_
          · have e0 := below_fact hx rfl a6
            go_simp
            try rfl
          go_simp
          refine hK1 _ ?_
          clear hK1 K1
          refine wpPre_e rfl rfl (fun K1 hK1 => ?_)
          apply Exists.intro
          refine And.intro (fun wx hx => ?_) ?_
          · go_simp
            try rfl
          go_simp
          refine hK1 _ ?_
          clear hK1 K1
          refine wpPre_e rfl rfl (fun K1 hK1 => ?_)
          apply Exists.intro
          refine And.intro (fun wx hx => ?_) ?_
          · go_simp
            try rfl
          go_simp
          refine hK1 _ ?_
          clear hK1 K1
          refine wpPre_e rfl rfl (fun K1 hK1 => ?_)
          apply Exists.intro
          refine And.intro (fun wx hx => ?_) ?_
          · go_simp
            try rfl
          go_simp
          refine hK1 _ ?_
          clear hK1 K1
          refine wpPre_nil ?_
          refine wpTr_done ?_
          clear a5 a6
          go_wp2
          go_roundw
          case rel =>
            refine ⟨i + 1, _, by omega, by go_num, rfl, HBw.out.drew, fun h5 h6 => ?_⟩
            obtain ⟨h1, h2, h3⟩ := HS2.out h5 h6
            obtain ⟨q1, q2, _⟩ := HS.out h5
            have h4 := HIn.out.2.2.2.2.1.nn
            have h7 := HIn.out.2.2.2.2.2.nn
            have e : IntKind.i64.wrap (s2 + ((P.item i).zs.length : Int)) = s2 + ((P.item i).zs.length : Int) := by rw [IntKind.wrap_i64]; omega
            have e2 : IntKind.i64.wrap (s2 + ((P.item i).zs.length : Int) + ((P.item i).K.n : Int)) = s2 + ((P.item i).zs.length : Int) + ((P.item i).K.n : Int) := by rw [IntKind.wrap_i64]; omega
            rw [e, e2]
            refine ⟨by omega, by push_cast; omega, fun j hj => ?_⟩
            by_cases hji : j < i
            · have := h3 j hji; omega
            · obtain rfl : j = i := by omega
              omega
          case measure => simp [intOf]; omega
        · have hlt' : ¬ (i : Int) < (P.n : Int) := by omega
          obtain rfl : i = P.n := by omega
          have HBf : Hid (Below w0.heap.size w0 wr) := HBw.out
          by_cases h4 : P.n ≤ 400
          · have h4' : (P.n : Int) ≤ 400 := by omega
            by_cases h5 : A.n ≤ 500
            · have h5' : (A.n : Int) ≤ 500 := by omega
              by_cases h6 : s2 ≤ 524288
              · go_wp2
                refine bodyPost_ret (v := .bool true) (by simp [results, Tryd.results7, go_sem]) rfl ⟨true, rfl, by rw [← HW0.out]; exact HBf.out, fun _ => ?_⟩
                obtain ⟨r1, r2, r3⟩ := HS2.out h5 h4
                exact ⟨⟨h5, fun j hj => by have := (HS.out h5).2.2 j hj; omega⟩, h4, fun j hj => by have := r3 j hj; omega⟩
              · go_wp2
                exact bodyPost_ret (v := .bool false) (by simp [results, Tryd.results7, go_sem]) rfl ⟨false, rfl, by rw [← HW0.out]; exact HBf.out, fun h => by cases h⟩
            · have h5' : ¬ (A.n : Int) ≤ 500 := by omega
              go_wp2
              exact bodyPost_ret (v := .bool false) (by simp [results, Tryd.results7, go_sem]) rfl ⟨false, rfl, by rw [← HW0.out]; exact HBf.out, fun h => by cases h⟩
          · have h4' : ¬ (P.n : Int) ≤ 400 := by omega
            go_wp2
            exact bodyPost_ret (v := .bool false) (by simp [results, Tryd.results7, go_sem]) rfl ⟨false, rfl, by rw [← HW0.out]; exact HBf.out, fun h => by cases h⟩
end Go.Proofs.YtkfcilandmhomaaDoor

namespace Go.Proofs.YtkfcilandmhomaaDoor
open Go.RowKit
set_option maxRecDepth 8000
end Go.Proofs.YtkfcilandmhomaaDoor
