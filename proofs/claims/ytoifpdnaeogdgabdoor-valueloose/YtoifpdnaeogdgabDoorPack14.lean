import Derived.Test.YtoifpdnaeogdgabDoorParD
import Derived.Test.YtoifpdnaeogdgabDoorShelf2
import Derived.Test.YtoifpdnaeogdgabDoorPack3
import Derived.Deep.RegionLaw
namespace Go.Proofs.YtoifpdnaeogdgabDoor
open Go.RowKit
set_option maxRecDepth 8000

/-- how many blanks a list of bytes begins with -/
def blL : List UInt8 → Nat
  | [] => 0
  | c :: r => if c = 32 ∨ c = 9 then blL r + 1 else 0
theorem blL_le : ∀ l : List UInt8, blL l ≤ l.length
  | [] => Nat.le_refl _
  | c :: r => by
    have := blL_le r
    unfold blL
    split
    · simp; omega
    · exact Nat.zero_le _
/-- the text from a place on -/
def tl (s : ByteArray) (a : Nat) : ByteArray := s.extract a s.size
theorem tl_list (s : ByteArray) (a : Nat) : (tl s a).data.toList = s.data.toList.drop a := by
  unfold tl
  rw [Go.Lib.extract_data, List.take_of_length_le (by rw [List.length_drop, ← Go.Lib.size_eq]; omega)]
theorem tl_size (s : ByteArray) (a : Nat) : (tl s a).size = s.size - a := by
  rw [Go.Lib.size_eq, tl_list, List.length_drop, ← Go.Lib.size_eq]
theorem bytes_ext {s t : ByteArray} (h : s.data.toList = t.data.toList) : s = t := by
  cases s; cases t
  simp only [ByteArray.mk.injEq]
  exact Array.toList_inj.1 h
theorem tl_tl (s : ByteArray) (a b : Nat) : tl (tl s a) b = tl s (a + b) := bytes_ext (by rw [tl_list, tl_list, tl_list, List.drop_drop])

theorem blL_drop : ∀ l : List UInt8, Lib.trimLeftS l [32, 9] = l.drop (blL l)
  | [] => rfl
  | c :: r => by
    have ih := blL_drop r
    unfold Lib.trimLeftS at ih ⊢
    unfold blL
    by_cases h : c = 32 ∨ c = 9
    · rw [if_pos h, List.dropWhile_cons_of_pos (by rcases h with rfl | rfl <;> rfl), ih]
      rfl
    · rw [if_neg h, List.dropWhile_cons_of_neg (by simpa using h)]
      rfl
theorem blank_ascii : ∀ (j : Nat) (b : UInt8), (⟨#[32, 9]⟩ : ByteArray).data.toList[j]? = some b → b.toNat < 128
  | 0, b, h => by cases h; decide
  | 1, b, h => by cases h; decide
  | j + 2, b, h => by simp at h
theorem zero84 (w : World) : (zeroValue (Tryd.lays161_ren.t 116)).run Tryd.prog w = .ok (.agg (Array.replicate 256 (.bool false))) w :=
  (Tryd.zeroValue77 w).trans (congrArg (fun v => Result.ok v w) (by kernel_rfl))
theorem trimLeft_any (s : ByteArray) (w : World) : Calls Tryd.prog 32 #[.string s, .string ⟨#[32, 9]⟩] w fun x w' => x = .returned (.string (tl s (blL s.data.toList))) ∧ Below w.heap.size w w' := by
  by_cases h0 : s.size = 0
  · refine (Any.strings_TrimLeft_empty Tryd.lays161 s ⟨#[32, 9]⟩ w (.inl h0)).mono ?_
    rintro e w' ⟨rfl, rfl⟩
    have h2 : s.data.toList = [] := List.eq_nil_of_length_eq_zero (by rw [← Go.Lib.size_eq]; exact h0)
    have h3 : tl s (blL s.data.toList) = s := bytes_ext (by rw [tl_list, h2]; rfl)
    exact ⟨by rw [h3], Below.refl _ _⟩
  · refine (Any.strings_TrimLeft_set Tryd.lays161 zero84 (by kernel_rfl) s ⟨#[32, 9]⟩ w (by decide) (by omega) (by decide) (fun j b h => blank_ascii j b h)).mono ?_
    rintro e w' ⟨rfl, rfl⟩
    have h3 : tl s (blL s.data.toList) = ⟨(Lib.trimLeftS s.data.toList [32, 9]).toArray⟩ := bytes_ext (by rw [tl_list, blL_drop])
    exact ⟨by rw [h3], ((Below.refl _ _).alloc (Nat.le_refl _) _).alloc (by simp) _⟩

set_option maxHeartbeats 1000000 in
theorem blanks_any (s : ByteArray) (w : World) (hs : s.size ≤ 140737488355328) : Calls Tryd.prog 21 #[.string s] w fun x w' => x = .returned (.int .i64 (blL s.data.toList : Nat)) ∧ Below w.heap.size w w' := by
  have hle := blL_le s.data.toList
  rw [← Go.Lib.size_eq] at hle
  have HT := hid (trimLeft_any s w)
  have HZ := hid (tl_size s (blL s.data.toList))
  generalize blL s.data.toList = m at *
  go_enter Tryd.func21, Tryd.ntmps21
  go_wp2_with fail
  refine HT.out.mono ?_
  rintro e w1 ⟨rfl, hb⟩
  have hz := HZ.out
  go_wp2
  go_ret
  exact ⟨congrArg (fun z : Int => Ending.returned (.int .i64 z)) (show _ = (m : Int) by omega), hb⟩
end Go.Proofs.YtoifpdnaeogdgabDoor

namespace Go.Proofs.YtoifpdnaeogdgabDoor
open Go.RowKit
set_option maxRecDepth 8000
theorem step_call {ops : Array Oper} {o : Oper} {a : Act} {w : World} {K : Act → World → Prop} {Q : Exit → Act → World → Prop} {E : Prop}
    (hgd : o.guard = none) (f : Nat) (xs : Array Operand) (ts : Array TypeId) (hop : o.op = Op.call { callee := Callee.value (Operand.func f), args := xs, argTypes := ts })
    (F : Func) (hF : Tryd.prog.funcs[f]? = some F) (hN : (F.name == "runtime.NumGoroutine") = false) (hB : F.body.isNone = false) (vs : Array Value) (hvl : xs.toList.map a.eval = vs.toList) (R : Ending → World → Prop) (hC : Calls Tryd.prog f vs w R) (hK : ∀ e w', R e w' → ∃ v, e = .returned v ∧ K (a.put o.dst v) w') :
    if Region.wanted o (yielded ops a.tmps) = true then Oper.wp Tryd.prog o a w K Q else E := by
  have hw : Region.wanted o (yielded ops a.tmps) = true := by simp [Region.wanted, hgd]
  rw [if_pos hw]
  have hvs : xs.map a.eval = vs := by
    obtain ⟨xl⟩ := xs
    obtain ⟨vl⟩ := vs
    simp only at hvl
    rw [List.map_toArray, hvl]
  have hrun : (execOp a.eval o).run Tryd.prog w = .ok (.enter f vs) w := by
    have h1 : ¬ F.name = "runtime.NumGoroutine" := by simpa using hN
    have h2 : ¬ F.body = none := by intro h; rw [h] at hB; cases hB
    simp [execOp, hop, resolve, invoke, hvs, Deferred.ofValue, Act.eval, callFunc, Result.andThen, go_sem, hF, h1, h2]
  unfold Oper.wp
  rw [hrun, Oper.upon_enter]
  refine hC.mono fun e w' h => ?_
  obtain ⟨v, rfl, hk⟩ := hK e w' h
  exact hk
end Go.Proofs.YtoifpdnaeogdgabDoor

namespace Go.Proofs.YtoifpdnaeogdgabDoor
open Go.RowKit
set_option maxRecDepth 8000
/-- the place behind the blanks -/
def skS (s : ByteArray) (a : Nat) : Nat := a + blL (s.data.toList.drop a)
theorem skS_le {s : ByteArray} {a : Nat} (h : a ≤ s.size) : skS s a ≤ s.size := by
  have h1 := blL_le (s.data.toList.drop a)
  rw [List.length_drop, ← Go.Lib.size_eq] at h1
  unfold skS
  omega

set_option maxHeartbeats 2000000 in
theorem skipBlanks_any (rb : Nat) (s : ByteArray) (a q : Nat) (w : World) (hb : Rd w rb s a q) (ha : a ≤ s.size) (hs : s.size ≤ 140737488355328) :
    Calls Tryd.prog 40 #[.pointer (some ⟨rb, 0, none⟩)] w fun x w' => x = .returned (.tuple #[]) ∧ Rd w' rb s (skS s a) q ∧ But (fun y => y = rb) w w' := by
  have x0 := hb.cell 0
  have x1 := hb.cell 1
  have f1 := hb.frozen 1
  simp at x0 x1
  have hle : (a : Int) ≤ (s.size : Int) := by omega
  have HBl : Hid (∀ W, Calls Tryd.prog 21 #[.string (s.extract a s.size)] W fun x w' => x = .returned (.int .i64 (blL (s.data.toList.drop a) : Nat)) ∧ Below W.heap.size W w') := fun W => by
    have h := blanks_any (tl s a) W (by rw [tl_size]; omega)
    rw [tl_list] at h
    exact h
  have hk := skS_le ha
  have hsk : skS s a = a + blL (s.data.toList.drop a) := rfl
  have HB := hid hb
  clear hb
  generalize blL (s.data.toList.drop a) = m at *
  generalize skS s a = A at *
  subst hsk
  have hw : IntKind.i64.wrap ((a : Int) + (m : Int)) = (a : Int) + (m : Int) := by rw [IntKind.wrap_i64]; omega
  go_enter Tryd.func40, Tryd.ntmps40
  go_wp2_with fail
  go_region_law (refine step_call rfl 21 #[.tmp 14] _ rfl Tryd.f21 Tryd.func21 (by kernel_rfl) rfl #[.string (s.extract a s.size)] rfl _ (HBl.out _) ?_
                 rintro e w1 ⟨rfl, hb1'⟩
                 refine ⟨_, rfl, ?_⟩
                 have hb1 : Below w.heap.size w w1 := (Below.refl _ _).drew.trans hb1'
                 have y0 := (HB.out.below hb1).cell 0
                 have y1 := (HB.out.below hb1).cell 1
                 have g1 := (HB.out.below hb1).frozen 1
                 simp at y0 y1)
  all_goals
    have hz := Rd.to (HB.out.below hb1) ((a : Int) + (m : Int)) (a + m) (by omega)
    have hbt := ((But.one w rb).trans (But.ofBelow hb1)).setAt 1 (.int .i64 ((a : Int) + (m : Int)))
    go_wp2
    exact bodyPost_end (results_none rfl _ _ _) rfl ⟨rfl, hz, hbt⟩
end Go.Proofs.YtoifpdnaeogdgabDoor
