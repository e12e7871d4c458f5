import Derived.Test.YtjkfihngkfphfaaDoorEcB
namespace Go.Proofs.YtjkfihngkfphfaaDoor
open Go.RowKit
set_option maxRecDepth 8000
/-- a file of the reference's disk -/
structure RO where
  name : ByteArray
  sp : Option Addr
  sn : Nat
  sc : Nat
  sf : Nat → Int
  lp : Option Addr
  ln : Nat
  lc : Nat
  lf : Nat → Int
def RO.zs (o : RO) : List Int := (List.range o.sn).map o.sf ++ (List.range o.ln).map o.lf
def RO.key (o : RO) : ByteArray × List Int × Int := (o.name, o.zs, (o.sn : Int))
def elO : El RO where
  ty := 69
  size := 3
  cells := fun d => [.string d.name, .slice d.sp d.sn d.sc, .slice d.lp d.ln d.lc]
  len := fun _ => rfl
  one := fun x u hu => by
    simp only [List.mem_cons, List.not_mem_nil, or_false] at hu
    rcases hu with rfl | rfl | rfl <;> rfl
  In := fun w S d => d.name.size ≤ 140737488355328 ∧ Byts w S d.sp d.sn d.sc d.sf ∧ Byts w S d.lp d.ln d.lc d.lf ∧ d.sn + d.ln ≤ 65536
  kept := fun h hs hb => ⟨h.1, h.2.1.kept hs hb, h.2.2.1.kept hs hb, h.2.2.2⟩
  mono := fun h hb => ⟨h.1, h.2.1.mono hb, h.2.2.1.mono hb, h.2.2.2⟩
theorem kindO : ∃ i, Kind 65 69 i (.agg #[.string ⟨#[]⟩, .slice none 0 0, .slice none 0 0]) 3 64 := by
  obtain ⟨i0, hi, hz0, hz1, hz2⟩ := info_parts (show (Tryd.prog.info? 69).map (fun i => (i.zero, i.size, i.bytes)) = some (some (.agg #[.string ⟨#[]⟩, .slice none 0 0, .slice none 0 0]), 3, 64) by kernel_rfl)
  exact ⟨i0, Tryd.underlying65, hi, hz0, hz1, hz2, rfl, by decide⟩
theorem streq (a b : ByteArray) : (a.toList == b.toList) = decide (a = b) := by
  rw [ByteArray.toList_eq, ByteArray.toList_eq]
  by_cases h : a = b
  · subst h; simp
  · have : a.data ≠ b.data := fun e => h (ByteArray.ext e)
    simp [h, this]
/-- is there a file of this name? -/
def hasN (A : LT RO) (s : ByteArray) : Bool := (List.range A.n).any fun j => decide ((A.item j).name = s)
set_option maxHeartbeats 4000000 in
theorem rfind_any (A : LT RO) (s : ByteArray) (w : World) (S : Nat → Prop) (rb : Nat) (hr : w.cell? ⟨rb, 0, none⟩ = some (.slice A.p A.n A.c)) (hA : LT.In elO w S A) :
    Calls Tryd.prog 19 #[.pointer (some ⟨rb, 0, none⟩), .string s] w fun e w' => ∃ r : Int, e = .returned (.int .i64 r) ∧ w' = w ∧ (hasN A s = true → 0 ≤ r) ∧ (hasN A s = false → r = -1) := by
  have HA := hid hA
  have hnn := hA.nn
  clear hA
  go_enter Tryd.func19, Tryd.ntmps19
  go_wp2_with fail
  go_loopw [5] (fun x wr => ∃ i : Nat, i ≤ A.n ∧ x = .int .i64 (i : Int) ∧ (∀ j, j < i → (A.item j).name ≠ s) ∧ wr = w) (fun x _ => A.n - (intOf x).toNat)
  case atStart => exact ⟨0, Nat.zero_le _, rfl, fun j hj => absurd hj (by omega), rfl⟩
  case round =>
    obtain ⟨i, hi, rfl, hno, rfl⟩ := hrel
    have HNo := hid hno
    clear hno
    by_cases hlt : i < A.n
    · have hlt' : (i : Int) < (A.n : Int) := by omega
      obtain ⟨bb, o, hp, _, hbb, hat⟩ := HA.out.at_ (by omega)
      rw [hp] at hr
      have c0 : wr.cell? ⟨bb, o + i * 3, none⟩ = some (.string (A.item i).name) := hat i hlt 0 _ rfl
      clear hat
      by_cases he : (A.item i).name = s
      · have hs : ((A.item i).name.toList == s.toList) = true := by rw [streq]; simpa using he
        have HY : Hid (hasN A s = true) := by
          show hasN A s = true
          exact List.any_eq_true.2 ⟨i, List.mem_range.2 hlt, by simpa using he⟩
        clear he
        go_wp2
        exact bodyPost_ret (v := .int .i64 (i : Int)) (by simp [results, Tryd.results19, go_sem]) rfl ⟨i, rfl, rfl, fun _ => by omega, (fun h => by rw [HY.out] at h; cases h)⟩
      · have hs : ((A.item i).name.toList == s.toList) = false := by rw [streq]; simpa using he
        have HN2 : Hid (∀ j, j < i + 1 → (A.item j).name ≠ s) := fun j hj => by
          by_cases hji : j < i
          · exact HNo.out j hji
          · obtain rfl : j = i := by omega
            exact he
        clear he
        go_wp2
        go_roundw
        case rel => exact ⟨i + 1, by omega, by go_num, HN2.out, by first | rfl | trivial⟩
        case measure => simp [intOf]; omega
    · have hlt' : ¬ (i : Int) < (A.n : Int) := by omega
      have HY : Hid (hasN A s = false) := by
        show hasN A s = false
        rw [hasN, List.any_eq_false]
        intro j hj
        simpa using HNo.out j (by have := List.mem_range.1 hj; omega)
      go_wp2
      exact bodyPost_ret (v := .int .i64 (-1)) (by simp [results, Tryd.results19, go_sem]) rfl ⟨-1, rfl, rfl, (fun h => by rw [HY.out] at h; cases h), fun _ => rfl⟩
end Go.Proofs.YtjkfihngkfphfaaDoor
