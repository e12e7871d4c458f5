import Derived.Test.YtieknmpdmdbdlaaGreatDoorExB
import Derived.Test.YtieknmpdmdbdlaaGreatDoorShelf2
namespace Go.Proofs.YtieknmpdmdbdlaaGreatDoor
open Go.RowKit
set_option maxRecDepth 8000

/-- the text from a place on -/
def tl (s : ByteArray) (a : Nat) : ByteArray := s.extract a s.size
theorem tl_list (s : ByteArray) (a : Nat) : (tl s a).data.toList = s.data.toList.drop a := by
  unfold tl
  rw [Go.Lib.extract_data, List.take_of_length_le (by rw [List.length_drop, ← Go.Lib.size_eq]; omega)]
theorem tl_size (s : ByteArray) (a : Nat) : (tl s a).size = s.size - a := by
  rw [Go.Lib.size_eq, tl_list, List.length_drop, ← Go.Lib.size_eq]
theorem bytes_ext {s t : ByteArray} (h : s.data.toList = t.data.toList) : s = t := by
  cases s; cases t
  simp only [ByteArray.mk.injEq]
  exact Array.toList_inj.1 h

/-- how many bytes of a set a list begins with -/
def leadL (set : List UInt8) : List UInt8 → Nat
  | [] => 0
  | c :: r => if set.contains c then leadL set r + 1 else 0
theorem leadL_le (set : List UInt8) : ∀ l : List UInt8, leadL set l ≤ l.length
  | [] => Nat.le_refl _
  | c :: r => by
    have := leadL_le set r
    unfold leadL
    split
    · simp; omega
    · exact Nat.zero_le _
theorem leadL_drop (set : List UInt8) : ∀ l : List UInt8, Lib.trimLeftS l set = l.drop (leadL set l)
  | [] => rfl
  | c :: r => by
    have ih := leadL_drop set r
    unfold Lib.trimLeftS at ih ⊢
    unfold leadL
    by_cases h : set.contains c = true
    · rw [if_pos h, List.dropWhile_cons_of_pos h, ih]
      rfl
    · rw [if_neg h, List.dropWhile_cons_of_neg h]
      rfl
theorem set_info : (Tryz.prog.info? (Tryz.lays161_ren.t 116)).map (fun i => (i.zero, i.size)) = some (some (.agg (Array.replicate 256 (.bool false))), 256) := by kernel_rfl
theorem trimLeft_any (s set : ByteArray) (w : World) (hset : set.data.toList.all (fun b => decide (b.toNat < 128)) = true) (hz : set.size < 4294967281) : Calls Tryz.prog 34 #[.string s, .string set] w fun x w' => x = .returned (.string (tl s (leadL set.data.toList s.data.toList))) ∧ Below w.heap.size w w' := by
  refine (Any.strings_TrimLeft_laid Tryz.lays161 set_info s set w hz (fun j b h => of_decide_eq_true (List.all_eq_true.1 hset b (List.mem_of_getElem? h)))).mono ?_
  rintro e w' ⟨rfl, hb⟩
  exact ⟨congrArg (fun z => Ending.returned (.string z)) (bytes_ext (by rw [tl_list, leadL_drop])), hb⟩

/-- the sets of the scanner -/
def blankS : ByteArray := ⟨#[32]⟩
def digitS : ByteArray := ⟨#[48, 49, 50, 51, 52, 53, 54, 55, 56, 57]⟩
def letterS : ByteArray := ⟨#[97, 98, 99, 100, 101, 102, 103, 104, 105, 106, 107, 108, 109, 110, 111, 112, 113, 114, 115, 116, 117, 118, 119, 120, 121, 122]⟩

theorem span_any (s set : ByteArray) (w : World) (hs : s.size ≤ 140737488355328) (hset : set.data.toList.all (fun b => decide (b.toNat < 128)) = true) (hz : set.size < 4294967281) : Calls Tryz.prog 25 #[.string s, .string set] w fun x w' => x = .returned (.int .i64 (leadL set.data.toList s.data.toList : Nat)) ∧ Below w.heap.size w w' := by
  have hle := leadL_le set.data.toList s.data.toList
  rw [← Go.Lib.size_eq] at hle
  have HT := hid (trimLeft_any s set w hset hz)
  have HZ := hid (tl_size s (leadL set.data.toList s.data.toList))
  generalize leadL set.data.toList s.data.toList = m at *
  clear hset hz
  go_enter Tryz.func25, Tryz.ntmps25
  go_wp2_with fail
  refine HT.out.mono ?_
  rintro e w1 ⟨rfl, hb⟩
  have hz := HZ.out
  go_wp2
  go_ret
  exact ⟨congrArg (fun z : Int => Ending.returned (.int .i64 z)) (show _ = (m : Int) by omega), hb⟩
end Go.Proofs.YtieknmpdmdbdlaaGreatDoor
