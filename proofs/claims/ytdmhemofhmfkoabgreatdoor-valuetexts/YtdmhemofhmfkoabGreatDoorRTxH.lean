import Derived.Test.YtdmhemofhmfkoabGreatDoorPack16
import Derived.Test.YtdmhemofhmfkoabGreatDoorPack22
import Derived.Test.YtdmhemofhmfkoabGreatDoorPack24
import Derived.Test.YtdmhemofhmfkoabGreatDoorPack19
namespace Go.Proofs.YtdmhemofhmfkoabGreatDoor
open Go.RowKit
set_option maxRecDepth 8000
theorem dec_bad1 {s : ByteArray} {a : Nat} (h : 128 ≤ pk s a) (hw : (Utf8.decode s a).2 = 1) : badR s a := by
  refine ⟨?_, hw⟩
  revert hw
  rw [Go.Lib.decode_at, pk_getb, pk_getb, pk_getb, pk_getb]
  generalize pk s a = b0 at *
  generalize pk s (a + 1) = b1 at *
  generalize pk s (a + 2) = b2 at *
  generalize pk s (a + 3) = b3 at *
  unfold Go.Lib.decodeN
  repeat' split
  all_goals first | (intro _; rfl) | (intro h; exfalso; simp only at h; omega) | (exfalso; omega)
/-- the rounds of a text in quotes, by the reference's tests -/
theorem quo_asc {s : ByteArray} {k a : Nat} {acc : List Int} (h1 : 32 ≤ pk s a) (h2 : pk s a < 127) (h34 : pk s a ≠ 34) (h92 : pk s a ≠ 92) : quoS s (k + 1) a acc = quoS s k (a + 1) (acc ++ [(pk s a : Int)]) := by
  have hl := pk_pos (s := s) (a := a) (by omega)
  have hd := dec_ascii (s := s) (a := a) (by omega)
  have hb : ¬ badR s a := fun h => by have := h.1; rw [hd] at this; simp only at this; omega
  rw [quoS, if_neg h34, if_neg h92, if_neg (by omega), if_neg hb, hd]
  congr 2
  show (((s.extract a (a + 1)).data.toList).map fun b => (b.toNat : Int)) = _
  rw [Go.Lib.extract_data, dropB_at hl, show a + 1 - a = 0 + 1 by omega, List.take_succ_cons]
  simp [pk_at hl]
theorem quo_run {s : ByteArray} {k a : Nat} {acc : List Int} (ha : a < s.size) (h1 : 127 ≤ pk s a) (hr : 0 < (runR s a).2) : quoS s (k + 1) a acc = quoS s k (a + (runR s a).2) (acc ++ txtB (s.extract a (a + (runR s a).2))) ∧ a + (runR s a).2 ≤ s.size ∧ (runR s a).2 ≤ 4 := by
  have hrd := run_dec ha
  have hwd := dec_width s a
  by_cases hw : 1 < (Utf8.decode s a).2
  · rw [if_pos hw] at hrd
    rw [hrd]
    have hb : ¬ badR s a := fun h => by have := h.2; omega
    have h127 : pk s a ≠ 127 := fun h => by have := dec_ascii (s := s) (a := a) (by omega); rw [this] at hw; simp at hw
    refine ⟨?_, hwd.2.2 ha, hwd.2.1⟩
    rw [quoS, if_neg (by omega), if_neg (by omega), if_neg (by omega), if_neg hb]
  · rw [if_neg hw] at hrd
    rw [hrd] at hr
    simp at hr
theorem quo_no {s : ByteArray} {k a : Nat} {acc : List Int} (ha : a < s.size) (h34 : pk s a ≠ 34) (h92 : pk s a ≠ 92) (h1 : pk s a < 32 ∨ 127 ≤ pk s a) (hr : (runR s a).2 = 0) : quoS s (k + 1) a acc = .error (a, 28) := by
  have hrd := run_dec ha
  have hwd := dec_width s a
  rw [quoS, if_neg h34, if_neg h92]
  by_cases h32 : pk s a < 32 ∨ pk s a = 127
  · rw [if_pos h32]
  · rw [if_neg h32]
    have hw : ¬ 1 < (Utf8.decode s a).2 := fun hw => by rw [if_pos hw] at hrd; rw [hrd] at hr; omega
    rw [if_pos (dec_bad1 (by omega) (by omega))]
theorem quo_end {s : ByteArray} {k a : Nat} {acc : List Int} (ha : s.size ≤ a) : quoS s (k + 1) a acc = .error (a, 28) := by
  have h0 : pk s a = 0 := by
    rcases Nat.eq_zero_or_pos (pk s a) with h | h
    · exact h
    · exact absurd (pk_pos (s := s) (a := a) (by omega)) (by omega)
  rw [quoS, if_neg (by omega), if_neg (by omega), if_pos (.inl (by omega))]
theorem quo_esc_err {s : ByteArray} {k a : Nat} {acc : List Int} {e : Nat × Nat} (h92 : pk s a = 92) (h : escS s a = .error e) : quoS s (k + 1) a acc = .error e := by
  rw [quoS, if_neg (by omega), if_pos h92, h]
theorem quo_esc_ok {s : ByteArray} {k a b a' : Nat} {acc : List Int} (h92 : pk s a = 92) (h : escS s a = .ok (b, a')) : quoS s (k + 1) a acc = quoS s k a' (acc ++ [(b : Int)]) := by
  rw [quoS, if_neg (by omega), if_pos h92, h]
theorem quo_shut {s : ByteArray} {k a : Nat} {acc : List Int} (h : pk s a = 34) : quoS s (k + 1) a acc = .ok (acc, a + 1) := by
  rw [quoS, if_pos h]
end Go.Proofs.YtdmhemofhmfkoabGreatDoor
