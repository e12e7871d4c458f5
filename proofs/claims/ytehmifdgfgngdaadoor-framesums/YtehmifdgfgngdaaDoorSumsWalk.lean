import Derived.Test.YtehmifdgfgngdaaDoorRef
import Derived.Test.YtehmifdgfgngdaaDoorOwn
namespace Go.Proofs.YtehmifdgfgngdaaDoor
open Go.RowKit

set_option maxHeartbeats 400000 in
theorem sums_long (s : Nat) (pa pb : Option Addr) (na ca nb cb : Nat) (w : World) (ha : na ≤ 140737488355328) (hb : nb ≤ 140737488355328) (hl : 131072 < na + nb) :
    Calls Tryd.prog 4 #[.int .u32 (s : Int), .slice pa na ca, .slice pb nb cb] w fun e w' => e = .returned (.bool true) ∧ Below w.heap.size w w' := by
  go_enter Tryd.func4, Tryd.ntmps4
  go_wp2_with fail
  go_ret
  exact ⟨rfl, Below.refl _ _⟩

set_option maxHeartbeats 400000 in
theorem sums_short (s : Nat) (hs : s < 4294967296) (pa pb : Option Addr) (na ca nb cb : Nat) (za zb : List Int) (w : World) (hna : za.length = na) (hnb : zb.length = nb) (hA : Bytes w pa za) (hB : Bytes w pb zb)
    (hpa : pa = none → na = 0 ∧ ca = 0) (hpb : pb = none → nb = 0 ∧ cb = 0) (hT : Tab w) (hl : na + nb ≤ 131072) :
    Calls Tryd.prog 4 #[.int .u32 (s : Int), .slice pa na ca, .slice pb nb cb] w fun e w' => e = .returned (.bool true) ∧ Below w.heap.size w w' := by
  have hW : Crc.add 0 za < 4294967296 := by unfold Crc.add Crc.ones; omega
  have H1 : Hid (Calls Tryd.prog 10 #[.slice pa na ca] w fun e w' => e = .returned (.int .u32 (Crc.add 0 za : Nat)) ∧ w' = w) := by
    have h := rsum_any pa na ca za w hna hA (by omega)
    rw [Crc.refAdd_eq 0 za (by omega) hA.byte] at h; exact h
  have H2 : Hid (Calls Tryd.prog 11 #[.int .u32 s, .slice pb nb cb] w fun e w' => e = .returned (.int .u32 (Crc.add s zb : Nat)) ∧ w' = w) := by
    have h := radd_any s hs pb nb cb zb w hnb hB (by omega)
    rw [Crc.refAdd_eq s zb hs hB.byte] at h; exact h
  have H3 : Hid (Calls Tryd.prog 9 #[.slice pa na ca] w fun e w' => e = .returned (.int .u32 (Crc.add 0 za : Nat)) ∧ w' = w) := sum_any pa na ca za w hna hA (by omega) hT
  have H4 : Hid (Calls Tryd.prog 12 #[.int .u32 s, .slice pb nb cb] w fun e w' => e = .returned (.int .u32 (Crc.add s zb : Nat)) ∧ w' = w) := add_any s hs pb nb cb zb w hnb hB (by omega) hT
  have H5 : Hid (Calls Tryd.prog 12 #[.int .u32 (Crc.add 0 za : Nat), .slice pb nb cb] w fun e w' => e = .returned (.int .u32 (Crc.add (Crc.add 0 za) zb : Nat)) ∧ w' = w) := add_any _ hW pb nb cb zb w hnb hB (by omega) hT
  have H6 : Hid (Calls Tryd.prog 13 #[.slice pa na ca, .slice pb nb cb] w fun e w' => ∃ p c, e = .returned (.slice p (na + nb) c) ∧ OwnB w.heap.size w' p c (za ++ zb) ∧ Below w.heap.size w w') := joined_any pa pb na ca nb cb za zb w hna hnb hA hB hpa hpb (by omega)
  have H7 : Hid (∀ w1 p c, OwnB w.heap.size w1 p c (za ++ zb) → Below w.heap.size w w1 → Calls Tryd.prog 9 #[.slice p (na + nb) c] w1 fun e w' => e = .returned (.int .u32 (Crc.add (Crc.add 0 za) zb : Nat)) ∧ w' = w1) := by
    intro w1 p c hO hbl
    have h := sum_any p (na + nb) c (za ++ zb) w1 (by simp [hna, hnb]) hO.bytes (by omega) (hT.later hbl)
    rw [← Crc.add_append 0 za zb (by omega) hA.byte] at h
    exact h
  clear hA hB hT hpa hpb hna hnb
  generalize Crc.add (Crc.add 0 za) zb = Y at *
  generalize Crc.add 0 za = X at *
  generalize Crc.add s zb = Z at *
  go_enter Tryd.func4, Tryd.ntmps4
  go_wp2_with fail
  refine H1.out.mono ?_
  rintro e w' ⟨rfl, rfl⟩
  go_wp2_with fail
  refine H2.out.mono ?_
  rintro e w' ⟨rfl, rfl⟩
  go_wp2_with fail
  refine H3.out.mono ?_
  rintro e w' ⟨rfl, rfl⟩
  go_wp2_with fail
  refine H4.out.mono ?_
  rintro e w' ⟨rfl, rfl⟩
  go_wp2_with fail
  refine H5.out.mono ?_
  rintro e w' ⟨rfl, rfl⟩
  go_wp2_with fail
  refine H6.out.mono ?_
  rintro e w1 ⟨p, c, rfl, hO, hb⟩
  have H8 : Hid (Calls Tryd.prog 9 #[.slice p (na + nb) c] w1 fun e w' => e = .returned (.int .u32 (Y : Nat)) ∧ w' = w1) := H7.out w1 p c hO hb
  clear hO H7 H6 H5 H4 H3 H2 H1
  go_wp2_with fail
  refine H8.out.mono ?_
  rintro e w' ⟨rfl, rfl⟩
  go_wp2_with fail
  refine (add_none s hs none 0 _).mono ?_
  rintro e w' ⟨rfl, rfl⟩
  go_wp2_with fail
  go_ret
  exact ⟨rfl, hb⟩
end Go.Proofs.YtehmifdgfgngdaaDoor
