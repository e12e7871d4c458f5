import Derived.Test.YtehmifdgfgngdacDoorHeadN
namespace Go.Proofs.YtehmifdgfgngdacDoor
open Go.RowKit
set_option maxRecDepth 8000

theorem take4 (zs : List Int) (h : 4 ≤ zs.length) : zs.take 4 = [zs.getD 0 0, zs.getD 1 0, zs.getD 2 0, zs.getD 3 0] := by
  match zs, h with
  | a :: b :: c :: d :: r, _ => rfl
theorem byte_at {zs : List Int} (hb : ∀ z ∈ zs, 0 ≤ z ∧ z < 256) (i : Nat) : 0 ≤ zs.getD i 0 ∧ zs.getD i 0 < 256 := by
  rw [List.getD_eq_getElem?_getD]
  by_cases h : i < zs.length
  · rw [List.getElem?_eq_getElem h]; exact hb _ (List.getElem_mem h)
  · rw [List.getElem?_eq_none (by omega)]; simp

theorem readHead_good (p : Option Addr) (n c m : Nat) (zs : List Int) (w : World) (hn : zs.length = n) (hB : Bytes w p zs) (h4 : 4 ≤ n) (hl : n ≤ 140737488355328) (hm : m ≤ 32768) (hh : zs.take 4 = hd m) :
    Calls Tryd.prog 56 #[.slice p n c] w fun e w' => e = .returned (.tuple #[.int .i64 (m : Int), .int .i64 0]) ∧ Below w.heap.size w w' := by
  subst hn
  obtain ⟨b, o, rfl, _, hc⟩ := hB.at_ (by omega)
  have h0 := byte_at hB.byte 0
  have h1 := byte_at hB.byte 1
  have h2 := byte_at hB.byte 2
  have h3 := byte_at hB.byte 3
  have c0 := hc 0 (by omega)
  have c1 := hc 1 (by omega)
  have c2 := hc 2 (by omega)
  have c3 := hc 3 (by omega)
  rw [take4 zs h4] at hh
  simp only [hd, List.cons.injEq, and_true] at hh
  obtain ⟨e0, e1, e2, e3⟩ := hh
  generalize zs.getD 0 0 = z0 at *
  generalize zs.getD 1 0 = z1 at *
  generalize zs.getD 2 0 = z2 at *
  generalize zs.getD 3 0 = z3 at *
  obtain ⟨x0, rfl⟩ := Int.eq_ofNat_of_zero_le h0.1
  obtain ⟨x1, rfl⟩ := Int.eq_ofNat_of_zero_le h1.1
  obtain ⟨x2, rfl⟩ := Int.eq_ofNat_of_zero_le h2.1
  obtain ⟨x3, rfl⟩ := Int.eq_ofNat_of_zero_le h3.1
  exact readHead_ok b o zs.length c x0 x1 x2 x3 m w h4 hl c0 c1 c2 c3 (by omega) (by omega) (show _ = _ by omega) (by rw [beq_iff_eq]; exact e2) (by rw [beq_iff_eq]; exact e3) (by omega)

theorem readHead_bad (p : Option Addr) (n c : Nat) (zs : List Int) (w : World) (hn : zs.length = n) (hB : Bytes w p zs) (h4 : 4 ≤ n) (hl : n ≤ 140737488355328) (hh : ∀ m, m ≤ 32768 → zs.take 4 ≠ hd m) :
    Calls Tryd.prog 56 #[.slice p n c] w fun e w' => e = .returned (.tuple #[.int .i64 0, .int .i64 12]) ∧ Below w.heap.size w w' := by
  subst hn
  obtain ⟨b, o, rfl, _, hc⟩ := hB.at_ (by omega)
  have h0 := byte_at hB.byte 0
  have h1 := byte_at hB.byte 1
  have h2 := byte_at hB.byte 2
  have h3 := byte_at hB.byte 3
  have c0 := hc 0 (by omega)
  have c1 := hc 1 (by omega)
  have c2 := hc 2 (by omega)
  have c3 := hc 3 (by omega)
  have hh := hh ((zs.getD 0 0).toNat + 256 * (zs.getD 1 0).toNat)
  rw [take4 zs h4] at hh
  simp only [hd, ne_eq, List.cons.injEq, and_true] at hh
  generalize zs.getD 0 0 = z0 at *
  generalize zs.getD 1 0 = z1 at *
  generalize zs.getD 2 0 = z2 at *
  generalize zs.getD 3 0 = z3 at *
  obtain ⟨x0, rfl⟩ := Int.eq_ofNat_of_zero_le h0.1
  obtain ⟨x1, rfl⟩ := Int.eq_ofNat_of_zero_le h1.1
  obtain ⟨x2, rfl⟩ := Int.eq_ofNat_of_zero_le h2.1
  obtain ⟨x3, rfl⟩ := Int.eq_ofNat_of_zero_le h3.1
  have hm : x0 + 256 * x1 = (x0 : Int).toNat + 256 * (x1 : Int).toNat := by omega
  rw [← hm] at hh
  generalize hM : x0 + 256 * x1 = m at *
  have HM : Hid (m = x0 + 256 * x1) := hM.symm
  by_cases e2 : (x2 : Int) = (65535 - (m : Int)) % 256
  · by_cases e3 : (x3 : Int) = (65535 - (m : Int)) / 256
    · by_cases hg : 32768 < (m : Int)
      · exact readHead_far b o zs.length c x0 x1 x2 x3 m w h4 hl c0 c1 c2 c3 (by omega) (by omega) HM (by rw [beq_iff_eq]; exact e2) (by rw [beq_iff_eq]; exact e3) hg
      · exact absurd ⟨by omega, by omega, e2, e3⟩ (hh (by omega))
    · exact readHead_n3 b o zs.length c x0 x1 x2 x3 m w h4 hl c0 c1 c2 c3 (by omega) (by omega) HM (by rw [beq_iff_eq]; exact e2) (by rw [beq_eq_false_iff_ne]; exact e3)
  · exact readHead_n2 b o zs.length c x0 x1 x2 x3 m w h4 hl c0 c1 c2 c3 (by omega) (by omega) HM (by rw [beq_eq_false_iff_ne]; exact e2)
end Go.Proofs.YtehmifdgfgngdacDoor
