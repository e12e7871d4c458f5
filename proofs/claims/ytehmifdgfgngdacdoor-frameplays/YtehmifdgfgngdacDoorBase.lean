import Derived.Test.YtehmifdgfgngdacDoorRows
import Derived.Test.YtehmifdgfgngdacDoorCrc
import Derived.WalkKit
import Derived.WalkSpells
import Derived.WalkLawsBesides
namespace Go.Proofs.YtehmifdgfgngdacDoor
open Go.RowKit

/-- p is the address of a slice whose elements are the bytes zs -/
structure Bytes (w : World) (p : Option Addr) (zs : List Int) : Prop where
  at_ : 0 < zs.length → ∃ b o, p = some ⟨b, o, none⟩ ∧ b < w.heap.size ∧ ∀ i, i < zs.length → w.cell? ⟨b, o + i, none⟩ = some (.int .u8 (zs.getD i 0))
  byte : ∀ z ∈ zs, 0 ≤ z ∧ z < 256

/-- the table of the checksum lies in block 0 -/
def Tab (w : World) : Prop := 0 < w.heap.size ∧ ∀ i, i < 16 → w.cell? ⟨0, i, none⟩ = some (.int .u32 (Crc.tabAt i : Nat))

theorem compl_u32 (s : Nat) (hs : s < 4294967296) : bits BinOp.xor IntKind.u32 IntKind.u32.max (s : Int) = ((Crc.ones - s : Nat) : Int) := by
  have h : IntKind.u32.max = ((4294967295 : Nat) : Int) := by decide
  rw [h, u32_xor_nat _ _ (by omega) hs, Nat.xor_comm, Crc.compl_xor s hs]
  rfl

theorem u32_low4 (X : Nat) (h : X < 4294967296) : bits BinOp.and IntKind.u32 (X : Int) 15 = ((X % 16 : Nat) : Int) := by
  have e := u32_and_nat X 15 h (by omega)
  rw [nat_mask4] at e
  exact e

theorem take_succ (zs : List Int) (k : Nat) (hk : k < zs.length) : zs.take (k + 1) = zs.take k ++ [zs.getD k 0] := by
  rw [List.take_add_one, List.getD_eq_getElem?_getD, List.getElem?_eq_getElem hk]; rfl

theorem nib_facts (w : World) (hT : Tab w) (X : Nat) (h : X < 4294967296) : ∃ I T Y : Nat, I < 16 ∧ T < 4294967296 ∧ Y < 4294967296 ∧ bits BinOp.and IntKind.u32 (X : Int) 15 = (I : Int) ∧
    w.cell? ⟨0, I, none⟩ = some (.int .u32 (T : Int)) ∧ bits BinOp.xor IntKind.u32 ((X : Int) / 16) (T : Int) = (Y : Int) ∧ Hid (Y = Crc.nib X) :=
  ⟨X % 16, Crc.tabAt (X % 16), Crc.nib X, Nat.mod_lt _ (by omega), Crc.tabAt_lt _, Crc.nib_lt h, u32_low4 X h, hT.2 _ (Nat.mod_lt _ (by omega)),
    u32_xor_nat (X / 16) (Crc.tabAt (X % 16)) (by omega) (Crc.tabAt_lt _), rfl⟩

set_option maxHeartbeats 400000 in
theorem add_pos (s : Nat) (hs : s < 4294967296) (b o c : Nat) (zs : List Int) (w : World) (hcell : ∀ i, i < zs.length → w.cell? ⟨b, o + i, none⟩ = some (.int .u8 (zs.getD i 0)))
    (hby : ∀ z ∈ zs, 0 ≤ z ∧ z < 256) (hlen : zs.length ≤ 140737488355328) (hT : Tab w) :
    Calls Tryd.prog 11 #[.int .u32 s, .slice (some ⟨b, o, none⟩) zs.length c] w fun e w' => e = .returned (.int .u32 (Crc.add s zs : Nat)) ∧ w' = w := by
  go_enter Tryd.func11, Tryd.ntmps11
  go_wp2
  go_loop [5, 12] (fun r i => ∃ k : Nat, k ≤ zs.length ∧ i = .int .i64 k ∧ r = .int .u32 (Crc.reg (Crc.ones - s) (zs.take k) : Nat)) (fun _ i => zs.length - (intOf i).toNat)
  case atStart => exact ⟨0, Nat.zero_le _, rfl, by rw [compl_u32 s hs]; rfl⟩
  case round =>
    obtain ⟨k, hk, rfl, rfl⟩ := hrel
    by_cases hlt : k < zs.length
    · have hc := hcell k hlt
      obtain ⟨x, hx, hxc⟩ : ∃ x : Nat, x < 256 ∧ zs.getD k 0 = (x : Int) := by
        have := hby (zs.getD k 0) (by rw [List.getD_eq_getElem?_getD, List.getElem?_eq_getElem hlt]; exact List.getElem_mem hlt)
        exact ⟨(zs.getD k 0).toNat, by omega, by omega⟩
      rw [hxc] at hc
      have hR := Crc.reg_lt (Crc.ones - s) (zs.take k) (by unfold Crc.ones; omega) (fun z hz => hby z (List.mem_of_mem_take hz))
      have HR : Hid (Crc.reg (Crc.ones - s) (zs.take (k + 1)) = Crc.byteStep (Crc.reg (Crc.ones - s) (zs.take k)) x) := by
        rw [take_succ zs k hlt, Crc.reg_snoc, hxc]; rfl
      clear hxc hcell hby
      generalize Crc.reg (Crc.ones - s) (zs.take k) = R at *
      have hxm : (x : Int) % 4294967296 = x := by omega
      have hX := u32_xor_nat R x hR (by omega)
      have hXl := Crc.xor_lt32 hR (show x < 4294967296 by omega)
      have HX : Hid (Crc.byteStep R x = Crc.nib (Crc.nib (R ^^^ x))) := rfl
      generalize R ^^^ x = X at *
      obtain ⟨I1, T1, Y, hI1, hT1, hY, hA1, hc1, hX1, HY⟩ := nib_facts w hT X hXl
      obtain ⟨I2, T2, Z, hI2, hT2, hZ, hA2, hc2, hX2, HZ⟩ := nib_facts w hT Y hY
      clear hT
      go_wp2
      go_round
      case rel => exact ⟨k + 1, by omega, by go_num, by rw [HR.out, HX.out, ← HY.out, ← HZ.out]⟩
      case measure => simp [intOf]; omega
    · obtain rfl : k = zs.length := by omega
      have hR := Crc.reg_lt (Crc.ones - s) (zs.take zs.length) (by unfold Crc.ones; omega) (fun z hz => hby z (List.mem_of_mem_take hz))
      have HF : Hid (Crc.add s zs = Crc.ones - Crc.reg (Crc.ones - s) (zs.take zs.length)) := by unfold Crc.add; rw [List.take_length]; rfl
      generalize Crc.reg (Crc.ones - s) (zs.take zs.length) = R at *
      have hN := compl_u32 R hR
      generalize Crc.ones - R = F at *
      clear hcell hby hT
      go_wp2
      go_ret
      exact ⟨by rw [HF.out]; rfl, rfl⟩

set_option maxHeartbeats 400000 in
theorem add_none (s : Nat) (hs : s < 4294967296) (p : Option Addr) (c : Nat) (w : World) :
    Calls Tryd.prog 11 #[.int .u32 s, .slice p 0 c] w fun e w' => e = .returned (.int .u32 (s : Nat)) ∧ w' = w := by
  have hN := compl_u32 s hs
  have hl : Crc.ones - s < 4294967296 := by unfold Crc.ones; omega
  have hM := compl_u32 (Crc.ones - s) hl
  have HF : Crc.ones - (Crc.ones - s) = s := by unfold Crc.ones; omega
  rw [HF] at hM
  clear HF
  generalize Crc.ones - s = F at *
  go_enter Tryd.func11, Tryd.ntmps11
  go_wp2
  refine wp_loop_rounds 1 ?_
  rw [rounds_succ]
  go_wp2
  go_ret
  exact ⟨rfl, rfl⟩

theorem add_any (s : Nat) (hs : s < 4294967296) (p : Option Addr) (n c : Nat) (zs : List Int) (w : World) (hn : zs.length = n) (hB : Bytes w p zs) (hlen : n ≤ 140737488355328) (hT : Tab w) :
    Calls Tryd.prog 11 #[.int .u32 s, .slice p n c] w fun e w' => e = .returned (.int .u32 (Crc.add s zs : Nat)) ∧ w' = w := by
  subst hn
  by_cases h : 0 < zs.length
  · obtain ⟨b, o, rfl, _, hc⟩ := hB.at_ h
    exact add_pos s hs b o c zs w hc hB.byte hlen hT
  · obtain rfl : zs = [] := List.eq_nil_of_length_eq_zero (by omega)
    have e : Crc.add s [] = s := by unfold Crc.add Crc.reg Crc.ones; simp; omega
    rw [e]
    exact add_none s hs p c w

set_option maxHeartbeats 400000 in
theorem sum_any (p : Option Addr) (n c : Nat) (zs : List Int) (w : World) (hn : zs.length = n) (hB : Bytes w p zs) (hlen : n ≤ 140737488355328) (hT : Tab w) :
    Calls Tryd.prog 9 #[.slice p n c] w fun e w' => e = .returned (.int .u32 (Crc.add 0 zs : Nat)) ∧ w' = w := by
  have h := add_any 0 (by omega) p n c zs w hn hB hlen hT
  have H : Hid (Calls Tryd.prog 11 #[.int .u32 0, .slice p n c] w fun e w' => e = .returned (.int .u32 (Crc.add 0 zs : Nat)) ∧ w' = w) := h
  clear h
  generalize Crc.add 0 zs = F at *
  go_enter Tryd.func9, Tryd.ntmps9
  go_wp2_with (go_at_call 11; refine H.out.mono ?_; rintro e w' ⟨rfl, rfl⟩)
  go_ret
  exact ⟨rfl, rfl⟩
end Go.Proofs.YtehmifdgfgngdacDoor
