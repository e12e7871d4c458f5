import Derived.Test.YtehmifdgfgngdacDoorLong
import Derived.Test.YtehmifdgfgngdacDoorBase
namespace Go.Proofs.YtehmifdgfgngdacDoor
open Go.RowKit

theorem i64_and1 (a : Nat) (ha : a < 9223372036854775808) : bits .and .i64 (a : Int) 1 = ((a % 2 : Nat) : Int) := by
  have h1 : (BitVec.ofInt 64 1).toNat = 2 ^ 1 - 1 := by decide
  have key : (BitVec.ofInt 64 (a : Int) &&& BitVec.ofInt 64 1).toNat = a % 2 ^ 1 := by
    rw [BitVec.toNat_and, ofInt_u64 a (by omega), h1, Nat.and_two_pow_sub_one_eq_mod]
  show IntKind.i64.wrap ((BitVec.ofInt 64 (a : Int) &&& BitVec.ofInt 64 1).toNat : Nat) = _
  rw [key, IntKind.wrap_i64]
  omega

theorem i64_xor_nat (a b : Nat) (ha : a < 4611686018427387904) (hb : b < 4611686018427387904) : bits .xor .i64 (a : Int) (b : Int) = ((a ^^^ b : Nat) : Int) := by
  have hx : a ^^^ b < 2 ^ 62 := Nat.xor_lt_two_pow (by omega) (by omega)
  show IntKind.i64.wrap ((BitVec.ofInt 64 (a : Int) ^^^ BitVec.ofInt 64 (b : Int)).toNat : Int) = _
  rw [BitVec.toNat_xor, ofInt_u64 a (by omega), ofInt_u64 b (by omega), IntKind.wrap_i64]
  omega

theorem turnTo_lt (n k : Nat) : Crc.turnTo n k < 2 ^ k := by
  induction k with
  | zero => simp [Crc.turnTo]
  | succ k ih =>
    show 2 * Crc.turnTo n k + n / 2 ^ k % 2 < 2 ^ (k + 1)
    have : n / 2 ^ k % 2 < 2 := Nat.mod_lt _ (by omega)
    rw [Nat.pow_succ]; omega

theorem ret_int {k : IntKind} {a b : Int} (h : a = b) : Ending.returned (.int k a) = .returned (.int k b) := by rw [h]
theorem shr_and1 (x k : Nat) (hx : x < 9223372036854775808) : bits .and .i64 ((x : Int) / 2 ^ k) 1 = ((x / 2 ^ k % 2 : Nat) : Int) := by
  have e : (x : Int) / 2 ^ k = ((x / 2 ^ k : Nat) : Int) := by simp [Int.natCast_ediv]
  rw [e]
  exact i64_and1 _ (Nat.lt_of_le_of_lt (Nat.div_le_self _ _) hx)

set_option maxHeartbeats 400000 in
theorem rbit_pos (b o c i x n : Nat) (w : World) (hcell : w.cell? ⟨b, o + i / 8, none⟩ = some (.int .u8 (x : Int)))
    (hx : x < 256) (hi : i < 8 * n) (hlen : n ≤ 140737488355328) :
    Calls Tryd.prog 20 #[.slice (some ⟨b, o, none⟩) n c, .int .i64 (i : Int)] w fun e w' => e = .returned (.int .i64 (x / 2 ^ (i % 8) % 2 : Nat)) ∧ w' = w := by
  go_enter Tryd.func20, Tryd.ntmps20
  go_wp2
  go_ret
  exact ⟨ret_int (shr_and1 x (i % 8) (by omega)), rfl⟩

set_option maxHeartbeats 400000 in
theorem rbit_past (p : Option Addr) (c i n : Nat) (w : World) (hi : 8 * n ≤ i) (hlen : n ≤ 140737488355328) :
    Calls Tryd.prog 20 #[.slice p n c, .int .i64 (i : Int)] w fun e w' => e = .returned (.int .i64 (0 : Int)) ∧ w' = w := by
  go_enter Tryd.func20, Tryd.ntmps20
  go_wp2
  go_ret
  exact ⟨rfl, rfl⟩

theorem rbit_any (p : Option Addr) (n c : Nat) (zs : List Int) (i : Nat) (w : World) (hn : zs.length = n) (hB : Bytes w p zs) (hlen : n ≤ 140737488355328) :
    Calls Tryd.prog 20 #[.slice p n c, .int .i64 (i : Int)] w fun e w' => e = .returned (.int .i64 (Crc.refBit zs i : Nat)) ∧ w' = w := by
  subst hn
  by_cases hi : 8 * zs.length ≤ i
  · have e : Crc.refBit zs i = 0 := by unfold Crc.refBit; rw [if_pos hi]
    rw [e]
    exact rbit_past p c i zs.length w hi hlen
  · have e : Crc.refBit zs i = (zs.getD (i / 8) 0).toNat / 2 ^ (i % 8) % 2 := by unfold Crc.refBit; rw [if_neg hi]
    have hl : i / 8 < zs.length := by omega
    obtain ⟨b, o, rfl, _, hc⟩ := hB.at_ (by omega)
    have hz := hB.byte (zs.getD (i / 8) 0) (by rw [List.getD_eq_getElem?_getD, List.getElem?_eq_getElem hl]; exact List.getElem_mem hl)
    have hc1 := hc (i / 8) hl
    rw [show zs.getD (i / 8) 0 = (((zs.getD (i / 8) 0).toNat : Nat) : Int) by omega] at hc1
    rw [e]
    exact rbit_pos b o c i _ zs.length w hc1 (by omega) (by omega) hlen

set_option maxHeartbeats 400000 in
theorem rturn_any (n : Nat) (hn : n < 4294967296) (w : World) :
    Calls Tryd.prog 21 #[.int .i64 (n : Int)] w fun e w' => e = .returned (.int .i64 (Crc.turnTo n 32 : Nat)) ∧ w' = w := by
  go_enter Tryd.func21, Tryd.ntmps21
  go_wp2
  go_loop [3, 4] (fun m i => ∃ k : Nat, k ≤ 32 ∧ i = .int .i64 k ∧ m = .int .i64 (Crc.turnTo n k : Nat)) (fun _ i => 32 - (intOf i).toNat)
  case atStart => exact ⟨0, Nat.zero_le _, rfl, rfl⟩
  case round =>
    obtain ⟨k, hk, rfl, rfl⟩ := hrel
    have hb := turnTo_lt n k
    have hp : 2 ^ k ≤ 4294967296 := Nat.pow_le_pow_right (n := 2) (by omega) hk
    by_cases hlt : k < 32
    · have hs := shr_and1 n k (by omega)
      have HT : Hid (Crc.turnTo n (k + 1) = 2 * Crc.turnTo n k + n / 2 ^ k % 2) := rfl
      have hm : n / 2 ^ k % 2 < 2 := Nat.mod_lt _ (by omega)
      have hT : Crc.turnTo n k < 4294967296 := by omega
      clear hb hp
      generalize n / 2 ^ k % 2 = y at *
      generalize Crc.turnTo n k = T at *
      go_wp2
      go_round
      case rel => exact ⟨k + 1, by omega, by go_num, by rw [HT.out]; go_num⟩
      case measure => simp [intOf]; omega
    · obtain rfl : k = 32 := by omega
      go_wp2
      go_ret
      exact ⟨rfl, rfl⟩

theorem xor_div (a : Nat) (ha : a < 8589934592) : bits .xor .i64 (a : Int) 4374732215 = ((a ^^^ 4374732215 : Nat) : Int) := i64_xor_nat a 4374732215 (by omega) (by omega)

set_option maxHeartbeats 1000000 in
theorem radd_any (s : Nat) (hs : s < 4294967296) (p : Option Addr) (n c : Nat) (zs : List Int) (w : World) (hn : zs.length = n) (hB : Bytes w p zs) (hlen : n ≤ 140737488355328) :
    Calls Tryd.prog 12 #[.int .u32 s, .slice p n c] w fun e w' => e = .returned (.int .u32 (Crc.refAdd s zs : Nat)) ∧ w' = w := by
  have H : Hid (∀ (i : Nat), Calls Tryd.prog 20 #[.slice p n c, .int .i64 (i : Int)] w fun e w' => e = .returned (.int .i64 (Crc.refBit zs i : Nat)) ∧ w' = w) := fun i => rbit_any p n c zs i w hn hB hlen
  have HF : Hid (Crc.refAdd s zs = 4294967295 - Crc.turnTo (Crc.divTo (4294967295 - s) zs (8 * n + 32)) 32) := by rw [← hn]; rfl
  have hst : (4294967295 : Int) - (s : Int) = ((4294967295 - s : Nat) : Int) := by omega
  have hsl : 4294967295 - s < 4294967296 := by omega
  clear hB hn
  generalize 4294967295 - s = st at *
  go_enter Tryd.func12, Tryd.ntmps12
  go_wp2
  go_loop [6, 7] (fun r i => ∃ k : Nat, k ≤ 8 * n + 32 ∧ i = .int .i64 k ∧ r = .int .i64 (Crc.divTo st zs k : Nat)) (fun _ i => 8 * n + 32 - (intOf i).toNat)
  case atStart => exact ⟨0, Nat.zero_le _, rfl, rfl⟩
  case round =>
    obtain ⟨k, hk, rfl, rfl⟩ := hrel
    have hr := Crc.divTo_lt st zs k
    by_cases hlt : k < 8 * n + 32
    · have HT : Hid (Crc.divTo st zs (k + 1) = Crc.divStep (Crc.divTo st zs k) (Crc.refX st zs k)) := rfl
      have HB : Hid (Calls Tryd.prog 20 #[.slice p n c, .int .i64 (k : Int)] w fun e w' => e = .returned (.int .i64 (Crc.refBit zs k : Nat)) ∧ w' = w) := H.out k
      have hbl := Crc.refBit_lt zs k
      clear H HF
      by_cases h32 : k < 32
      · have HX : Hid (Crc.refX st zs k = (Crc.refBit zs k + st / 2 ^ k % 2) % 2) := by show Crc.refX st zs k = _; unfold Crc.refX; rw [if_pos h32]
        have hs1 := shr_and1 st k (by omega)
        have hy : st / 2 ^ k % 2 < 2 := Nat.mod_lt _ (by omega)
        generalize st / 2 ^ k % 2 = y at *
        generalize Crc.refBit zs k = x at *
        generalize Crc.divTo st zs k = r at *
        obtain ⟨X, hX, hXl, HX2⟩ : ∃ X : Nat, ((x : Int) + (y : Int)) % 2 = (X : Int) ∧ X < 2 ∧ Hid (Crc.refX st zs k = X) := ⟨(x + y) % 2, by omega, by omega, HX⟩
        clear HX
        by_cases hd : 4294967295 < 2 * r + X
        · have HD : Hid (Crc.divStep r X = (2 * r + X) ^^^ 4374732215) := by show Crc.divStep r X = _; unfold Crc.divStep; rw [if_pos hd]
          have hxd := xor_div (2 * r + X) (by omega)
          rw [show ((2 * r + X : Nat) : Int) = 2 * (r : Int) + (X : Int) by omega] at hxd
          generalize (2 * r + X) ^^^ 4374732215 = Z at *
          go_wp2_with (go_at_call 20; refine HB.out.mono ?_; rintro e w' ⟨rfl, rfl⟩)
          go_round
          case rel => exact ⟨k + 1, by omega, by go_num, by rw [HT.out, HX2.out, HD.out]⟩
          case measure => simp [intOf]; omega
        · have HD : Hid (Crc.divStep r X = 2 * r + X) := by show Crc.divStep r X = _; unfold Crc.divStep; rw [if_neg hd]
          go_wp2_with (go_at_call 20; refine HB.out.mono ?_; rintro e w' ⟨rfl, rfl⟩)
          go_round
          case rel => exact ⟨k + 1, by omega, by go_num, by rw [HT.out, HX2.out, HD.out]; go_num⟩
          case measure => simp [intOf]; omega
      · have HX : Hid (Crc.refX st zs k = Crc.refBit zs k) := by show Crc.refX st zs k = _; unfold Crc.refX; rw [if_neg h32]
        generalize Crc.refBit zs k = X at *
        generalize Crc.divTo st zs k = r at *
        by_cases hd : 4294967295 < 2 * r + X
        · have HD : Hid (Crc.divStep r X = (2 * r + X) ^^^ 4374732215) := by show Crc.divStep r X = _; unfold Crc.divStep; rw [if_pos hd]
          have hxd := xor_div (2 * r + X) (by omega)
          rw [show ((2 * r + X : Nat) : Int) = 2 * (r : Int) + (X : Int) by omega] at hxd
          generalize (2 * r + X) ^^^ 4374732215 = Z at *
          go_wp2_with (go_at_call 20; refine HB.out.mono ?_; rintro e w' ⟨rfl, rfl⟩)
          go_round
          case rel => exact ⟨k + 1, by omega, by go_num, by rw [HT.out, HX.out, HD.out]⟩
          case measure => simp [intOf]; omega
        · have HD : Hid (Crc.divStep r X = 2 * r + X) := by show Crc.divStep r X = _; unfold Crc.divStep; rw [if_neg hd]
          go_wp2_with (go_at_call 20; refine HB.out.mono ?_; rintro e w' ⟨rfl, rfl⟩)
          go_round
          case rel => exact ⟨k + 1, by omega, by go_num, by rw [HT.out, HX.out, HD.out]; go_num⟩
          case measure => simp [intOf]; omega
    · obtain rfl : k = 8 * n + 32 := by omega
      have HR : Hid (Calls Tryd.prog 21 #[.int .i64 (Crc.divTo st zs (8 * n + 32) : Nat)] w fun e w' => e = .returned (.int .i64 (Crc.turnTo (Crc.divTo st zs (8 * n + 32)) 32 : Nat)) ∧ w' = w) := rturn_any _ hr w
      have hT : Crc.turnTo (Crc.divTo st zs (8 * n + 32)) 32 < 4294967296 := turnTo_lt _ 32
      generalize Crc.divTo st zs (8 * n + 32) = d at *
      generalize Crc.turnTo d 32 = T at *
      clear H
      go_wp2_with (go_at_call 21; refine HR.out.mono ?_; rintro e w' ⟨rfl, rfl⟩)
      go_ret
      exact ⟨ret_int (by rw [HF.out]; omega), rfl⟩

theorem rsum_any (p : Option Addr) (n c : Nat) (zs : List Int) (w : World) (hn : zs.length = n) (hB : Bytes w p zs) (hlen : n ≤ 140737488355328) :
    Calls Tryd.prog 10 #[.slice p n c] w fun e w' => e = .returned (.int .u32 (Crc.refAdd 0 zs : Nat)) ∧ w' = w := by
  have H : Hid (Calls Tryd.prog 12 #[.int .u32 0, .slice p n c] w fun e w' => e = .returned (.int .u32 (Crc.refAdd 0 zs : Nat)) ∧ w' = w) := radd_any 0 (by omega) p n c zs w hn hB hlen
  generalize Crc.refAdd 0 zs = F at *
  go_enter Tryd.func10, Tryd.ntmps10
  go_wp2_with (go_at_call 12; refine H.out.mono ?_; rintro e w' ⟨rfl, rfl⟩)
  go_ret
  exact ⟨rfl, rfl⟩
end Go.Proofs.YtehmifdgfgngdacDoor
