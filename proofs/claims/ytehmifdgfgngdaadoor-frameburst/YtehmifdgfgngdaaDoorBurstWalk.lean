import Derived.Test.YtehmifdgfgngdaaDoorFlipWalk
import Derived.Test.YtehmifdgfgngdaaDoorTurns
namespace Go.Proofs.YtehmifdgfgngdaaDoor
open Go.RowKit

set_option maxHeartbeats 400000 in
theorem burst_long (pa : Option Addr) (na ca : Nat) (x : Int) (pt : Nat) (w : World) (ha : na ≤ 140737488355328) (hl : 32768 < na) :
    Calls Tryd.prog 7 #[.slice pa na ca, .int .i64 x, .int .u32 (pt : Int)] w fun e w' => e = .returned (.bool true) ∧ Below w.heap.size w w' := by
  go_enter Tryd.func7, Tryd.ntmps7
  go_wp2_with fail
  go_ret
  exact ⟨rfl, Below.refl _ _⟩
set_option maxHeartbeats 400000 in
theorem burst_zero (pa : Option Addr) (na ca : Nat) (x : Int) (w : World) (hl : na ≤ 32768) :
    Calls Tryd.prog 7 #[.slice pa na ca, .int .i64 x, .int .u32 0] w fun e w' => e = .returned (.bool true) ∧ Below w.heap.size w w' := by
  go_enter Tryd.func7, Tryd.ntmps7
  go_wp2_with fail
  go_ret
  exact ⟨rfl, Below.refl _ _⟩

theorem shr_and1_u32 (x k : Nat) (hx : x < 4294967296) : bits .and .u32 ((x : Int) / 2 ^ k) 1 = ((x / 2 ^ k % 2 : Nat) : Int) := by
  have e : (x : Int) / 2 ^ k = ((x / 2 ^ k : Nat) : Int) := by simp [Int.natCast_ediv]
  have h := u32_and_nat (x / 2 ^ k) 1 (Nat.lt_of_le_of_lt (Nat.div_le_self _ _) hx) (by omega)
  rw [nat_mask1] at h
  rw [e]
  exact h

set_option maxHeartbeats 1000000 in
theorem burst_core (pa : Option Addr) (na ca : Nat) (x : Int) (pt : Nat) (za : List Int) (w : World) (hna : za.length = na) (hA : Bytes w pa za)
    (hpa : pa = none → na = 0 ∧ ca = 0) (hT : Tab w) (hm : na ≤ 32768) (hx : -9223372036854775808 ≤ x ∧ x ≤ 9223372036854775807) (hp0 : ((pt : Int) == 0) = false) (hpt : pt < 4294967296) :
    Calls Tryd.prog 7 #[.slice pa na ca, .int .i64 x, .int .u32 (pt : Int)] w fun e w' => e = .returned (.bool true) ∧ Below w.heap.size w w' := by
  have H1 : Hid (Calls Tryd.prog 14 #[.slice pa na ca] w fun e w' => ∃ a c', e = .returned (.tuple #[.slice a (na + 8) c', .int .i64 0]) ∧ OwnB w.heap.size w' a c' (frameOf za) ∧ Below w.heap.size w w') := wrap_any pa na ca za w hna hA hpa hT hm
  have HT : Hid (∀ W, Below w.heap.size w W → Tab W) := fun W h => hT.later h
  have HF : Hid ((frameOf za).length = na + 8) := by show _ = _; rw [frameOf_length, hna]
  have HAA : Hid (∀ W, Below w.heap.size w W → Bytes W pa za) := fun W h => hA.later h
  obtain ⟨f0, hf0⟩ : ∃ k : Nat, x % (8 * (na : Int) + 32) = (k : Int) := Int.eq_ofNat_of_zero_le (Int.emod_nonneg _ (by omega))
  have hfl : f0 < 8 * na + 32 := by have := Int.emod_lt_of_pos x (show 0 < 8 * (na : Int) + 32 by omega); omega
  have HP : Hid (∀ W, Calls Tryd.prog 16 #[.int .i64 x, .int .i64 (8 * (na : Int) + 32)] W fun e w' => e = .returned (.int .i64 (f0 : Int)) ∧ w' = W) := by
    intro W
    have h := place_raw x (8 * na + 32) (by omega) (by omega) hx W
    rw [show ((8 * na + 32 : Nat) : Int) = 8 * (na : Int) + 32 by omega, hf0] at h
    exact h
  have hby : Hid (∀ z ∈ za, 0 ≤ z ∧ z < 256) := hA.byte
  clear hA hT hf0 hpa
  go_enter Tryd.func7, Tryd.ntmps7
  go_wp2_with (first | (go_at_call 14; refine H1.out.mono ?_; rintro e w1 ⟨a, c', rfl, hO1, hb1⟩) | (go_at_call 15; refine (num_any _ _).mono ?_; rintro e w' ⟨rfl, rfl⟩) | (go_at_call 16; refine (HP.out _).mono ?_; rintro e w' ⟨rfl, rfl⟩))
  obtain ⟨g, rfl, hg, hgl⟩ := hO1.head (by rw [HF.out]; omega)
  have hcap := hO1.cap
  rw [HF.out] at hcap
  obtain ⟨first, hfi⟩ : ∃ first : Nat, first = 32 + f0 := ⟨_, rfl⟩
  have hst : Turned (frameOf za) (frameOf za) first pt 0 0 := Turned.start _ _ _ hO1.byte
  have h32 : 32 ≤ first := by omega
  have hfle : first ≤ 8 * na + 64 := by omega
  have e9 : (32 : Int) + (f0 : Int) = (first : Int) := by omega
  clear HP H1 hfl hfi
  rw [e9]
  clear e9
  go_loopw [10, 11] (fun cc ii wr => ∃ (i c : Nat) (zs : List Int), i ≤ 32 ∧ ii = .int .i64 (i : Int) ∧ cc = .int .i64 (c : Int) ∧ Hid (Turned (frameOf za) zs first pt i c) ∧ OwnB w.heap.size wr (some ⟨g, 0, none⟩) c' zs ∧ Below w.heap.size w wr) (fun _ ii _ => 32 - (intOf ii).toNat)
  case atStart => exact ⟨0, 0, frameOf za, by omega, rfl, rfl, hst, hO1, hb1⟩
  case round =>
    obtain ⟨i, c, zs, hi, rfl, rfl, HTn, hO, hbel⟩ := hrel
    have hcl := HTn.out.le
    have hln : zs.length = na + 8 := by rw [HTn.out.len, HF.out]
    by_cases hlt : i < 32
    · have hsa := shr_and1_u32 pt i hpt
      have hbl : pt / 2 ^ i % 2 < 2 := Nat.mod_lt _ (by omega)
      have HH : Hid (pt / 2 ^ i % 2 = 1 → first + i < 8 * (na + 8) → hit first pt (frameOf za).length i) := fun h1 h2 => ⟨h1, by rw [HF.out]; exact h2⟩
      have HN : Hid (¬ (pt / 2 ^ i % 2 = 1 ∧ first + i < 8 * (na + 8)) → ¬ hit first pt (frameOf za).length i) := fun h1 h2 => h1 ⟨h2.1, by have := h2.2; rw [HF.out] at this; exact this⟩
      generalize pt / 2 ^ i % 2 = b at *
      by_cases hb1' : b = 1
      · subst hb1'
        by_cases hk : first + i < 8 * (na + 8)
        · obtain ⟨kk, hkk⟩ : ∃ kk : Nat, kk = first + i := ⟨_, rfl⟩
          obtain ⟨y, hy, HY⟩ : ∃ y : Nat, y < 256 ∧ Hid (zs.getD (kk / 8) 0 = (y : Int)) := by
            have := byte_at hO.byte (kk / 8)
            exact ⟨(zs.getD (kk / 8) 0).toNat, by omega, show _ = _ by omega⟩
          have hcell : wr.cell? ⟨g, kk / 8, none⟩ = some (.int .u8 (y : Int)) := by
            obtain ⟨b, o, e1, _, hc⟩ := hO.bytes.at_ (by omega)
            cases e1
            have := hc (kk / 8) (by omega)
            rw [HY.out, Nat.zero_add] at this
            exact this
          have hfr : wr.frozen? ⟨g, kk / 8, none⟩ = false := hO.free _
          have f1 : (kk : Int) / 8 < (na : Int) + 8 := by omega
          have hv := xor_u8 y (kk % 8) hy (Nat.mod_lt kk (by omega))
          have hyl := xor_byte hy (Nat.mod_lt kk (by omega : 0 < 8))
          have HT2 : Hid (Turned (frameOf za) (zs.set (kk / 8) ((y ^^^ 2 ^ (kk % 8) : Nat) : Int)) first pt (i + 1) (c + 1)) := by
            have := HTn.out.turn (HH.out rfl hk) hy (by rw [← hkk]; exact HY.out)
            rw [← hkk] at this
            exact this
          have HO : Hid (OwnB w.heap.size (wr.setCell ⟨g, kk / 8, none⟩ (.int .u8 ((y ^^^ 2 ^ (kk % 8) : Nat) : Int))).drew (some ⟨g, 0, none⟩) c' (zs.set (kk / 8) ((y ^^^ 2 ^ (kk % 8) : Nat) : Int))) := by
            have h := hO.put (kk / 8) ((y ^^^ 2 ^ (kk % 8) : Nat) : Int) (by omega)
            exact ⟨h.own.drew, h.byte⟩
          have hbl2 : Below w.heap.size w (wr.setCell ⟨g, kk / 8, none⟩ (.int .u8 ((y ^^^ 2 ^ (kk % 8) : Nat) : Int))).drew := (hbel.setCell (p := ⟨g, kk / 8, none⟩) hg _).drew
          generalize y ^^^ 2 ^ (kk % 8) = Y at *
          have ek : (first : Int) + (i : Int) = (kk : Int) := by omega
          have hk2 : kk < 8 * (na + 8) := by omega
          clear HN HH HTn hO hbel hkk HY hk
          go_wp2_with fail
          go_region
          all_goals
            clear hcell hfr
            go_wp2
            go_roundw
            case rel => exact ⟨i + 1, c + 1, _, by omega, by go_num, by go_num, HT2, HO.out, hbl2⟩
            case measure => simp [intOf]; omega
        · have HT2 : Hid (Turned (frameOf za) zs first pt (i + 1) c) := HTn.out.miss (HN.out (by omega))
          clear HN HH HTn
          go_wp2_with fail
          go_roundw
          case rel => exact ⟨i + 1, c, zs, by omega, by go_num, rfl, HT2, hO, hbel⟩
          case measure => simp [intOf]; omega
      · obtain rfl : b = 0 := by omega
        have HT2 : Hid (Turned (frameOf za) zs first pt (i + 1) c) := HTn.out.miss (HN.out (by omega))
        clear HN HH HTn
        go_wp2_with fail
        go_roundw
        case rel => exact ⟨i + 1, c, zs, by omega, by go_num, rfl, HT2, hO, hbel⟩
        case measure => simp [intOf]; omega
    · obtain rfl : i = 32 := by omega
      have hX := turned_exa (by omega) hby.out h32 HTn.out
      have hEx := exact_any (some ⟨g, 0, none⟩) (na + 8) c' zs wr hln hO.bytes hcap.1 (by omega) (HT.out wr hbel)
      by_cases hc0 : c = 0
      · subst hc0
        rw [hX.1 rfl] at hEx
        simp only [hna] at hEx
        have HX : Hid (Calls Tryd.prog 17 #[.slice (some ⟨g, 0, none⟩) (na + 8) c'] wr fun e w' => ∃ a c', e = .returned (.tuple #[.slice a na c', .int .i64 ((0 : Nat) : Int)]) ∧ OwnB wr.heap.size w' a c' za ∧ Below wr.heap.size wr w') := hEx
        clear hEx hX hO HTn hst hO1
        go_wp2_with fail
        refine HX.out.mono ?_
        rintro e w6 ⟨a6, c6, rfl, hO6, hb6⟩
        have hb6w : Below w.heap.size w w6 := hbel.trans (hb6.mono hbel.size)
        have HS : Hid (Calls Tryd.prog 21 #[.slice a6 na c6, .slice pa na ca] w6 fun e w' => e = .returned (.bool true) ∧ Below w6.heap.size w6 w') := by
          have h := same_any a6 pa na c6 na ca za za w6 hna hna hO6.bytes (HAA.out w6 hb6w) (by omega)
          rw [decide_eq_true rfl] at h
          exact h
        clear hO6 HX
        go_wp2_with (first | (go_at_call 15; refine (num_any _ _).mono ?_; rintro e wn ⟨rfl, rfl⟩))
        refine HS.out.mono ?_
        rintro e w7 ⟨rfl, hb7⟩
        go_wp2_with fail
        go_ret
        exact ⟨rfl, hb6w.trans (hb7.mono hb6w.size)⟩
      · rw [hX.2 (by omega)] at hEx
        simp only [List.length_nil] at hEx
        have HX : Hid (Calls Tryd.prog 17 #[.slice (some ⟨g, 0, none⟩) (na + 8) c'] wr fun e w' => ∃ a c', e = .returned (.tuple #[.slice a 0 c', .int .i64 ((13 : Nat) : Int)]) ∧ OwnB wr.heap.size w' a c' [] ∧ Below wr.heap.size wr w') := hEx
        have hcc : ((c : Int) == 0) = false := by rw [beq_eq_false_iff_ne]; omega
        clear hEx hX hO HTn hst hO1
        go_wp2_with (first | (go_at_call 17; refine HX.out.mono ?_; rintro e w6 ⟨a6, c6, rfl, hO6, hb6⟩) | (go_at_call 15; refine (num_any _ _).mono ?_; rintro e wn ⟨rfl, rfl⟩))
        go_ret
        exact ⟨rfl, hbel.trans (hb6.mono hbel.size)⟩
end Go.Proofs.YtehmifdgfgngdaaDoor
