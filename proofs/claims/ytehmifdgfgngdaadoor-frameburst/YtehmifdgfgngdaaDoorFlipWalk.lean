import Derived.Test.YtehmifdgfgngdaaDoorBurst
import Derived.Test.YtehmifdgfgngdaaDoorBackWalk
namespace Go.Proofs.YtehmifdgfgngdaaDoor
open Go.RowKit

theorem ret_num {k : IntKind} {a b : Int} (h : a = b) : Ending.returned (.int k a) = .returned (.int k b) := by rw [h]
theorem tmod_all (k : Int) (n : Nat) (hn : 0 < n) : k % (n : Int) = k.tmod n % (n : Int) ∧ k.tmod n < n ∧ -(n : Int) < k.tmod n := by
  have h1 := Int.tmod_add_mul_tdiv k n
  refine ⟨?_, Int.tmod_lt_of_pos k (by omega), Int.lt_tmod_of_pos k (by omega)⟩
  have h2 : (k.tmod n + (n : Int) * k.tdiv n) % (n : Int) = k.tmod n % (n : Int) := Int.add_mul_emod_self_left _ _ _
  rw [h1] at h2
  exact h2
theorem tmod_pos (k : Int) (n : Nat) (hn : 0 < n) (h : 0 ≤ k.tmod n) : k.tmod n = k % (n : Int) := by
  have := tmod_all k n hn
  rw [this.1, Int.emod_eq_of_lt h this.2.1]
theorem tmod_neg (k : Int) (n : Nat) (hn : 0 < n) (h : k.tmod n < 0) : k.tmod n + n = k % (n : Int) ∧ 0 ≤ k % (n : Int) ∧ k % (n : Int) < n := by
  have ha := tmod_all k n hn
  have h2 : (k.tmod n + (n : Int)) % (n : Int) = k.tmod n % (n : Int) := Int.add_emod_right _ _
  rw [Int.emod_eq_of_lt (by omega) (by omega)] at h2
  exact ⟨by rw [ha.1, h2], Int.emod_nonneg _ (by omega), Int.emod_lt_of_pos _ (by omega)⟩
theorem wrap64_small (x : Int) (h1 : -9223372036854775808 ≤ x) (h2 : x ≤ 9223372036854775807) : wrap64 x = x := by
  unfold wrap64; omega

set_option maxHeartbeats 400000 in
theorem place_raw (k : Int) (n : Nat) (hn : 0 < n) (hm : n ≤ 140737488355328) (_hk : -9223372036854775808 ≤ k ∧ k ≤ 9223372036854775807) (w : World) :
    Calls Tryd.prog 16 #[.int .i64 k, .int .i64 (n : Int)] w fun e w' => e = .returned (.int .i64 (k % (n : Int))) ∧ w' = w := by
  go_enter Tryd.func16, Tryd.ntmps16
  go_wp2
  · go_ret
    have hr := tmod_neg k n hn (by assumption)
    exact ⟨ret_num (by rw [hr.1]; exact wrap64_small _ (by omega) (by omega)), rfl⟩
  · go_ret
    exact ⟨ret_num (tmod_pos k n hn (by assumption)), rfl⟩

set_option maxHeartbeats 400000 in
theorem flip_long (pa : Option Addr) (na ca : Nat) (x : Int) (w : World) (ha : na ≤ 140737488355328) (hl : 32768 < na) :
    Calls Tryd.prog 5 #[.slice pa na ca, .int .i64 x] w fun e w' => e = .returned (.bool true) ∧ Below w.heap.size w w' := by
  go_enter Tryd.func5, Tryd.ntmps5
  go_wp2_with fail
  go_ret
  exact ⟨rfl, Below.refl _ _⟩

theorem OwnB.head {base : Nat} {w : World} {p : Option Addr} {c : Nat} {zs : List Int} (h : OwnB base w p c zs) (hp : 0 < zs.length) : ∃ g, p = some ⟨g, 0, none⟩ ∧ base ≤ g ∧ g < w.heap.size := by
  obtain ⟨_, ⟨hv, h0⟩ | ⟨g, cap, cur, hv, hb, hh, _⟩⟩ := h.own
  · omega
  · simp only [Value.slice.injEq] at hv
    refine ⟨g, hv.1, hb, ?_⟩
    rcases Nat.lt_or_ge g w.heap.size with h1 | h1
    · exact h1
    · rw [Array.getElem?_eq_none h1] at hh; cases hh
theorem OwnB.free {base : Nat} {w : World} {g c : Nat} {zs : List Int} (h : OwnB base w (some ⟨g, 0, none⟩) c zs) (j : Nat) : w.frozen? ⟨g, j, none⟩ = false :=
  World.ownsRow.frozenAt h.own j
theorem OwnB.put {base : Nat} {w : World} {g c : Nat} {zs : List Int} (h : OwnB base w (some ⟨g, 0, none⟩) c zs) (j : Nat) (z : Int) (hz : 0 ≤ z ∧ z < 256) : OwnB base (w.setCell ⟨g, j, none⟩ (.int .u8 z)) (some ⟨g, 0, none⟩) c (zs.set j z) := by
  have h1 := World.ownsRow.stored h.own j (.int .u8 z)
  refine ⟨?_, fun y hy => ?_⟩
  · rw [List.length_set, List.map_set]; exact h1.1
  · rcases List.mem_or_eq_of_mem_set hy with h2 | h2
    · exact h.byte y h2
    · rw [h2]; exact hz

theorem xor_u8 (y r : Nat) (hy : y < 256) (hr : r < 8) : bits BinOp.xor IntKind.u8 (y : Int) (2 ^ r % 256) = ((y ^^^ 2 ^ r : Nat) : Int) := by
  have hp := pow_byte r hr
  have e : (2 : Int) ^ r % 256 = ((2 ^ r : Nat) : Int) := by
    have : (2 : Int) ^ r = ((2 ^ r : Nat) : Int) := by simp
    rw [this]
    exact Int.emod_eq_of_lt (Int.natCast_nonneg _) (Int.ofNat_lt.2 hp)
  rw [e]
  exact u8_xor_nat y (2 ^ r) hy hp

set_option maxHeartbeats 1000000 in
theorem flip_core (pa : Option Addr) (na ca : Nat) (x : Int) (za : List Int) (w : World) (hna : za.length = na) (hA : Bytes w pa za)
    (hpa : pa = none → na = 0 ∧ ca = 0) (hT : Tab w) (hm : na ≤ 32768) (hx : -9223372036854775808 ≤ x ∧ x ≤ 9223372036854775807) :
    Calls Tryd.prog 5 #[.slice pa na ca, .int .i64 x] w fun e w' => e = .returned (.bool true) ∧ Below w.heap.size w w' := by
  have H1 : Hid (Calls Tryd.prog 14 #[.slice pa na ca] w fun e w' => ∃ a c', e = .returned (.tuple #[.slice a (na + 8) c', .int .i64 0]) ∧ OwnB w.heap.size w' a c' (frameOf za) ∧ Below w.heap.size w w') := wrap_any pa na ca za w hna hA hpa hT hm
  have HT : Hid (∀ W, Below w.heap.size w W → Tab W) := fun W h => hT.later h
  have HF : Hid ((frameOf za).length = na + 8) := by show _ = _; rw [frameOf_length, hna]
  obtain ⟨k, hk⟩ : ∃ k : Nat, x % (8 * ((na : Int) + 8)) = (k : Int) := Int.eq_ofNat_of_zero_le (Int.emod_nonneg _ (by omega))
  have hkl : k < 8 * (na + 8) := by have := Int.emod_lt_of_pos x (show 0 < 8 * ((na : Int) + 8) by omega); omega
  have HP : Hid (∀ W, Calls Tryd.prog 16 #[.int .i64 x, .int .i64 (8 * ((na : Int) + 8))] W fun e w' => e = .returned (.int .i64 (k : Int)) ∧ w' = W) := by
    intro W
    have h := place_raw x (8 * (na + 8)) (by omega) (by omega) hx W
    rw [show ((8 * (na + 8) : Nat) : Int) = 8 * ((na : Int) + 8) by omega, hk] at h
    exact h
  have hby : Hid (∀ z ∈ za, 0 ≤ z ∧ z < 256) := hA.byte
  clear hA hT hk hpa
  go_enter Tryd.func5, Tryd.ntmps5
  go_wp2_with (first | (go_at_call 14; refine H1.out.mono ?_; rintro e w1 ⟨a, c', rfl, hO1, hb1⟩) | (go_at_call 15; refine (num_any _ _).mono ?_; rintro e w' ⟨rfl, rfl⟩) | (go_at_call 16; refine (HP.out _).mono ?_; rintro e w' ⟨rfl, rfl⟩))
  obtain ⟨g, rfl, hg, hgl⟩ := hO1.head (by rw [HF.out]; omega)
  obtain ⟨y, hy, HY⟩ : ∃ y : Nat, y < 256 ∧ Hid ((frameOf za).getD (k / 8) 0 = (y : Int)) := by
    have := byte_at hO1.byte (k / 8)
    exact ⟨((frameOf za).getD (k / 8) 0).toNat, by omega, show _ = _ by omega⟩
  have hcell : w'.cell? ⟨g, k / 8, none⟩ = some (.int .u8 (y : Int)) := by
    obtain ⟨b, o, e1, _, hc⟩ := hO1.bytes.at_ (by rw [HF.out]; omega)
    cases e1
    have := hc (k / 8) (by rw [HF.out]; omega)
    rw [HY.out, Nat.zero_add] at this
    exact this
  have hfr : w'.frozen? ⟨g, k / 8, none⟩ = false := hO1.free _
  have f1 : (k : Int) / 8 < (na : Int) + 8 := by omega
  have hv := xor_u8 y (k % 8) hy (Nat.mod_lt k (by omega))
  have hyl := xor_byte hy (Nat.mod_lt k (by omega : 0 < 8))
  have hE : exa ((frameOf za).set (k / 8) ((y ^^^ 2 ^ (k % 8) : Nat) : Int)) = (if k < 32 then 12 else 13, []) := by
    by_cases h32 : k < 32
    · unfold exa
      rw [unw_flip_head za k y (by omega) h32 hy HY.out, if_pos h32]; simp
    · unfold exa
      rw [unw_flip_tail za k y (by omega) hby.out (by omega) (by omega) hy HY.out, if_neg h32]; simp
  have HO : Hid (∀ Y : Nat, Y = y ^^^ 2 ^ (k % 8) → OwnB w.heap.size (w'.setCell ⟨g, k / 8, none⟩ (.int .u8 (Y : Int))).drew (some ⟨g, 0, none⟩) c' ((frameOf za).set (k / 8) (Y : Int))) := by
    intro Y hY
    have h := hO1.put (k / 8) (Y : Int) (by omega)
    exact ⟨h.own.drew, h.byte⟩
  have HX : Hid (∀ Y : Nat, Y = y ^^^ 2 ^ (k % 8) → Calls Tryd.prog 17 #[.slice (some ⟨g, 0, none⟩) (na + 8) c'] (w'.setCell ⟨g, k / 8, none⟩ (.int .u8 (Y : Int))).drew fun e w2 => ∃ a c', e = .returned (.tuple #[.slice a 0 c', .int .i64 ((if k < 32 then 12 else 13 : Nat) : Int)]) ∧ Below w.heap.size w w2) := by
    intro Y hY
    have h := HO.out Y hY
    have hbl : Below w.heap.size w (w'.setCell ⟨g, k / 8, none⟩ (.int .u8 (Y : Int))).drew := (hb1.setCell (p := ⟨g, k / 8, none⟩) hg _).drew
    have hcap := hO1.cap.1
    rw [HF.out] at hcap
    have hx := exact_any (some ⟨g, 0, none⟩) (na + 8) c' ((frameOf za).set (k / 8) (Y : Int)) _ (by rw [List.length_set, HF.out]) h.bytes hcap (by omega) (HT.out _ hbl)
    rw [hY, hE] at hx
    rw [hY]
    refine hx.mono ?_
    rintro e w2 ⟨a, c2, rfl, _, hb2⟩
    refine ⟨a, c2, rfl, hbl.trans ?_⟩
    rw [hY]
    exact hb2.mono (by have := hb1.size; simp; exact this)
  obtain ⟨Y, hY⟩ : ∃ Y : Nat, Y = y ^^^ 2 ^ (k % 8) := ⟨_, rfl⟩
  rw [← hY] at hv
  have HX2 : Hid (Calls Tryd.prog 17 #[.slice (some ⟨g, 0, none⟩) (na + 8) c'] (w'.setCell ⟨g, k / 8, none⟩ (.int .u8 (Y : Int))).drew fun e w2 => ∃ a c', e = .returned (.tuple #[.slice a 0 c', .int .i64 ((if k < 32 then 12 else 13 : Nat) : Int)]) ∧ Below w.heap.size w w2) := HX.out Y hY
  clear HX HO hE hO1 hY hyl HY H1
  by_cases h32 : k < 32
  · rw [if_pos h32] at HX2
    go_region
    all_goals
      clear hcell hfr
      go_wp2_with (first | (go_at_call 17; refine HX2.out.mono ?_; rintro e w2 ⟨a2, c2, rfl, hb2⟩) | (go_at_call 15; refine (num_any _ _).mono ?_; rintro e w3 ⟨rfl, rfl⟩))
      go_ret
      exact ⟨rfl, hb2⟩
  · rw [if_neg h32] at HX2
    go_region
    all_goals
      clear hcell hfr
      go_wp2_with (first | (go_at_call 17; refine HX2.out.mono ?_; rintro e w2 ⟨a2, c2, rfl, hb2⟩) | (go_at_call 15; refine (num_any _ _).mono ?_; rintro e w3 ⟨rfl, rfl⟩))
      go_ret
      exact ⟨rfl, hb2⟩
end Go.Proofs.YtehmifdgfgngdaaDoor
