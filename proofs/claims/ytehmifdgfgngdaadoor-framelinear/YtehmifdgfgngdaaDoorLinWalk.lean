import Derived.Test.YtehmifdgfgngdaaDoorApp
import Derived.Deep.QuietTactic
import Derived.BigQuiet
namespace Go.Proofs.YtehmifdgfgngdaaDoor
open Go.RowKit

theorem one_zero (w : World) : Bytes (w.alloc (.cells #[.int .u8 0] 5)) (some ⟨w.heap.size, 0, none⟩) [0] := by
  refine ⟨fun _ => ⟨w.heap.size, 0, rfl, by simp, fun i hi => ?_⟩, by decide⟩
  have := cell_one_new w (.int .u8 0) 5 i (.int .u8 ([0].getD i 0)) (by match i, hi with | 0, _ => rfl)
  rw [Go.WideShapes.add_plain] at this
  exact this

/-- the first k bytes of two texts laid over each other -/
def xl (za zb : List Int) (k : Nat) : List Int := List.zipWith (fun p q => ((p.toNat ^^^ q.toNat : Nat) : Int)) (za.take k) (zb.take k)
theorem xl_succ (za zb : List Int) (k x y : Nat) (ha : k < za.length) (hb : k < zb.length) (hx : za.getD k 0 = (x : Int)) (hy : zb.getD k 0 = (y : Int)) : xl za zb (k + 1) = xl za zb k ++ [((x ^^^ y : Nat) : Int)] := by
  unfold xl
  rw [take_succ za k ha, take_succ zb k hb, List.zipWith_append (by simp; omega), hx, hy]
  rfl
theorem xl_len (za zb : List Int) (k : Nat) (ha : k ≤ za.length) (hb : k ≤ zb.length) : (xl za zb k).length = k := by unfold xl; simp; omega
theorem xl_byte (za zb : List Int) (k : Nat) (ha : ∀ z ∈ za, 0 ≤ z ∧ z < 256) (hb : ∀ z ∈ zb, 0 ≤ z ∧ z < 256) : ∀ z ∈ xl za zb k, 0 ≤ z ∧ z < 256 := by
  intro z hz
  unfold xl at hz
  obtain ⟨i, hi, rfl⟩ := List.getElem_of_mem hz
  have hi1 : i < (za.take k).length := by simp at hi ⊢; omega
  have hi2 : i < (zb.take k).length := by simp at hi ⊢; omega
  have h1 := ha _ (List.mem_of_mem_take (List.getElem_mem hi1))
  have h2 := hb _ (List.mem_of_mem_take (List.getElem_mem hi2))
  have h3 := Nat.xor_lt_two_pow (n := 8) (x := ((za.take k)[i]'hi1).toNat) (y := ((zb.take k)[i]'hi2).toNat) (by omega) (by omega)
  rw [List.getElem_zipWith]
  exact ⟨Int.natCast_nonneg _, Int.ofNat_lt.2 h3⟩
theorem lin_sum (za zb : List Int) (m : Nat) (hma : m ≤ za.length) (hmb : m ≤ zb.length) (ha : ∀ z ∈ za, 0 ≤ z ∧ z < 256) (hb : ∀ z ∈ zb, 0 ≤ z ∧ z < 256) :
    Crc.add 0 (xl za zb m) = Crc.add 0 (za.take m) ^^^ Crc.add 0 (zb.take m) ^^^ Crc.add 0 (List.replicate m 0) := by
  refine Crc.linear (za.take m) (zb.take m) (xl za zb m) (List.replicate m 0) (by simp; omega) ?_ (fun z hz => ha z (List.mem_of_mem_take hz)) (fun z hz => hb z (List.mem_of_mem_take hz)) ?_
  · simp [List.map_const']; omega
  · unfold xl
    rw [List.map_zipWith, List.zipWith_map]
    congr

set_option maxHeartbeats 400000 in
theorem lin_long (pa pb : Option Addr) (na ca nb cb : Nat) (w : World) (ha : na ≤ 140737488355328) (hl : 131072 < na) :
    Calls Tryd.prog 3 #[.slice pa na ca, .slice pb nb cb] w fun e w' => e = .returned (.bool true) ∧ Below w.heap.size w w' := by
  go_enter Tryd.func3, Tryd.ntmps3
  go_wp2_with fail
  go_ret
  exact ⟨rfl, Below.refl _ _⟩

theorem byte_of {zs : List Int} (hb : ∀ z ∈ zs, 0 ≤ z ∧ z < 256) (i : Nat) : 0 ≤ zs.getD i 0 ∧ zs.getD i 0 < 256 := by
  rw [List.getD_eq_getElem?_getD]
  by_cases h : i < zs.length
  · rw [List.getElem?_eq_getElem h]; exact hb _ (List.getElem_mem h)
  · rw [List.getElem?_eq_none (by omega)]; simp

theorem take_bytes {w : World} {b o : Nat} {zs : List Int} (h : Bytes w (some ⟨b, o, none⟩) zs) (k : Nat) : Bytes w (some ⟨b, o, none⟩) (zs.take k) := by
  refine ⟨fun hp => ?_, fun z hz => h.byte z (List.mem_of_mem_take hz)⟩
  have hk : 0 < zs.length := by simp at hp; omega
  obtain ⟨_, _, hbo, hlt, hc⟩ := h.at_ hk
  cases hbo
  refine ⟨b, o, rfl, hlt, fun i hi => ?_⟩
  have hi' : i < k ∧ i < zs.length := by simp at hi; omega
  rw [hc i hi'.2]
  simp [List.getD_eq_getElem?_getD, hi'.1]

set_option maxHeartbeats 1000000 in
theorem lin_pos (b1 o1 b2 o2 na ca nb cb m : Nat) (za zb : List Int) (w : World) (hna : za.length = na) (hnb : zb.length = nb) (hA : Bytes w (some ⟨b1, o1, none⟩) za) (hB : Bytes w (some ⟨b2, o2, none⟩) zb)
    (hca : na ≤ ca) (hT : Tab w) (hl : na ≤ 131072) (hlb : nb ≤ 140737488355328) (hp1 : 0 < na) (hp2 : 0 < nb) (hm1 : m ≤ na) (hm2 : m ≤ nb) (HM : Hid (m = na ∨ m = nb)) :
    Calls Tryd.prog 3 #[.slice (some ⟨b1, o1, none⟩) na ca, .slice (some ⟨b2, o2, none⟩) nb cb] w fun e w' => e = .returned (.bool true) ∧ Below w.heap.size w w' := by
  have H0 : Hid (Calls Tryd.prog 9 #[.slice (some ⟨w.heap.size, 0, none⟩) 1 1] (w.alloc (.cells #[.int .u8 0] 5)) fun e w' => e = .returned (.int .u32 3523407757) ∧ w' = w.alloc (.cells #[.int .u8 0] 5)) := by
    have h := sum_any (some ⟨w.heap.size, 0, none⟩) 1 1 [0] _ rfl (one_zero w) (by omega) (hT.later ((Below.refl _ _).alloc (Nat.le_refl _) _))
    rw [Crc.sum_zero] at h
    exact h
  go_enter Tryd.func3, Tryd.ntmps3
  go_wp2_with (go_at_call 9; refine H0.out.mono ?_; rintro e w' ⟨rfl, rfl⟩)
  clear H0
  have hbA : Below w.heap.size w (w.alloc (.cells #[.int .u8 0] 5)) := (Below.refl _ _).alloc (Nat.le_refl _) _
  obtain ⟨_, _, e1, l1, h1⟩ := hA.at_ (by omega)
  cases e1
  obtain ⟨_, _, e2, l2, h2⟩ := hB.at_ (by omega)
  cases e2
  have byA := hA.byte
  have byB := hB.byte
  generalize hW0 : w.alloc (.cells #[.int .u8 0] 5) = w0 at *
  clear hW0
  go_loopw [5, 6, 7, 8] (fun vx vy vz ii wr => ∃ k : Nat, k ≤ m ∧ ii = .int .i64 (k : Int) ∧ wr.ownsRow w.heap.size 5 1 vx k ((xl za zb k).map (Value.int .u8)) ∧ wr.ownsRow w.heap.size 5 1 vy k ((zb.take k).map (Value.int .u8)) ∧ wr.ownsRow w.heap.size 5 1 vz k ((List.replicate k (0 : Int)).map (Value.int .u8)) ∧ Sep vx vy ∧ Sep vx vz ∧ Sep vy vz ∧ Below w.heap.size w wr) (fun _ _ _ ii _ => m - (intOf ii).toNat)
  case atStart => exact ⟨0, Nat.zero_le _, rfl, World.ownsRow_nil _ _ _ _, World.ownsRow_nil _ _ _ _, World.ownsRow_nil _ _ _ _, (fun g h => by cases h), (fun g h => by cases h), (fun g h => by cases h), hbA⟩
  case round =>
    obtain ⟨k, hk, rfl, hox, hoy, hoz, sxy, sxz, syz, hbel⟩ := hrel
    by_cases hlt : k < m
    · have hka : k < na := by omega
      have hkb : k < nb := by omega
      have ba := byte_of byA k
      have bb := byte_of byB k
      have c1 := (hbel.cell (p := ⟨b1, o1 + k, none⟩) l1).trans (h1 k (by omega))
      have c2 := (hbel.cell (p := ⟨b2, o2 + k, none⟩) l2).trans (h2 k (by omega))
      obtain ⟨x, hx⟩ := Int.eq_ofNat_of_zero_le ba.1
      obtain ⟨y, hy⟩ := Int.eq_ofNat_of_zero_le bb.1
      have HX : Hid (xl za zb (k + 1) = xl za zb k ++ [((x ^^^ y : Nat) : Int)]) := xl_succ za zb k x y (by omega) (by omega) hx hy
      have HYs : Hid (zb.take (k + 1) = zb.take k ++ [(y : Int)]) := by show _ = _; rw [take_succ zb k (by omega), hy]
      rw [hx] at c1
      rw [hy] at c2
      have hxl : x < 256 := by omega
      have hyl : y < 256 := by omega
      have hv := u8_xor_nat x y hxl hyl
      have hka' : (k : Int) < (na : Int) := by omega
      have hkb' : (k : Int) < (nb : Int) := by omega
      generalize x ^^^ y = X at *
      have hsz := hbel.size
      clear hA hB byA byB h1 h2 hx hy ba bb
      have hk1 : k + 1 ≤ 140737488355328 := by omega
      have HBs : Hid (∀ o, w.heap.size ≤ ((wr.alloc o).drew).heap.size) := by intro o; show _ ≤ (wr.alloc o).heap.size; simp; omega
      go_wp2_with fail
      go_region_law (refine step_app rfl (.tmp 32) (.tmp 42) rfl w.heap.size _ k _ rfl (hox.alloc _).drew ⟨wr.heap.size, 0, none⟩ 1 1 [.int .u8 (X : Int)] rfl rfl (cell_one_new _ _ _) (ints_oneCell .u8 [(X : Int)]) hk1 (HBs.out _) ?_; intro v1 w1 hox1 hg1 hn1)
      all_goals
        have hoy1 := ownsRow_kept (hoy.alloc _).drew hg1 sxy
        have hoz1 := ownsRow_kept (hoz.alloc _).drew hg1 sxz
        have sxy1 := sxy.near hn1 (fun g hg => ((hoy.alloc _).drew.lt g hg).2)
        have sxz1 := sxz.near hn1 (fun g hg => ((hoz.alloc _).drew.lt g hg).2)
        have hb1 : Below w.heap.size w w1 := ((hbel.alloc hsz _).drew).grown hg1 (HBs.out _) (fun g hg => (hox.lt g hg).1)
        have hsz1 := hb1.size
        have c21 := (hb1.cell (p := ⟨b2, o2 + k, none⟩) l2).trans ((hbel.cell (p := ⟨b2, o2 + k, none⟩) l2).symm.trans c2)
        clear hox hoy hoz sxy sxz hg1 hn1 c1 c2 hbel hsz HBs
        go_wp2_with (at_builtin; refine wpList_app rfl (.tmp 44) (.tmp 49) rfl w.heap.size _ k _ rfl (hoy1.alloc _) ⟨w1.heap.size, 0, none⟩ 1 1 [.int .u8 (y : Int)] rfl rfl (cell_one_new _ _ _) (ints_oneCell .u8 [(y : Int)]) hk1 (by simp; omega) ?_)
        intro v2 w2 hoy2 hg2 hn2
        have hox2 := ownsRow_kept (hox1.alloc _) hg2 sxy1.symm
        have hoz2 := ownsRow_kept (hoz1.alloc _) hg2 syz
        have sxy2 := (sxy1.symm.near hn2 (fun g hg => ((hox1.alloc _).lt g hg).2)).symm
        have syz2 := syz.near hn2 (fun g hg => ((hoz1.alloc _).lt g hg).2)
        have hb2 : Below w.heap.size w w2 := (hb1.alloc hsz1 _).grown hg2 (by simp; omega) (fun g hg => (hoy1.lt g hg).1)
        have hsz2 := hb2.size
        clear hox1 hoy1 hoz1 sxy1 syz hg2 hn2 c21 hb1 hsz1
        go_wp2_with (at_builtin; refine wpList_app rfl (.tmp 51) (.tmp 52) rfl w.heap.size _ k _ rfl (hoz2.alloc _) ⟨w2.heap.size, 0, none⟩ 1 1 [.int .u8 (0 : Int)] rfl rfl (cell_one_new _ _ _) (ints_oneCell .u8 [(0 : Int)]) hk1 (by simp; omega) ?_)
        intro v3 w3 hoz3 hg3 hn3
        have hox3 := ownsRow_kept (hox2.alloc _) hg3 sxz1.symm
        have hoy3 := ownsRow_kept (hoy2.alloc _) hg3 syz2.symm
        have sxz3 := (sxz1.symm.near hn3 (fun g hg => ((hox2.alloc _).lt g hg).2)).symm
        have syz3 := (syz2.symm.near hn3 (fun g hg => ((hoy2.alloc _).lt g hg).2)).symm
        have hb3 : Below w.heap.size w w3 := (hb2.alloc hsz2 _).grown hg3 (by simp; omega) (fun g hg => (hoz2.lt g hg).1)
        clear hox2 hoy2 hoz2 sxz1 syz2 hg3 hn3 hb2 hsz2
        go_wp2
        go_roundw
        case rel =>
          refine ⟨k + 1, by omega, by go_num, ?_, ?_, ?_, sxy2, sxz3, syz3, hb3⟩
          · rw [HX.out]; simpa using hox3
          · rw [HYs.out]; simpa using hoy3
          · rw [List.replicate_succ']; simpa using hoz3
        case measure => simp [intOf]; omega
    · obtain rfl : k = m := by omega
      have hxb := xl_byte za zb k byA byB
      have hxn := xl_len za zb k (by omega) (by omega)
      have hyn : (zb.take k).length = k := by simp; omega
      have hzn : (List.replicate k (0 : Int)).length = k := by simp
      obtain ⟨px, cx, rfl, hOx⟩ := own_of_row hox hxb
      obtain ⟨py, cy, rfl, hOy⟩ := own_of_row hoy (fun z hz => byB z (List.mem_of_mem_take hz))
      obtain ⟨pz, cz, rfl, hOz⟩ := own_of_row hoz (fun z hz => by rw [(List.mem_replicate.1 hz).2]; omega)
      rw [hxn, hyn, hzn]
      have hbd : ∀ q, Below w.heap.size w (wr.drewN q) := fun q => below_drewN hbel q
      have hself : ∀ q, Below wr.heap.size wr (wr.drewN q) := fun q => below_drewN (Below.refl _ _) q
      have HX : Hid (∀ q, Calls Tryd.prog 9 #[.slice px k cx] (wr.drewN q) fun e w' => e = .returned (.int .u32 (Crc.add 0 (xl za zb k) : Nat)) ∧ w' = wr.drewN q) := fun q => sum_any px k cx _ _ hxn (hOx.bytes.later (hself q)) (by omega) (hT.later (hbd q))
      have HY : Hid (∀ q, Calls Tryd.prog 9 #[.slice py k cy] (wr.drewN q) fun e w' => e = .returned (.int .u32 (Crc.add 0 (zb.take k) : Nat)) ∧ w' = wr.drewN q) := fun q => sum_any py k cy _ _ hyn (hOy.bytes.later (hself q)) (by omega) (hT.later (hbd q))
      have HZ : Hid (∀ q, Calls Tryd.prog 9 #[.slice pz k cz] (wr.drewN q) fun e w' => e = .returned (.int .u32 (Crc.add 0 (List.replicate k 0) : Nat)) ∧ w' = wr.drewN q) := fun q => sum_any pz k cz _ _ hzn (hOz.bytes.later (hself q)) (by omega) (hT.later (hbd q))
      have HA : Hid (∀ q, Calls Tryd.prog 9 #[.slice (some ⟨b1, o1, none⟩) k ca] (wr.drewN q) fun e w' => e = .returned (.int .u32 (Crc.add 0 (za.take k) : Nat)) ∧ w' = wr.drewN q) := fun q => sum_any _ k ca _ _ (by simp; omega) (take_bytes (hA.later (hbd q)) k) (by omega) (hT.later (hbd q))
      have hsum := lin_sum za zb k (by omega) (by omega) byA byB
      have la : Crc.add 0 (za.take k) < 4294967296 := by unfold Crc.add Crc.ones; omega
      have ly : Crc.add 0 (zb.take k) < 4294967296 := by unfold Crc.add Crc.ones; omega
      have lz : Crc.add 0 (List.replicate k 0) < 4294967296 := by unfold Crc.add Crc.ones; omega
      clear hox hoy hoz hOx hOy hOz hA hB h1 h2 byA byB hxb hxn hyn hzn hT hbd hself sxy sxz syz
      generalize Crc.add 0 (xl za zb k) = X at *
      generalize Crc.add 0 (za.take k) = A at *
      generalize Crc.add 0 (zb.take k) = Y at *
      generalize Crc.add 0 (List.replicate k 0) = Z at *
      have hv1 := u32_xor_nat A Y la ly
      have hv2 := u32_xor_nat (A ^^^ Y) Z (Crc.xor_lt32 la ly) lz
      rw [← hsum] at hv2
      clear hsum la ly lz
      generalize A ^^^ Y = P at *
      have hmc : (k : Int) ≤ (ca : Int) := by omega
      have hm0 : (0 : Int) ≤ (k : Int) := by omega
      by_cases hka : k < na
      · have hkb : nb ≤ k := by have := HM.out; omega
        go_wp2_with fail
        go_quiet (first | (go_at_call_of 9 (Value.slice px k cx); exact Calls.quiet_of_same (HX.out _)) | (go_at_call_of 9 (Value.slice py k cy); exact Calls.quiet_of_same (HY.out _)) | (go_at_call_of 9 (Value.slice pz k cz); exact Calls.quiet_of_same (HZ.out _)) | (go_at_call 9; exact Calls.quiet_of_same (HA.out _)))
        go_wp2
        go_ret
        exact ⟨rfl, below_drewN hbel _⟩
      · have hge : na ≤ k := by omega
        go_wp2_with fail
        go_quiet (first | (go_at_call_of 9 (Value.slice px k cx); exact Calls.quiet_of_same (HX.out _)) | (go_at_call_of 9 (Value.slice py k cy); exact Calls.quiet_of_same (HY.out _)) | (go_at_call_of 9 (Value.slice pz k cz); exact Calls.quiet_of_same (HZ.out _)) | (go_at_call 9; exact Calls.quiet_of_same (HA.out _)))
        go_wp2
        go_ret
        exact ⟨rfl, below_drewN hbel _⟩
end Go.Proofs.YtehmifdgfgngdaaDoor
