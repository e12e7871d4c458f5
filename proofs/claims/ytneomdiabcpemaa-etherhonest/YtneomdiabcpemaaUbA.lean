import Derived.Test.YtneomdiabcpemaaUaH
namespace Go.Proofs.Ytneomdiabcpemaa
open Go.RowKit
set_option maxRecDepth 8000
/-- the blocks below B -/
def Lo (B : Nat) (k : Nat) : Prop := k < B
theorem Fr.lo {B : Nat} {w w' : World} (h : Fr (Lo B) w w') (hB : B ≤ w.heap.size) : Below B w w' := But.below h hB fun _ hk e => e hk
theorem src_row (w : World) (x : Int) : Src (w.alloc (.cells #[.int .u8 x] 5)) (some ⟨w.heap.size, 0, none⟩) [x].length 1 1 ([x].map (.int .u8)) := by
  refine .inr ⟨_, rfl, rfl, fun j u hu => ?_⟩
  rw [cell_new, ← hu]
  simp
set_option maxHeartbeats 4000000 in
/-- works -/
theorem works_any (w : World) : Calls Try.prog 8 #[] w fun e w' => e = .returned (.bool true) ∧ Below w.heap.size w w' := by
  have HN := hid (new_any 2 w)
  go_enter Try.func8, Try.ntmps8
  go_wp2_with fail
  refine HN.out.mono ?_
  intro e w1 hq
  obtain ⟨rfl, hs1, hb1, hE⟩ := hq.2 (by omega)
  have hE1 := hE (Lo w.heap.size) (fun k hk => hk)
  obtain ⟨V, hV⟩ : ∃ V, V = w1.alloc (.cells #[.int .u8 5] 5) := ⟨_, rfl⟩
  have hBV : Below w1.heap.size w1 V := by rw [hV]; exact (Below.refl _ _).alloc (Nat.le_refl _) _
  have hEV : EtA V (Lo w.heap.size) w.heap.size 2 [] := hE1.below hBV (fun _ _ h => h)
  have hsr := src_row w1 5
  rw [← hV] at hsr
  have HS := hid (send_any V (Lo w.heap.size) w.heap.size 2 [] hEV (fun k hk => by have hk' : k < w.heap.size := hk; have := hBV.size; omega) 0 1 _ _ [5] hsr (fun z hz => by simp at hz; omega))
  have HV := hid hV
  have HWV := hid (hb1.trans (hBV.mono hb1.size))
  clear hq hE hE1 hBV hEV hsr hV hb1 HN
  go_wp2_with fail
  rw [← HV.out]
  refine HS.out.mono ?_
  rintro e w2 ⟨he, hE2, _, hF2⟩
  obtain rfl : e = .returned (.int .i64 0) := he
  have hE2 := hE2 rfl
  have hB2 : Below w.heap.size w w2 := HWV.out.trans (hF2.lo HWV.out.size)
  have HD := hid (deliver_any w2 (Lo w.heap.size) w.heap.size 2 _ hE2 (fun k hk => by have hk' : k < w.heap.size := hk; have := hB2.size; omega) 0)
  have HB2 := hid hB2
  clear hE2 hF2 hB2 HS HWV
  go_wp2_with fail
  refine HD.out.mono ?_
  intro e w3 hq
  obtain ⟨a, d, ha, rfl, hd, hbx, _, hF⟩ := hq.2 (by unfold inA; simp)
  obtain rfl : a = ⟨0, 1, [5]⟩ := by simpa using ha.symm
  have y0 := hbx.cell 0
  simp [bys] at y0
  have yl := hbx.lt
  have HB3 : Hid (Below w.heap.size w w3) := HB2.out.trans (hF.lo HB2.out.size)
  clear hq ha hbx hF HD
  have HB4 : Hid (Below w.heap.size w (w3.alloc (.cells #[.int .i64 0, .int .i64 1, .slice (some ⟨d, 0, none⟩) 1 1] 32))) := HB3.out.alloc HB3.out.size _
  go_wp2
  exact bodyPost_ret (v := .bool true) (by simp [results, Try.results8, go_sem]) rfl ⟨rfl, HB4.out⟩
/-- n in 0 .. k-1 -/
def modE (n : Int) (k : Int) : Int := n.tmod k % k
theorem modE_in {n k : Int} (hk : 1 ≤ k) : 0 ≤ modE n k ∧ modE n k < k := ⟨Int.emod_nonneg _ (by omega), Int.emod_lt_of_pos _ (by omega)⟩
theorem modE_id {n k : Int} (h0 : 0 ≤ n) (h1 : n < k) : modE n k = n := by
  unfold modE
  rw [Int.tmod_eq_emod_of_nonneg h0, Int.emod_eq_of_lt h0 h1, Int.emod_eq_of_lt h0 h1]
set_option maxHeartbeats 4000000 in
/-- mod -/
theorem mod_any (n k : Int) (w : World) (hk : 1 ≤ k) (hk2 : k ≤ 4611686018427387904) :
    Calls Try.prog 14 #[.int .i64 n, .int .i64 k] w fun e w' => e = .returned (.int .i64 (modE n k)) ∧ w' = w := by
  have h1 : ¬ k < 1 := by omega
  have h0 : ¬ k = 0 := by omega
  have h2 := Int.lt_tmod_of_pos n (show (0 : Int) < k by omega)
  have h3 := Int.tmod_lt_of_pos n (show (0 : Int) < k by omega)
  obtain ⟨a, ha⟩ : ∃ a, a = n.tmod k := ⟨_, rfl⟩
  have h4 := Int.lt_tmod_of_pos (a + k) (show (0 : Int) < k by omega)
  have h5 := Int.tmod_lt_of_pos (a + k) (show (0 : Int) < k by omega)
  rw [← ha] at h2 h3
  go_enter Try.func14, Try.ntmps14
  go_wp2
  exact bodyPost_ret (v := .int .i64 (n.tmod k % k)) (by simp [results, Try.results14, go_sem]) rfl ⟨rfl, rfl⟩
set_option maxHeartbeats 4000000 in
theorem mod0_any (n : Int) (w : World) :
    Calls Try.prog 14 #[.int .i64 n, .int .i64 0] w fun e w' => e = .returned (.int .i64 0) ∧ w' = w := by
  go_enter Try.func14, Try.ntmps14
  go_wp2
  exact bodyPost_ret (v := .int .i64 0) (by simp [results, Try.results14, go_sem]) rfl ⟨rfl, rfl⟩
end Go.Proofs.Ytneomdiabcpemaa
