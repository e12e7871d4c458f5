import Derived.Test.YtoefbcagokgfcaaUaG
namespace Go.Proofs.Ytoefbcagokgfcaa
open Go.RowKit
set_option maxRecDepth 8000
theorem set3_take (cs : Array Value) (n k : Nat) (hs : cs.size = n * 3) (hk : k < n) (a0 a1 a2 : Value) :
    (((cs.setIfInBounds (k * 3) a0).setIfInBounds (k * 3 + 1) a1).setIfInBounds (k * 3 + 2) a2).toList.take ((k + 1) * 3) = cs.toList.take (k * 3) ++ [a0, a1, a2] := by
  apply List.ext_getElem?
  intro j
  rw [List.getElem?_take]
  by_cases hj : j < k * 3
  · rw [if_pos (by omega), List.getElem?_append_left (by simp; omega), List.getElem?_take, if_pos hj]
    simp only [Array.toList_setIfInBounds]
    rw [List.getElem?_set_ne (by omega), List.getElem?_set_ne (by omega), List.getElem?_set_ne (by omega)]
  · rw [List.getElem?_append_right (by simp; omega)]
    have hl : (cs.toList.take (k * 3)).length = k * 3 := by simp; omega
    rw [hl]
    simp only [Array.toList_setIfInBounds]
    by_cases h0 : j = k * 3
    · subst h0
      rw [if_pos (by omega), List.getElem?_set_ne (by omega), List.getElem?_set_ne (by omega), List.getElem?_set_self (by simp; omega)]
      simp
    · by_cases h1 : j = k * 3 + 1
      · subst h1
        rw [if_pos (by omega), List.getElem?_set_ne (by omega), List.getElem?_set_self (by simp; omega)]
        simp
      · by_cases h2 : j = k * 3 + 2
        · subst h2
          rw [if_pos (by omega), List.getElem?_set_self (by simp; omega)]
          simp
        · rw [if_neg (by omega), List.getElem?_eq_none (by simp; omega)]
/-- flights in memory, as they are answered -/
structure LsI (w : World) (base g : Nat) (U : List FL) : Prop where
  bx : Box w g (U.flatMap FL.cells).toArray 32
  dat : ∀ x ∈ U, Box w x.d (bys x.zs) 5
  new : base ≤ g ∧ ∀ x ∈ U, base ≤ x.d
  pw : U.Pairwise (fun x y => x.d ≠ y.d)
/-- the answer while it is filled -/
structure LsR (w0 wr : World) (n k : Nat) (A : List FA) (U : List FL) (cs : Array Value) : Prop where
  bx : Box wr w0.heap.size cs 32
  sz : cs.size = n * 3
  tk : cs.toList.take (k * 3) = U.flatMap FL.cells
  al : U.map FL.a = A.take k
  dat : ∀ x ∈ U, Box wr x.d (bys x.zs) 5
  new : ∀ x ∈ U, w0.heap.size ≤ x.d
  pw : U.Pairwise (fun x y => x.d ≠ y.d)
  bel : Below w0.heap.size w0 wr
def ListQ (w : World) (A : List FA) (e : Ending) (w' : World) : Prop :=
  ∃ (g : Nat) (U : List FL), e = .returned (.slice (some ⟨g, 0, none⟩) A.length A.length) ∧ U.map FL.a = A ∧ LsI w' w.heap.size g U ∧ Below w.heap.size w w'
set_option maxHeartbeats 4000000 in
/-- List -/
theorem list_any (w : World) (Z : Nat → Prop) (b : Nat) (m : Int) (A : List FA) (hA : EtA w Z b m A) :
    Calls Try.prog 13 #[.pointer (some ⟨b, 0, none⟩)] w fun e w' => ListQ w A e w' := by
  obtain ⟨i0, Kd⟩ := kindFl
  obtain ⟨v, L, hI, hAL⟩ := hA
  obtain ⟨n, hn⟩ : ∃ n, n = L.length := ⟨_, rfl⟩
  have hlen := hI.len
  rw [← hn] at hlen
  obtain ⟨M, hM⟩ : ∃ M, M = madeCells (Value.agg #[.int .i64 0, .int .i64 0, .slice none 0 0]).cells (((n : Nat) : Int).toNat * i0.size) := ⟨_, rfl⟩
  have hMs : M.size = n * 3 := by rw [hM, size_madeCells, Kd.hsize]; simp
  have hmk : ∀ W : World, (Instr.makeSlice 36 (.int .i64 (n : Int)) (.int .i64 (n : Int))).run Try.prog W = .ok (.slice (some ⟨W.heap.size, 0, none⟩) n n) (W.alloc (.cells M 32)) := fun W => by
    have h := run_make (P := Try.prog) W 36 32 i0 _ Kd.ht Kd.hi Kd.hz .i64 .i64 (n : Int) (n : Int) (by omega) (by omega) (by rw [Kd.hby]; omega) (by omega)
    rw [← hM] at h
    simpa using h
  obtain ⟨p0, c0, hv⟩ := hI.row.slice
  rw [← hn] at hv
  have b1 := hI.bx.cell 1
  simp [hv] at b1
  have bl := hI.bx.lt
  have hB0 : Below w.heap.size w (w.alloc (.cells M 32)) := (Below.refl _ _).alloc (Nat.le_refl _) _
  have b1' : (w.alloc (.cells M 32)).cell? ⟨b, 1, none⟩ = some (.slice p0 n c0) := (World.cell?_of_block (a := ⟨b, 1, none⟩) (hB0.block b bl)).trans b1
  have H0 : Hid (LsR w (w.alloc (.cells M 32)) n 0 A [] M) := ⟨Box.new w M 32, hMs, by simp, by simp, fun x hx => (by cases hx), fun x hx => (by cases hx), .nil, hB0⟩
  have hnA : A.length = n := by rw [hn, ← hAL]; simp
  have HI := hid hI
  have HAL := hid hAL
  have HN := hid hn
  have HV := hid hv
  have HNA := hid hnA
  clear hI hAL hn hv hM hMs Kd hB0 hnA
  go_enter Try.func13, Try.ntmps13
  go_wp2_with fail
  go_loopw [17] (fun x wr => ∃ (k : Nat) (U : List FL) (cs : Array Value), k ≤ n ∧ x = .int .i64 (k : Int) ∧ LsR w wr n k A U cs) (fun x _ => n - (intOf x).toNat)
  case atStart => exact ⟨0, [], M, Nat.zero_le _, rfl, H0.out⟩
  case round =>
    obtain ⟨k, U, cs, hk, rfl, hR⟩ := hrel
    have HR := hid hR
    clear hR H0 hmk b1 b1'
    by_cases hlt : k < n
    · have hlt' : (k : Int) < (n : Int) := by omega
      obtain ⟨x, hx⟩ : ∃ x, L[k]? = some x := ⟨_, List.getElem?_eq_getElem (by rw [← HN.out]; exact hlt)⟩
      have hmem : x ∈ L := List.mem_of_getElem? hx
      have hIr := HI.out.below HR.out.bel
      obtain ⟨g, cap, hv, hcap, hgl, c0, c1, c2, _⟩ := hIr.get hx
      have hp0 : p0 = some ⟨g, 0, none⟩ := by
        have h1 := HV.out
        rw [hv] at h1
        cases h1
        rfl
      rw [hp0]
      obtain ⟨V, hV⟩ : ∃ V, V = wr.alloc (.cells #[.int .i64 x.fr, .int .i64 x.tt, .slice (some ⟨x.d, 0, none⟩) x.zs.length x.zs.length] 32) := ⟨_, rfl⟩
      have hBV : Below wr.heap.size wr V := by rw [hV]; exact (Below.refl _ _).alloc (Nat.le_refl _) _
      have hX : Box V wr.heap.size #[.int .i64 x.fr, .int .i64 x.tt, .slice (some ⟨x.d, 0, none⟩) x.zs.length x.zs.length] 32 := by rw [hV]; exact Box.new _ _ _
      have HCp := hid (copied_any x.fr x.tt _ _ x.zs V ((hIr.below hBV).src hmem) (by have := hIr.sz x hmem; omega))
      have y0 := hX.cell 0
      have y1 := hX.cell 1
      have y2 := hX.cell 2
      simp at y0 y1 y2
      have yl := hX.lt
      have HV := hid hV
      have HBV := hid hBV
      have HX := hid hx
      clear hV hBV hX hx hmem hIr hv hp0
      go_upto_region 5 with fail
      rw [← HV.out]
      go_wp2_with fail
      refine HCp.out.mono ?_
      rintro e w2 ⟨d, rfl, hd, hbd, hb2⟩
      have hB2 : Below wr.heap.size wr w2 := HBV.out.trans (hb2.mono HBV.out.size)
      have hbx2 := HR.out.bx.below hB2
      have hsz := HR.out.sz
      have q0 := hbx2.cell (k * 3)
      have q1 := hbx2.cell (k * 3 + 1)
      have q2 := hbx2.cell (k * 3 + 2)
      rw [Array.getElem?_eq_getElem (by omega)] at q0 q1 q2
      obtain ⟨r0, hr0⟩ : ∃ r, r = cs[k * 3]'(by omega) := ⟨_, rfl⟩
      obtain ⟨r1, hr1⟩ : ∃ r, r = cs[k * 3 + 1]'(by omega) := ⟨_, rfl⟩
      obtain ⟨r2, hr2⟩ : ∃ r, r = cs[k * 3 + 2]'(by omega) := ⟨_, rfl⟩
      rw [← hr0] at q0
      rw [← hr1] at q1
      rw [← hr2] at q2
      have f0 := hbx2.frozen (k * 3)
      have f1 := hbx2.frozen (k * 3 + 1)
      have f2 := hbx2.frozen (k * 3 + 2)
      have gl := hbx2.lt
      have HN2 : Hid (LsR w (((w2.setCell ⟨w.heap.size, k * 3, none⟩ (.int .i64 x.fr)).setCell ⟨w.heap.size, k * 3 + 1, none⟩ (.int .i64 x.tt)).setCell ⟨w.heap.size, k * 3 + 2, none⟩ (.slice (some ⟨d, 0, none⟩) x.zs.length x.zs.length)) n (k + 1) A (U ++ [⟨x.fr, x.tt, d, x.zs⟩]) (((cs.setIfInBounds (k * 3) (.int .i64 x.fr)).setIfInBounds (k * 3 + 1) (.int .i64 x.tt)).setIfInBounds (k * 3 + 2) (.slice (some ⟨d, 0, none⟩) x.zs.length x.zs.length))) := by
        have hbt : But (fun q => q = w.heap.size) w2 (((w2.setCell ⟨w.heap.size, k * 3, none⟩ (.int .i64 x.fr)).setCell ⟨w.heap.size, k * 3 + 1, none⟩ (.int .i64 x.tt)).setCell ⟨w.heap.size, k * 3 + 2, none⟩ (.slice (some ⟨d, 0, none⟩) x.zs.length x.zs.length)) := (((But.one w2 w.heap.size).setAt _ _).setAt _ _).setAt _ _
        have hwl : w.heap.size < wr.heap.size := HR.out.bx.lt
        have hVl := HBV.out.size
        refine ⟨((hbx2.set _ _).set _ _).set _ _, by simp [hsz], ?_, ?_, ?_, ?_, ?_, ?_⟩
        · rw [set3_take cs n k hsz hlt, HR.out.tk, List.flatMap_append]
          simp [FL.cells]
        · rw [List.map_append, HR.out.al, List.take_add_one]
          congr 1
          rw [← HAL.out]
          simp [HX.out, FL.a]
        · intro y hy
          rcases List.mem_append.1 hy with hy | hy
          · have h1 := HR.out.dat y hy
            refine (h1.below hB2).but hbt fun e => ?_
            have e' : y.d = w.heap.size := e
            rw [e'] at h1
            have := box_ty h1 HR.out.bx
            cases this
          · obtain rfl : y = ⟨x.fr, x.tt, d, x.zs⟩ := by simpa using hy
            exact hbd.but hbt (show ¬ d = w.heap.size by omega)
        · intro y hy
          rcases List.mem_append.1 hy with hy | hy
          · exact HR.out.new y hy
          · obtain rfl : y = ⟨x.fr, x.tt, d, x.zs⟩ := by simpa using hy
            show w.heap.size ≤ d
            omega
        · rw [List.pairwise_append]
          refine ⟨HR.out.pw, by simp, fun y hy q hq => ?_⟩
          obtain rfl : q = ⟨x.fr, x.tt, d, x.zs⟩ := by simpa using hq
          have := (HR.out.dat y hy).lt
          show y.d ≠ d
          omega
        · exact (HR.out.bel.trans (hB2.mono HR.out.bel.size)).trans (hbt.below (by have := hB2.size; omega) fun q hq e => by have e' : q = w.heap.size := e; omega)
      clear hB2 hbx2 hd hbd hb2 hr0 hr1 hr2 HCp y0 y1 y2 c0 c1 c2
      go_wp2
      go_roundw
      case rel => exact ⟨k + 1, _, _, by omega, by go_num, HN2.out⟩
      case measure => simp [intOf]; omega
    · obtain rfl : k = n := by omega
      go_wp2
      refine bodyPost_ret (v := .slice (some ⟨w.heap.size, 0, none⟩) k k) (by simp [results, Try.results13, go_sem]) rfl ⟨w.heap.size, U, by rw [HNA.out], ?_, ⟨?_, HR.out.dat, ⟨Nat.le_refl _, HR.out.new⟩, HR.out.pw⟩, HR.out.bel⟩
      · rw [HR.out.al, List.take_of_length_le (by rw [HNA.out]; exact Nat.le_refl _)]
      · have h1 := HR.out.tk
        rw [List.take_of_length_le (by simp [HR.out.sz])] at h1
        rw [← h1]
        exact HR.out.bx
end Go.Proofs.Ytoefbcagokgfcaa

namespace Go.Proofs.Ytoefbcagokgfcaa
open Go.RowKit
set_option maxRecDepth 8000
/-- the blocks below B -/
def Lo (B : Nat) (k : Nat) : Prop := k < B
theorem Fr.lo {B : Nat} {w w' : World} (h : Fr (Lo B) w w') (hB : B ≤ w.heap.size) : Below B w w' := But.below h hB fun _ hk e => e hk
theorem src_row (w : World) (x : Int) : Src (w.alloc (.cells #[.int .u8 x] 5)) (some ⟨w.heap.size, 0, none⟩) [x].length 1 1 ([x].map (.int .u8)) := by
  refine .inr ⟨_, rfl, rfl, fun j u hu => ?_⟩
  rw [cell_new, ← hu]
  simp
set_option maxHeartbeats 4000000 in
/-- works -/
theorem works_any (w : World) : Calls Try.prog 8 #[] w fun e w' => e = .returned (.bool true) ∧ Below w.heap.size w w' := by
  have HN := hid (new_any 2 w)
  go_enter Try.func8, Try.ntmps8
  go_wp2_with fail
  refine HN.out.mono ?_
  intro e w1 hq
  obtain ⟨rfl, hs1, hb1, hE⟩ := hq.2 (by omega)
  have hE1 := hE (Lo w.heap.size) (fun k hk => hk)
  obtain ⟨V, hV⟩ : ∃ V, V = w1.alloc (.cells #[.int .u8 5] 5) := ⟨_, rfl⟩
  have hBV : Below w1.heap.size w1 V := by rw [hV]; exact (Below.refl _ _).alloc (Nat.le_refl _) _
  have hEV : EtA V (Lo w.heap.size) w.heap.size 2 [] := hE1.below hBV (fun _ _ h => h)
  have hsr := src_row w1 5
  rw [← hV] at hsr
  have HS := hid (send_any V (Lo w.heap.size) w.heap.size 2 [] hEV (fun k hk => by have hk' : k < w.heap.size := hk; have := hBV.size; omega) 0 1 _ _ [5] hsr (fun z hz => by simp at hz; omega))
  have HV := hid hV
  have HWV := hid (hb1.trans (hBV.mono hb1.size))
  clear hq hE hE1 hBV hEV hsr hV hb1 HN
  go_wp2_with fail
  rw [← HV.out]
  refine HS.out.mono ?_
  rintro e w2 ⟨he, hE2, _, hF2⟩
  obtain rfl : e = .returned (.int .i64 0) := he
  have hE2 := hE2 rfl
  have hB2 : Below w.heap.size w w2 := HWV.out.trans (hF2.lo HWV.out.size)
  have HD := hid (deliver_any w2 (Lo w.heap.size) w.heap.size 2 _ hE2 (fun k hk => by have hk' : k < w.heap.size := hk; have := hB2.size; omega) 0)
  have HB2 := hid hB2
  clear hE2 hF2 hB2 HS HWV
  go_wp2_with fail
  refine HD.out.mono ?_
  intro e w3 hq
  obtain ⟨a, d, ha, rfl, hd, hbx, _, hF⟩ := hq.2 (by unfold inA; simp)
  obtain rfl : a = ⟨0, 1, [5]⟩ := by simpa using ha.symm
  have y0 := hbx.cell 0
  simp [bys] at y0
  have yl := hbx.lt
  have HB3 : Hid (Below w.heap.size w w3) := HB2.out.trans (hF.lo HB2.out.size)
  clear hq ha hbx hF HD
  have HB4 : Hid (Below w.heap.size w (w3.alloc (.cells #[.int .i64 0, .int .i64 1, .slice (some ⟨d, 0, none⟩) 1 1] 32))) := HB3.out.alloc HB3.out.size _
  go_wp2
  exact bodyPost_ret (v := .bool true) (by simp [results, Try.results8, go_sem]) rfl ⟨rfl, HB4.out⟩
/-- n in 0 .. k-1 -/
def modE (n : Int) (k : Int) : Int := n.tmod k % k
theorem modE_in {n k : Int} (hk : 1 ≤ k) : 0 ≤ modE n k ∧ modE n k < k := ⟨Int.emod_nonneg _ (by omega), Int.emod_lt_of_pos _ (by omega)⟩
theorem modE_id {n k : Int} (h0 : 0 ≤ n) (h1 : n < k) : modE n k = n := by
  unfold modE
  rw [Int.tmod_eq_emod_of_nonneg h0, Int.emod_eq_of_lt h0 h1, Int.emod_eq_of_lt h0 h1]
set_option maxHeartbeats 4000000 in
/-- mod -/
theorem mod_any (n k : Int) (w : World) (hk : 1 ≤ k) (hk2 : k ≤ 4611686018427387904) :
    Calls Try.prog 14 #[.int .i64 n, .int .i64 k] w fun e w' => e = .returned (.int .i64 (modE n k)) ∧ w' = w := by
  have h1 : ¬ k < 1 := by omega
  have h0 : ¬ k = 0 := by omega
  have h2 := Int.lt_tmod_of_pos n (show (0 : Int) < k by omega)
  have h3 := Int.tmod_lt_of_pos n (show (0 : Int) < k by omega)
  obtain ⟨a, ha⟩ : ∃ a, a = n.tmod k := ⟨_, rfl⟩
  have h4 := Int.lt_tmod_of_pos (a + k) (show (0 : Int) < k by omega)
  have h5 := Int.tmod_lt_of_pos (a + k) (show (0 : Int) < k by omega)
  rw [← ha] at h2 h3
  go_enter Try.func14, Try.ntmps14
  go_wp2
  exact bodyPost_ret (v := .int .i64 (n.tmod k % k)) (by simp [results, Try.results14, go_sem]) rfl ⟨rfl, rfl⟩
set_option maxHeartbeats 4000000 in
theorem mod0_any (n : Int) (w : World) :
    Calls Try.prog 14 #[.int .i64 n, .int .i64 0] w fun e w' => e = .returned (.int .i64 0) ∧ w' = w := by
  go_enter Try.func14, Try.ntmps14
  go_wp2
  exact bodyPost_ret (v := .int .i64 0) (by simp [results, Try.results14, go_sem]) rfl ⟨rfl, rfl⟩
end Go.Proofs.Ytoefbcagokgfcaa
