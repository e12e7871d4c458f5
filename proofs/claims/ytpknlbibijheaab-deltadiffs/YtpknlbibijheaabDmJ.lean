import Derived.Test.YtpknlbibijheaabPack20
namespace Go.Proofs.Ytpknlbibijheaab
open Go.RowKit
set_option maxRecDepth 8000

/-- a state in a row -/
def elS : El (Int × LT VT) where
  ty := 24
  size := 2
  cells := fun d => [.int .i64 d.1, .slice d.2.p d.2.n d.2.c]
  len := fun _ => rfl
  one := fun x u hu => by
    simp only [List.mem_cons, List.not_mem_nil, or_false] at hu
    rcases hu with rfl | rfl <;> rfl
  In := fun w S d => (-9223372036854775808 ≤ d.1 ∧ d.1 ≤ 9223372036854775807) ∧ LT.In elCell w S d.2
  kept := fun h hs hb => ⟨h.1, h.2.kept hs hb⟩
  mono := fun h hb => ⟨h.1, h.2.mono hb⟩
set_option maxHeartbeats 2000000 in
/-- States -/
theorem szStates_any (l : LT (Int × LT VT)) (w : World) (S : Nat → Prop) (hin : LT.In elS w S l) (hS : ∀ b, S b → b < w.heap.size) :
    Calls Try.prog 4 #[.slice l.p l.n l.c] w fun e w' => ∃ q, e = .returned (.bool q) ∧ (q = true → ∀ j, j < l.n → CSz (l.item j).2) ∧ Below w.heap.size w w' := by
  have hb0 : Below w.heap.size w (w.alloc (.cells #[.int .i64 10000] 66)) := (Below.refl _ _).alloc (Nat.le_refl _) _
  have HB0 := hid hb0
  have HX0 : Hid (Box (w.alloc (.cells #[.int .i64 10000] 66)) w.heap.size #[.int .i64 10000] 66) := Box.new _ _ _
  have HI := hid (hin.below hb0)
  have HS : Hid (¬ S w.heap.size) := fun h => absurd (hS _ h) (by omega)
  have hnn := hin.nn
  clear hin hS hb0
  go_enter Try.func4, Try.ntmps4
  go_wp2_with (go_at_call 10; refine (szNew_any _).mono ?_; rintro e w1 ⟨rfl, rfl⟩)
  go_loopw [4] (fun x wr => ∃ k : Nat, k ≤ l.n ∧ x = .int .i64 (k : Int) ∧ ∃ m : Int, m ≤ 10000 ∧ Box wr w.heap.size #[.int .i64 m] 66 ∧ (0 ≤ m → ∀ q, q < k → CSz (l.item q).2) ∧ But (fun k => k = w.heap.size) (w.alloc (.cells #[.int .i64 10000] 66)) wr) (fun x _ => l.n - (intOf x).toNat)
  case atStart => exact ⟨0, Nat.zero_le _, rfl, 10000, by omega, HX0.out, fun _ q hq => absurd hq (by omega), But.refl _ _⟩
  case round =>
    obtain ⟨k, hk, rfl, m, hm, hbm, hq, hkm⟩ := hrel
    have HO := hid (szOk_any wr w.heap.size m hbm)
    have HQ := hid hq
    have HBm := hid hbm
    have HK := hid hkm
    clear hq
    by_cases hlt : k < l.n
    · have hlt' : (k : Int) < (l.n : Int) := by omega
      by_cases hm0 : 0 ≤ m
      · have hd : decide (0 ≤ m) = true := decide_eq_true hm0
        rw [hd] at HO
        obtain ⟨bb, o, hp, hSb, hbl, hat⟩ := HI.out.at_ (show 0 < l.n by omega)
        have hne : bb ≠ w.heap.size := fun e => HS.out (e ▸ hSb)
        have hca : ∀ r v, (elS.cells (l.item k))[r]? = some v → wr.cell? ⟨bb, o + k * 2 + r, none⟩ = some v := fun r v hv => (World.cell?_of_block (a := ⟨bb, o + k * 2 + r, none⟩) (hkm.block bb hbl hne)).trans (hat k hlt r v hv)
        have c1 := hca 1 _ rfl
        have hbl2 : bb < wr.heap.size := Nat.lt_of_lt_of_le hbl hkm.size
        have hi : LT.In elCell (w.alloc (.cells #[.int .i64 10000] 66)) S (l.item k).2 := (HI.out.each k hlt).2
        have HC := hid (szCells_all (l.item k).2 wr S w.heap.size m (hi.kept hkm.size (fun b hb hl => hkm.block b hl (fun e => HS.out (e ▸ hb)))) HS.out hbm (by omega) hm)
        rw [hp]
        clear hat hca hkm hi hbm hd
        go_wp2_with (first | (go_at_call 11; refine HO.out.mono ?_; rintro e w2 ⟨rfl, rfl⟩))
        refine HC.out.mono ?_
        rintro e w3 ⟨rfl, m', hb3, ht3, hk3⟩
        go_wp2
        go_roundw
        case rel =>
          refine ⟨k + 1, by omega, by go_num, m', by have := ht3.le; omega, hb3, fun h0 q hq => ?_, HK.out.trans hk3⟩
          by_cases hqk : q < k
          · exact HQ.out hm0 q hqk
          · obtain rfl : q = k := by omega
            have a1 := ht3.ok h0
            exact CSz.of (by omega)
        case measure => simp [intOf]; omega
      · have hd : decide (0 ≤ m) = false := decide_eq_false hm0
        rw [hd] at HO
        clear hd hkm hbm
        go_wp2_with (first | (go_at_call 11; refine HO.out.mono ?_; rintro e w2 ⟨rfl, rfl⟩))
        exact bodyPost_ret (v := .bool false) (by simp [results, Try.results4, go_sem]) rfl ⟨false, rfl, fun h => (by cases h), HB0.out.trans (HK.out.below HB0.out.size fun k hk => by omega)⟩
    · obtain rfl : k = l.n := by omega
      clear hkm hbm
      go_wp2_with (first | (go_at_call 11; refine HO.out.mono ?_; rintro e w2 ⟨rfl, rfl⟩))
      exact bodyPost_ret (v := .bool (decide (0 ≤ m))) (by simp [results, Try.results4, go_sem]) rfl ⟨_, rfl, fun h j hj => HQ.out (of_decide_eq_true h) j hj, HB0.out.trans (HK.out.below HB0.out.size fun k hk => by omega)⟩
end Go.Proofs.Ytpknlbibijheaab
