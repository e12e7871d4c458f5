import Derived.Test.YtckopbkhpbhljaaPack3
namespace Go.Proofs.Ytckopbkhpbhljaa
open Go.RowKit
set_option maxRecDepth 8000
theorem kindLV : ∃ i, Kind 58 60 i (.agg #[.int .i64 0, .int .i64 0, .string ⟨#[]⟩, .slice none 0 0]) 4 56 := by
  obtain ⟨i0, hi, hz0, hz1, hz2⟩ := info_parts (show (Try.prog.info? 60).map (fun i => (i.zero, i.size, i.bytes)) = some (some (.agg #[.int .i64 0, .int .i64 0, .string ⟨#[]⟩, .slice none 0 0]), 4, 56) by kernel_rfl)
  exact ⟨i0, Try.underlying58, hi, hz0, hz1, hz2, rfl, by decide⟩
set_option maxHeartbeats 2000000 in
theorem flV (Al : VT → VT → Prop) (l : LT VT) (w : World) (S : Nat → Prop) (hin : LT.In elVal w S l) (hn : l.n ≤ 10000)
    (hc : ∀ j, j < l.n → ∀ W, Below w.heap.size w W → Calls Try.prog 81 #[.agg #[.int .i64 (l.item j).kind, .int .i64 (l.item j).int, .string (l.item j).text, .slice (l.item j).p (l.item j).n (l.item j).c]] W fun e w' => ∃ u : VT, e = .returned (.agg #[.int .i64 u.kind, .int .i64 u.int, .string u.text, .slice u.p u.n u.c]) ∧ Al (l.item j) u ∧ (elVal).In w' (fun b => W.heap.size ≤ b) u ∧ Below W.heap.size W w') :
    Calls Try.prog 80 #[.slice l.p l.n l.c, .func (.func 81) #[] #[]] w fun e w' => ∃ u : LT VT, e = .returned (.slice u.p u.n u.c) ∧ u.n = l.n ∧ (∀ j, j < l.n → Al (l.item j) (u.item j)) ∧ LT.In elVal w' (fun b => w.heap.size ≤ b) u ∧ Below w.heap.size w w' := by
  obtain ⟨i0, Kd⟩ := kindLV
  have HI := hid hin
  have HC := hid hc
  clear hin hc
  by_cases h0 : l.n = 0
  · go_enter Try.func80, Try.ntmps80
    go_wp2
    refine bodyPost_ret (v := .slice none 0 0) (by simp [results, Try.results80, go_sem]) rfl ⟨⟨none, 0, 0, l.item⟩, rfl, h0.symm, fun j hj => absurd hj (by omega), LT.In.none_ _ _ _ _ _ _ (Nat.zero_le _) (fun _ => rfl), Below.refl _ _⟩
  · obtain ⟨M, hM⟩ : ∃ M, M = madeCells (Value.agg #[.int .i64 0, .int .i64 0, .string ⟨#[]⟩, .slice none 0 0]).cells (((l.n : Nat) : Int).toNat * i0.size) := ⟨_, rfl⟩
    have hMs : M.size = l.n * 4 := by rw [hM, size_madeCells, Kd.hsize]; simp
    have hmk : ∀ W : World, (Instr.makeSlice 58 (.int .i64 (l.n : Int)) (.int .i64 (l.n : Int))).run Try.prog W = .ok (.slice (some ⟨W.heap.size, 0, none⟩) l.n l.n) (W.alloc (.cells M 60)) := fun W => by
      have h := run_make (P := Try.prog) W 58 60 i0 (.agg #[.int .i64 0, .int .i64 0, .string ⟨#[]⟩, .slice none 0 0]) Kd.ht Kd.hi Kd.hz .i64 .i64 (l.n : Int) (l.n : Int) (by omega) (by omega) (by rw [Kd.hby]; omega) (by omega)
      rw [← hM] at h
      simpa using h
    clear hM
    obtain ⟨bb, o, hp, hSb, hbl, hat⟩ := HI.out.at_ (by omega)
    have HA := hid hat
    have HR0 : Hid (∀ g, RowK elVal (w.alloc (.cells M 60)) w.heap.size l.n 0 g M) := fun g => ⟨Box.new w M 60, hMs, fun j hj => absurd hj (by omega)⟩
    clear hat hMs
    rw [hp]
    have h0' : ((l.n : Int) == 0) = false := by simp; omega
    go_enter Try.func80, Try.ntmps80
    go_wp2_with fail
    go_loopw [16] (fun x wr => ∃ (k : Nat) (g : Nat → VT) (cs : Array Value), k ≤ l.n ∧ x = .int .i64 (k : Int) ∧ RowK elVal wr w.heap.size l.n k g cs ∧ (∀ q, q < k → Al (l.item q) (g q) ∧ (elVal).In wr (fun b => w.heap.size + 1 ≤ b) (g q)) ∧ Below w.heap.size w wr) (fun x _ => l.n - (intOf x).toNat)
    case atStart => exact ⟨0, l.item, M, Nat.zero_le _, rfl, HR0.out _, fun q hq => absurd hq (by omega), (Below.refl _ _).alloc (Nat.le_refl _) _⟩
    case round =>
      obtain ⟨k, g, cs, hk, rfl, hR, hal, hbel⟩ := hrel
      have HR := hid hR
      have HAl := hid hal
      have HB := hid hbel
      have hL := hR.box.lt
      clear hR hal hbel hmk HR0
      by_cases hlt : k < l.n
      · have hlt' : (k : Int) < (l.n : Int) := by omega
        have hcell : ∀ r u, ((elVal).cells (l.item k))[r]? = some u → wr.cell? ⟨bb, o + k * 4 + r, none⟩ = some u := fun r u hu => (World.cell?_of_block (a := ⟨bb, o + k * 4 + r, none⟩) (HB.out.block bb hbl)).trans (HA.out k hlt r u hu)
        have c0 : wr.cell? ⟨bb, o + k * 4, none⟩ = some (.int .i64 (l.item k).kind) := hcell 0 _ rfl
        have c1 : wr.cell? ⟨bb, o + k * 4 + 1, none⟩ = some (.int .i64 (l.item k).int) := hcell 1 _ rfl
        have c2 : wr.cell? ⟨bb, o + k * 4 + 2, none⟩ = some (.string (l.item k).text) := hcell 2 _ rfl
        have c3 : wr.cell? ⟨bb, o + k * 4 + 3, none⟩ = some (.slice (l.item k).p (l.item k).n (l.item k).c) := hcell 3 _ rfl
        clear hcell
        have HC1 := hid (HC.out k hlt)
        go_wp2_with fail
        refine (HC1.out _ ?_).mono ?_
        · exact HB.out.alloc (Nat.le_of_lt hL) _
        rintro e w4 ⟨u, rfl, hal4, hin4, hb4⟩
        have hbW : Below wr.heap.size wr w4 := ((Below.refl wr.heap.size wr).alloc (Nat.le_refl _) _).trans (hb4.mono (by simp))
        have hR4 := HR.out.kept (hbW.block _ hL)
        have hal5 : ∀ q, q < k → Al (l.item q) (g q) ∧ (elVal).In w4 (fun b => w.heap.size + 1 ≤ b) (g q) := fun q hq => ⟨(HAl.out q hq).1, (elVal).kept (HAl.out q hq).2 hbW.size (fun b _ hl => hbW.block b hl)⟩
        have hu4 : (elVal).In w4 (fun b => w.heap.size + 1 ≤ b) u := (elVal).mono hin4 (fun b hb _ => by have : wr.heap.size ≤ b := Nat.le_trans (by simp) hb; omega)
        have HU := hid (And.intro hal4 (And.intro hu4 (And.intro hal5 (And.intro hbW hR4))))
        have hL4 := hR4.box.lt
        obtain ⟨z0, hz0⟩ : ∃ x, w4.cell? ⟨w.heap.size, k * 4, none⟩ = some x := hR4.some_ hlt 0 (by decide)
        have f0 := hR4.box.frozen (k * 4)
        obtain ⟨z1, hz1⟩ : ∃ x, w4.cell? ⟨w.heap.size, k * 4 + 1, none⟩ = some x := hR4.some_ hlt 1 (by decide)
        have f1 := hR4.box.frozen (k * 4 + 1)
        obtain ⟨z2, hz2⟩ : ∃ x, w4.cell? ⟨w.heap.size, k * 4 + 2, none⟩ = some x := hR4.some_ hlt 2 (by decide)
        have f2 := hR4.box.frozen (k * 4 + 2)
        obtain ⟨z3, hz3⟩ : ∃ x, w4.cell? ⟨w.heap.size, k * 4 + 3, none⟩ = some x := hR4.some_ hlt 3 (by decide)
        have f3 := hR4.box.frozen (k * 4 + 3)
        clear hal4 hu4 hal5 hbW hR4 hin4 hb4 HC1 HAl HR c0 c1 c2 c3
        go_wp2
        go_roundw
        case rel =>
          obtain ⟨hal4, hu4, hal5, hbW, hR4⟩ := HU.out
          have hk : But (fun x => x = w.heap.size) w4 (((((w4.setCell ⟨w.heap.size, k * 4, none⟩ (.int .i64 u.kind)).setCell ⟨w.heap.size, k * 4 + 1, none⟩ (.int .i64 u.int)).setCell ⟨w.heap.size, k * 4 + 2, none⟩ (.string u.text)).setCell ⟨w.heap.size, k * 4 + 3, none⟩ (.slice u.p u.n u.c))) := (((((But.one w4 w.heap.size).setAt (k * 4) _).setAt (k * 4 + 1) _).setAt (k * 4 + 2) _).setAt (k * 4 + 3) _)
          refine ⟨k + 1, _, _, by omega, by go_num, hR4.step (x := u) hlt ?_, fun q hq => ?_, ?_⟩
          · exact ((((hR4.box.set (k * 4) _).set (k * 4 + 1) _).set (k * 4 + 2) _).set (k * 4 + 3) _)
          · by_cases hq2 : q < k
            · rw [if_pos hq2]
              exact ⟨(hal5 q hq2).1, (elVal).kept (hal5 q hq2).2 hk.size (fun b hb hl => hk.block b hl (by omega))⟩
            · rw [if_neg hq2]
              obtain rfl : q = k := by omega
              exact ⟨hal4, (elVal).kept hu4 hk.size (fun b hb hl => hk.block b hl (by omega))⟩
          · exact (HB.out.trans (hbW.mono HB.out.size)).trans (hk.below (by omega) (fun x hx => by omega))
        case measure => simp [intOf]; omega
      · obtain rfl : k = l.n := by omega
        clear HC HA
        go_wp2
        refine bodyPost_ret (v := .slice (some ⟨w.heap.size, 0, none⟩) l.n l.n) (by simp [results, Try.results80, go_sem]) rfl ⟨⟨some ⟨w.heap.size, 0, none⟩, l.n, l.n, g⟩, rfl, rfl, fun j hj => (HAl.out j hj).1, ?_, HB.out⟩
        exact HR.out.in_ (Nat.le_refl _) (fun j hj => (elVal).mono (HAl.out j hj).2 (fun b hb _ => by omega)) hn
end Go.Proofs.Ytckopbkhpbhljaa

namespace Go.Proofs.Ytckopbkhpbhljaa
open Go.RowKit
set_option maxRecDepth 8000
theorem kindLC : ∃ i, Kind 22 62 i (.agg #[.string ⟨#[]⟩, .slice none 0 0]) 2 40 := by
  obtain ⟨i0, hi, hz0, hz1, hz2⟩ := info_parts (show (Try.prog.info? 62).map (fun i => (i.zero, i.size, i.bytes)) = some (some (.agg #[.string ⟨#[]⟩, .slice none 0 0]), 2, 40) by kernel_rfl)
  exact ⟨i0, Try.underlying22, hi, hz0, hz1, hz2, rfl, by decide⟩
set_option maxHeartbeats 2000000 in
theorem flC (Al : VT → VT → Prop) (l : LT VT) (w : World) (S : Nat → Prop) (hin : LT.In elCell w S l) (hn : l.n ≤ 10000)
    (hc : ∀ j, j < l.n → ∀ W, Below w.heap.size w W → Calls Try.prog 65 #[.agg #[.string (l.item j).text, .slice (l.item j).p (l.item j).n (l.item j).c]] W fun e w' => ∃ u : VT, e = .returned (.agg #[.string u.text, .slice u.p u.n u.c]) ∧ Al (l.item j) u ∧ (elCell).In w' (fun b => W.heap.size ≤ b) u ∧ Below W.heap.size W w') :
    Calls Try.prog 64 #[.slice l.p l.n l.c, .func (.func 65) #[] #[]] w fun e w' => ∃ u : LT VT, e = .returned (.slice u.p u.n u.c) ∧ u.n = l.n ∧ (∀ j, j < l.n → Al (l.item j) (u.item j)) ∧ LT.In elCell w' (fun b => w.heap.size ≤ b) u ∧ Below w.heap.size w w' := by
  obtain ⟨i0, Kd⟩ := kindLC
  have HI := hid hin
  have HC := hid hc
  clear hin hc
  by_cases h0 : l.n = 0
  · go_enter Try.func64, Try.ntmps64
    go_wp2
    refine bodyPost_ret (v := .slice none 0 0) (by simp [results, Try.results64, go_sem]) rfl ⟨⟨none, 0, 0, l.item⟩, rfl, h0.symm, fun j hj => absurd hj (by omega), LT.In.none_ _ _ _ _ _ _ (Nat.zero_le _) (fun _ => rfl), Below.refl _ _⟩
  · obtain ⟨M, hM⟩ : ∃ M, M = madeCells (Value.agg #[.string ⟨#[]⟩, .slice none 0 0]).cells (((l.n : Nat) : Int).toNat * i0.size) := ⟨_, rfl⟩
    have hMs : M.size = l.n * 2 := by rw [hM, size_madeCells, Kd.hsize]; simp
    have hmk : ∀ W : World, (Instr.makeSlice 22 (.int .i64 (l.n : Int)) (.int .i64 (l.n : Int))).run Try.prog W = .ok (.slice (some ⟨W.heap.size, 0, none⟩) l.n l.n) (W.alloc (.cells M 62)) := fun W => by
      have h := run_make (P := Try.prog) W 22 62 i0 (.agg #[.string ⟨#[]⟩, .slice none 0 0]) Kd.ht Kd.hi Kd.hz .i64 .i64 (l.n : Int) (l.n : Int) (by omega) (by omega) (by rw [Kd.hby]; omega) (by omega)
      rw [← hM] at h
      simpa using h
    clear hM
    obtain ⟨bb, o, hp, hSb, hbl, hat⟩ := HI.out.at_ (by omega)
    have HA := hid hat
    have HR0 : Hid (∀ g, RowK elCell (w.alloc (.cells M 62)) w.heap.size l.n 0 g M) := fun g => ⟨Box.new w M 62, hMs, fun j hj => absurd hj (by omega)⟩
    clear hat hMs
    rw [hp]
    have h0' : ((l.n : Int) == 0) = false := by simp; omega
    go_enter Try.func64, Try.ntmps64
    go_wp2_with fail
    go_loopw [16] (fun x wr => ∃ (k : Nat) (g : Nat → VT) (cs : Array Value), k ≤ l.n ∧ x = .int .i64 (k : Int) ∧ RowK elCell wr w.heap.size l.n k g cs ∧ (∀ q, q < k → Al (l.item q) (g q) ∧ (elCell).In wr (fun b => w.heap.size + 1 ≤ b) (g q)) ∧ Below w.heap.size w wr) (fun x _ => l.n - (intOf x).toNat)
    case atStart => exact ⟨0, l.item, M, Nat.zero_le _, rfl, HR0.out _, fun q hq => absurd hq (by omega), (Below.refl _ _).alloc (Nat.le_refl _) _⟩
    case round =>
      obtain ⟨k, g, cs, hk, rfl, hR, hal, hbel⟩ := hrel
      have HR := hid hR
      have HAl := hid hal
      have HB := hid hbel
      have hL := hR.box.lt
      clear hR hal hbel hmk HR0
      by_cases hlt : k < l.n
      · have hlt' : (k : Int) < (l.n : Int) := by omega
        have hcell : ∀ r u, ((elCell).cells (l.item k))[r]? = some u → wr.cell? ⟨bb, o + k * 2 + r, none⟩ = some u := fun r u hu => (World.cell?_of_block (a := ⟨bb, o + k * 2 + r, none⟩) (HB.out.block bb hbl)).trans (HA.out k hlt r u hu)
        have c0 : wr.cell? ⟨bb, o + k * 2, none⟩ = some (.string (l.item k).text) := hcell 0 _ rfl
        have c1 : wr.cell? ⟨bb, o + k * 2 + 1, none⟩ = some (.slice (l.item k).p (l.item k).n (l.item k).c) := hcell 1 _ rfl
        clear hcell
        have HC1 := hid (HC.out k hlt)
        go_wp2_with fail
        refine (HC1.out _ ?_).mono ?_
        · exact HB.out.alloc (Nat.le_of_lt hL) _
        rintro e w4 ⟨u, rfl, hal4, hin4, hb4⟩
        have hbW : Below wr.heap.size wr w4 := ((Below.refl wr.heap.size wr).alloc (Nat.le_refl _) _).trans (hb4.mono (by simp))
        have hR4 := HR.out.kept (hbW.block _ hL)
        have hal5 : ∀ q, q < k → Al (l.item q) (g q) ∧ (elCell).In w4 (fun b => w.heap.size + 1 ≤ b) (g q) := fun q hq => ⟨(HAl.out q hq).1, (elCell).kept (HAl.out q hq).2 hbW.size (fun b _ hl => hbW.block b hl)⟩
        have hu4 : (elCell).In w4 (fun b => w.heap.size + 1 ≤ b) u := (elCell).mono hin4 (fun b hb _ => by have : wr.heap.size ≤ b := Nat.le_trans (by simp) hb; omega)
        have HU := hid (And.intro hal4 (And.intro hu4 (And.intro hal5 (And.intro hbW hR4))))
        have hL4 := hR4.box.lt
        obtain ⟨z0, hz0⟩ : ∃ x, w4.cell? ⟨w.heap.size, k * 2, none⟩ = some x := hR4.some_ hlt 0 (by decide)
        have f0 := hR4.box.frozen (k * 2)
        obtain ⟨z1, hz1⟩ : ∃ x, w4.cell? ⟨w.heap.size, k * 2 + 1, none⟩ = some x := hR4.some_ hlt 1 (by decide)
        have f1 := hR4.box.frozen (k * 2 + 1)
        clear hal4 hu4 hal5 hbW hR4 hin4 hb4 HC1 HAl HR c0 c1
        go_wp2
        go_roundw
        case rel =>
          obtain ⟨hal4, hu4, hal5, hbW, hR4⟩ := HU.out
          have hk : But (fun x => x = w.heap.size) w4 (((w4.setCell ⟨w.heap.size, k * 2, none⟩ (.string u.text)).setCell ⟨w.heap.size, k * 2 + 1, none⟩ (.slice u.p u.n u.c))) := (((But.one w4 w.heap.size).setAt (k * 2) _).setAt (k * 2 + 1) _)
          refine ⟨k + 1, _, _, by omega, by go_num, hR4.step (x := u) hlt ?_, fun q hq => ?_, ?_⟩
          · exact ((hR4.box.set (k * 2) _).set (k * 2 + 1) _)
          · by_cases hq2 : q < k
            · rw [if_pos hq2]
              exact ⟨(hal5 q hq2).1, (elCell).kept (hal5 q hq2).2 hk.size (fun b hb hl => hk.block b hl (by omega))⟩
            · rw [if_neg hq2]
              obtain rfl : q = k := by omega
              exact ⟨hal4, (elCell).kept hu4 hk.size (fun b hb hl => hk.block b hl (by omega))⟩
          · exact (HB.out.trans (hbW.mono HB.out.size)).trans (hk.below (by omega) (fun x hx => by omega))
        case measure => simp [intOf]; omega
      · obtain rfl : k = l.n := by omega
        clear HC HA
        go_wp2
        refine bodyPost_ret (v := .slice (some ⟨w.heap.size, 0, none⟩) l.n l.n) (by simp [results, Try.results64, go_sem]) rfl ⟨⟨some ⟨w.heap.size, 0, none⟩, l.n, l.n, g⟩, rfl, rfl, fun j hj => (HAl.out j hj).1, ?_, HB.out⟩
        exact HR.out.in_ (Nat.le_refl _) (fun j hj => (elCell).mono (HAl.out j hj).2 (fun b hb _ => by omega)) hn
end Go.Proofs.Ytckopbkhpbhljaa
