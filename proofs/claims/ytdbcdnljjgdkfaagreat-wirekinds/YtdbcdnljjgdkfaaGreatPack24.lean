import Derived.Test.YtdbcdnljjgdkfaaGreatPack23
import Derived.Test.YtdbcdnljjgdkfaaGreatPack18
import Derived.Test.YtdbcdnljjgdkfaaGreatWrM
import Derived.Test.YtdbcdnljjgdkfaaGreatPack11
import Derived.Test.YtdbcdnljjgdkfaaGreatWpI
namespace Go.Proofs.YtdbcdnljjgdkfaaGreat
open Go.RowKit
set_option maxRecDepth 8000

set_option maxHeartbeats 4000000 in
theorem putH_2 (t : HI) (w : World) (S : Nat → Prop) (hin : HI.In w S t) (hS : ∀ b, S b → b < w.heap.size) (hk : t.kind = 2) : Calls Tryz.prog 11 #[.agg t.cells] w fun x w' => PutR (chkState t.s) (stateB t.s) w x w' := by
  have ha : Below w.heap.size w (w.alloc (.cells t.cells 45)) := (Below.refl _ _).alloc (Nat.le_refl _) _
  have hbx := Box.new w t.cells 45
  have c0 := (hbx.cell 0).trans (show t.cells[0]? = some (.int .i64 t.kind) from rfl)
  have c7 := (hbx.cell 7).trans (show t.cells[7]? = some (.int .i64 t.s.num) from rfl)
  have c8 := (hbx.cell 8).trans (show t.cells[8]? = some (.slice t.s.p t.s.n t.s.c) from rfl)
  have k2 : (t.kind == 2) = true := by rw [hk]; rfl
  have HIn := hid (hin.below ha)
  have HS := hid (fun b (hb : S b) => show b < (w.alloc (.cells t.cells 45)).heap.size by have := hS b hb; have := ha.size; omega)
  have HC := hid (putSt_gen t.s (w.alloc (.cells t.cells 45)) S HIn.out.s HS.out)
  have HA := hid ha
  unfold ST.val at HC
  clear hbx ha hS hin HIn HS hk
  obtain ⟨cT, hcT⟩ : ∃ cT, cT = t.cells := ⟨_, rfl⟩
  rw [← hcT] at HC HA ⊢
  rw [← hcT] at c0 c7 c8
  clear hcT
  obtain ⟨k, hkk⟩ : ∃ k, k = chkState t.s := ⟨_, rfl⟩
  obtain ⟨B, hBB⟩ : ∃ B, B = stateB t.s := ⟨_, rfl⟩
  rw [← hkk, ← hBB] at HC ⊢
  clear hkk hBB
  go_enter Tryz.func11, Tryz.ntmps11
  go_wp2_with fail
  refine HC.out.mono ?_
  rintro x w1 hp
  have HF : Hid (∃ v, x = .returned (.tuple #[v, .int .i64 (k : Int)]) ∧ Below w.heap.size w w1 ∧ (k = 0 → OwnBy w.heap.size w1 v B) ∧ (k ≠ 0 → v = .slice none 0 0)) := by
    by_cases h0 : k = 0
    · obtain ⟨v, e, ho, hb⟩ := hp.1 h0
      exact ⟨v, by rw [e, h0]; rfl, HA.out.trans (hb.mono HA.out.size), fun _ => ho.mono HA.out.size, fun h => absurd h0 h⟩
    · obtain ⟨e, hb⟩ := hp.2 h0
      exact ⟨_, e, HA.out.trans (hb.mono HA.out.size), fun h => absurd h h0, fun _ => rfl⟩
  obtain ⟨v, hx, hb1, ho1, hn1⟩ := HF.out
  subst hx
  have HG := hid (And.intro hb1 (And.intro ho1 hn1))
  have HN := fun W => num_any (k : Int) W
  clear hb1 ho1 hn1 hp HC HF
  go_wp2_with fail
  refine (HN _).mono ?_
  rintro x w2 ⟨rfl, hw2⟩
  subst w2
  go_wp2
  refine bodyPost_ret (v := .tuple #[v, .int .i64 (k : Int)]) (by simp [results, Tryz.results11, go_sem]) rfl ?_
  refine ⟨fun h0 => ⟨v, by rw [h0]; rfl, HG.out.2.1 h0, HG.out.1⟩, fun h0 => ⟨by rw [HG.out.2.2 h0], HG.out.1⟩⟩
set_option maxHeartbeats 4000000 in
theorem putH_3 (t : HI) (w : World) (S : Nat → Prop) (hin : HI.In w S t) (hS : ∀ b, S b → b < w.heap.size) (hk : t.kind = 3) : Calls Tryz.prog 11 #[.agg t.cells] w fun x w' => PutR (chkSeg t.g) (segB t.g.to) w x w' := by
  have ha : Below w.heap.size w (w.alloc (.cells t.cells 45)) := (Below.refl _ _).alloc (Nat.le_refl _) _
  have hbx := Box.new w t.cells 45
  have c0 := (hbx.cell 0).trans (show t.cells[0]? = some (.int .i64 t.kind) from rfl)
  have c9 := (hbx.cell 9).trans (show t.cells[9]? = some (.int .i64 t.g.id) from rfl)
  have c10 := (hbx.cell 10).trans (show t.cells[10]? = some (.int .i64 t.g.task) from rfl)
  have c11 := (hbx.cell 11).trans (show t.cells[11]? = some (.int .i64 t.g.base) from rfl)
  have c12 := (hbx.cell 12).trans (show t.cells[12]? = some (.int .u32 (t.g.sum : Int)) from rfl)
  have c13 := (hbx.cell 13).trans (show t.cells[13]? = some (.int .i64 t.g.st.num) from rfl)
  have c14 := (hbx.cell 14).trans (show t.cells[14]? = some (.slice t.g.st.p t.g.st.n t.g.st.c) from rfl)
  have c15 := (hbx.cell 15).trans (show t.cells[15]? = some (.int .i64 t.g.dnum) from rfl)
  have c16 := (hbx.cell 16).trans (show t.cells[16]? = some (.slice t.g.set.p t.g.set.n t.g.set.c) from rfl)
  have c17 := (hbx.cell 17).trans (show t.cells[17]? = some (.slice t.g.gone.p t.g.gone.n t.g.gone.c) from rfl)
  have c18 := (hbx.cell 18).trans (show t.cells[18]? = some (.slice t.g.logs.p t.g.logs.n t.g.logs.c) from rfl)
  have c19 := (hbx.cell 19).trans (show t.cells[19]? = some (.slice t.g.pend.p t.g.pend.n t.g.pend.c) from rfl)
  have k2 : (t.kind == 2) = false := by rw [hk]; rfl
  have k3 : (t.kind == 3) = true := by rw [hk]; rfl
  have HIn := hid (hin.below ha)
  have HS := hid (fun b (hb : S b) => show b < (w.alloc (.cells t.cells 45)).heap.size by have := hS b hb; have := ha.size; omega)
  have HC := hid (putSeg_gen t.g (w.alloc (.cells t.cells 45)) S HIn.out.g HS.out)
  have HA := hid ha
  unfold GI.val at HC
  clear hbx ha hS hin HIn HS hk
  obtain ⟨cT, hcT⟩ : ∃ cT, cT = t.cells := ⟨_, rfl⟩
  rw [← hcT] at HC HA ⊢
  rw [← hcT] at c0 c9 c10 c11 c12 c13 c14 c15 c16 c17 c18 c19
  clear hcT
  obtain ⟨k, hkk⟩ : ∃ k, k = chkSeg t.g := ⟨_, rfl⟩
  obtain ⟨B, hBB⟩ : ∃ B, B = segB t.g.to := ⟨_, rfl⟩
  rw [← hkk, ← hBB] at HC ⊢
  clear hkk hBB
  go_enter Tryz.func11, Tryz.ntmps11
  go_wp2_with fail
  refine HC.out.mono ?_
  rintro x w1 hp
  have HF : Hid (∃ v, x = .returned (.tuple #[v, .int .i64 (k : Int)]) ∧ Below w.heap.size w w1 ∧ (k = 0 → OwnBy w.heap.size w1 v B) ∧ (k ≠ 0 → v = .slice none 0 0)) := by
    by_cases h0 : k = 0
    · obtain ⟨v, e, ho, hb⟩ := hp.1 h0
      exact ⟨v, by rw [e, h0]; rfl, HA.out.trans (hb.mono HA.out.size), fun _ => ho.mono HA.out.size, fun h => absurd h0 h⟩
    · obtain ⟨e, hb⟩ := hp.2 h0
      exact ⟨_, e, HA.out.trans (hb.mono HA.out.size), fun h => absurd h h0, fun _ => rfl⟩
  obtain ⟨v, hx, hb1, ho1, hn1⟩ := HF.out
  subst hx
  have HG := hid (And.intro hb1 (And.intro ho1 hn1))
  have HN := fun W => num_any (k : Int) W
  clear hb1 ho1 hn1 hp HC HF
  go_wp2_with fail
  refine (HN _).mono ?_
  rintro x w2 ⟨rfl, hw2⟩
  subst w2
  go_wp2
  refine bodyPost_ret (v := .tuple #[v, .int .i64 (k : Int)]) (by simp [results, Tryz.results11, go_sem]) rfl ?_
  refine ⟨fun h0 => ⟨v, by rw [h0]; rfl, HG.out.2.1 h0, HG.out.1⟩, fun h0 => ⟨by rw [HG.out.2.2 h0], HG.out.1⟩⟩
set_option maxHeartbeats 4000000 in
theorem putH_4 (t : HI) (w : World) (S : Nat → Prop) (hin : HI.In w S t) (hS : ∀ b, S b → b < w.heap.size) (hk : t.kind = 4) : Calls Tryz.prog 11 #[.agg t.cells] w fun x w' => PutR (chkMan t.m) (manB t.m.to) w x w' := by
  have ha : Below w.heap.size w (w.alloc (.cells t.cells 45)) := (Below.refl _ _).alloc (Nat.le_refl _) _
  have hbx := Box.new w t.cells 45
  have c0 := (hbx.cell 0).trans (show t.cells[0]? = some (.int .i64 t.kind) from rfl)
  have c20 := (hbx.cell 20).trans (show t.cells[20]? = some (.int .i64 t.m.id) from rfl)
  have c21 := (hbx.cell 21).trans (show t.cells[21]? = some (.int .u32 (t.m.sum : Int)) from rfl)
  have c22 := (hbx.cell 22).trans (show t.cells[22]? = some (.slice t.m.rows.p t.m.rows.n t.m.rows.c) from rfl)
  have k2 : (t.kind == 2) = false := by rw [hk]; rfl
  have k3 : (t.kind == 3) = false := by rw [hk]; rfl
  have k4 : (t.kind == 4) = true := by rw [hk]; rfl
  have HIn := hid (hin.below ha)
  have HS := hid (fun b (hb : S b) => show b < (w.alloc (.cells t.cells 45)).heap.size by have := hS b hb; have := ha.size; omega)
  have HC := hid (putMan_gen t.m (w.alloc (.cells t.cells 45)) S HIn.out.m HIn.out.msum HS.out)
  have HA := hid ha
  unfold MI.val at HC
  clear hbx ha hS hin HIn HS hk
  obtain ⟨cT, hcT⟩ : ∃ cT, cT = t.cells := ⟨_, rfl⟩
  rw [← hcT] at HC HA ⊢
  rw [← hcT] at c0 c20 c21 c22
  clear hcT
  obtain ⟨k, hkk⟩ : ∃ k, k = chkMan t.m := ⟨_, rfl⟩
  obtain ⟨B, hBB⟩ : ∃ B, B = manB t.m.to := ⟨_, rfl⟩
  rw [← hkk, ← hBB] at HC ⊢
  clear hkk hBB
  go_enter Tryz.func11, Tryz.ntmps11
  go_wp2_with fail
  refine HC.out.mono ?_
  rintro x w1 hp
  have HF : Hid (∃ v, x = .returned (.tuple #[v, .int .i64 (k : Int)]) ∧ Below w.heap.size w w1 ∧ (k = 0 → OwnBy w.heap.size w1 v B) ∧ (k ≠ 0 → v = .slice none 0 0)) := by
    by_cases h0 : k = 0
    · obtain ⟨v, e, ho, hb⟩ := hp.1 h0
      exact ⟨v, by rw [e, h0]; rfl, HA.out.trans (hb.mono HA.out.size), fun _ => ho.mono HA.out.size, fun h => absurd h0 h⟩
    · obtain ⟨e, hb⟩ := hp.2 h0
      exact ⟨_, e, HA.out.trans (hb.mono HA.out.size), fun h => absurd h h0, fun _ => rfl⟩
  obtain ⟨v, hx, hb1, ho1, hn1⟩ := HF.out
  subst hx
  have HG := hid (And.intro hb1 (And.intro ho1 hn1))
  have HN := fun W => num_any (k : Int) W
  clear hb1 ho1 hn1 hp HC HF
  go_wp2_with fail
  refine (HN _).mono ?_
  rintro x w2 ⟨rfl, hw2⟩
  subst w2
  go_wp2
  refine bodyPost_ret (v := .tuple #[v, .int .i64 (k : Int)]) (by simp [results, Tryz.results11, go_sem]) rfl ?_
  refine ⟨fun h0 => ⟨v, by rw [h0]; rfl, HG.out.2.1 h0, HG.out.1⟩, fun h0 => ⟨by rw [HG.out.2.2 h0], HG.out.1⟩⟩
set_option maxHeartbeats 4000000 in
theorem putH_5 (t : HI) (w : World) (S : Nat → Prop) (hin : HI.In w S t) (hS : ∀ b, S b → b < w.heap.size) (hk : t.kind = 5) : Calls Tryz.prog 11 #[.agg t.cells] w fun x w' => PutR (chkOut t.o) (outB t.o.to) w x w' := by
  have ha : Below w.heap.size w (w.alloc (.cells t.cells 45)) := (Below.refl _ _).alloc (Nat.le_refl _) _
  have hbx := Box.new w t.cells 45
  have c0 := (hbx.cell 0).trans (show t.cells[0]? = some (.int .i64 t.kind) from rfl)
  have c23 := (hbx.cell 23).trans (show t.cells[23]? = some (.int .i64 t.o.num) from rfl)
  have c24 := (hbx.cell 24).trans (show t.cells[24]? = some (.string t.o.rec_.key) from rfl)
  have c25 := (hbx.cell 25).trans (show t.cells[25]? = some (.int .i64 t.o.rec_.v.kind) from rfl)
  have c26 := (hbx.cell 26).trans (show t.cells[26]? = some (.int .i64 t.o.rec_.v.int) from rfl)
  have c27 := (hbx.cell 27).trans (show t.cells[27]? = some (.string t.o.rec_.v.text) from rfl)
  have c28 := (hbx.cell 28).trans (show t.cells[28]? = some (.slice t.o.rec_.v.p t.o.rec_.v.n t.o.rec_.v.c) from rfl)
  have c29 := (hbx.cell 29).trans (show t.cells[29]? = some (.slice t.o.rec_.p t.o.rec_.n t.o.rec_.c) from rfl)
  have k2 : (t.kind == 2) = false := by rw [hk]; rfl
  have k3 : (t.kind == 3) = false := by rw [hk]; rfl
  have k4 : (t.kind == 4) = false := by rw [hk]; rfl
  have k5 : (t.kind == 5) = true := by rw [hk]; rfl
  have HIn := hid (hin.below ha)
  have HS := hid (fun b (hb : S b) => show b < (w.alloc (.cells t.cells 45)).heap.size by have := hS b hb; have := ha.size; omega)
  have HC := hid (putRow_gen t.o (w.alloc (.cells t.cells 45)) S HIn.out.o HS.out)
  have HA := hid ha
  unfold OI.val at HC
  clear hbx ha hS hin HIn HS hk
  obtain ⟨cT, hcT⟩ : ∃ cT, cT = t.cells := ⟨_, rfl⟩
  rw [← hcT] at HC HA ⊢
  rw [← hcT] at c0 c23 c24 c25 c26 c27 c28 c29
  clear hcT
  obtain ⟨k, hkk⟩ : ∃ k, k = chkOut t.o := ⟨_, rfl⟩
  obtain ⟨B, hBB⟩ : ∃ B, B = outB t.o.to := ⟨_, rfl⟩
  rw [← hkk, ← hBB] at HC ⊢
  clear hkk hBB
  go_enter Tryz.func11, Tryz.ntmps11
  go_wp2_with fail
  refine HC.out.mono ?_
  rintro x w1 hp
  have HF : Hid (∃ v, x = .returned (.tuple #[v, .int .i64 (k : Int)]) ∧ Below w.heap.size w w1 ∧ (k = 0 → OwnBy w.heap.size w1 v B) ∧ (k ≠ 0 → v = .slice none 0 0)) := by
    by_cases h0 : k = 0
    · obtain ⟨v, e, ho, hb⟩ := hp.1 h0
      exact ⟨v, by rw [e, h0]; rfl, HA.out.trans (hb.mono HA.out.size), fun _ => ho.mono HA.out.size, fun h => absurd h0 h⟩
    · obtain ⟨e, hb⟩ := hp.2 h0
      exact ⟨_, e, HA.out.trans (hb.mono HA.out.size), fun h => absurd h h0, fun _ => rfl⟩
  obtain ⟨v, hx, hb1, ho1, hn1⟩ := HF.out
  subst hx
  have HG := hid (And.intro hb1 (And.intro ho1 hn1))
  have HN := fun W => num_any (k : Int) W
  clear hb1 ho1 hn1 hp HC HF
  go_wp2_with fail
  refine (HN _).mono ?_
  rintro x w2 ⟨rfl, hw2⟩
  subst w2
  go_wp2
  refine bodyPost_ret (v := .tuple #[v, .int .i64 (k : Int)]) (by simp [results, Tryz.results11, go_sem]) rfl ?_
  refine ⟨fun h0 => ⟨v, by rw [h0]; rfl, HG.out.2.1 h0, HG.out.1⟩, fun h0 => ⟨by rw [HG.out.2.2 h0], HG.out.1⟩⟩
set_option maxHeartbeats 4000000 in
theorem putH_1 (t : HI) (w : World) (S : Nat → Prop) (hin : HI.In w S t) (hS : ∀ b, S b → b < w.heap.size) (h2 : t.kind ≠ 2) (h3 : t.kind ≠ 3) (h4 : t.kind ≠ 4) (h5 : t.kind ≠ 5) : Calls Tryz.prog 11 #[.agg t.cells] w fun x w' => PutR (chkRec t.r) (recB t.r) w x w' := by
  have ha : Below w.heap.size w (w.alloc (.cells t.cells 45)) := (Below.refl _ _).alloc (Nat.le_refl _) _
  have hbx := Box.new w t.cells 45
  have c0 := (hbx.cell 0).trans (show t.cells[0]? = some (.int .i64 t.kind) from rfl)
  have c1 := (hbx.cell 1).trans (show t.cells[1]? = some (.string t.r.key) from rfl)
  have c2 := (hbx.cell 2).trans (show t.cells[2]? = some (.int .i64 t.r.v.kind) from rfl)
  have c3 := (hbx.cell 3).trans (show t.cells[3]? = some (.int .i64 t.r.v.int) from rfl)
  have c4 := (hbx.cell 4).trans (show t.cells[4]? = some (.string t.r.v.text) from rfl)
  have c5 := (hbx.cell 5).trans (show t.cells[5]? = some (.slice t.r.v.p t.r.v.n t.r.v.c) from rfl)
  have c6 := (hbx.cell 6).trans (show t.cells[6]? = some (.slice t.r.p t.r.n t.r.c) from rfl)
  have k2 : (t.kind == 2) = false := by simpa using h2
  have k3 : (t.kind == 3) = false := by simpa using h3
  have k4 : (t.kind == 4) = false := by simpa using h4
  have k5 : (t.kind == 5) = false := by simpa using h5
  have HIn := hid (hin.below ha)
  have HS := hid (fun b (hb : S b) => show b < (w.alloc (.cells t.cells 45)).heap.size by have := hS b hb; have := ha.size; omega)
  have HC := hid (putRec_gen t.r (w.alloc (.cells t.cells 45)) S HIn.out.r HS.out)
  have HA := hid ha
  unfold RT.val at HC
  clear hbx ha hS hin HIn HS h2 h3 h4 h5
  obtain ⟨cT, hcT⟩ : ∃ cT, cT = t.cells := ⟨_, rfl⟩
  rw [← hcT] at HC HA ⊢
  rw [← hcT] at c0 c1 c2 c3 c4 c5 c6
  clear hcT
  obtain ⟨k, hkk⟩ : ∃ k, k = chkRec t.r := ⟨_, rfl⟩
  obtain ⟨B, hBB⟩ : ∃ B, B = recB t.r := ⟨_, rfl⟩
  rw [← hkk, ← hBB] at HC ⊢
  clear hkk hBB
  go_enter Tryz.func11, Tryz.ntmps11
  go_wp2_with fail
  refine HC.out.mono ?_
  rintro x w1 hp
  have HF : Hid (∃ v, x = .returned (.tuple #[v, .int .i64 (k : Int)]) ∧ Below w.heap.size w w1 ∧ (k = 0 → OwnBy w.heap.size w1 v B) ∧ (k ≠ 0 → v = .slice none 0 0)) := by
    by_cases h0 : k = 0
    · obtain ⟨v, e, ho, hb⟩ := hp.1 h0
      exact ⟨v, by rw [e, h0]; rfl, HA.out.trans (hb.mono HA.out.size), fun _ => ho.mono HA.out.size, fun h => absurd h0 h⟩
    · obtain ⟨e, hb⟩ := hp.2 h0
      exact ⟨_, e, HA.out.trans (hb.mono HA.out.size), fun h => absurd h h0, fun _ => rfl⟩
  obtain ⟨v, hx, hb1, ho1, hn1⟩ := HF.out
  subst hx
  have HG := hid (And.intro hb1 (And.intro ho1 hn1))
  have HN := fun W => num_any (k : Int) W
  clear hb1 ho1 hn1 hp HC HF
  go_wp2_with fail
  refine (HN _).mono ?_
  rintro x w2 ⟨rfl, hw2⟩
  subst w2
  go_wp2
  refine bodyPost_ret (v := .tuple #[v, .int .i64 (k : Int)]) (by simp [results, Tryz.results11, go_sem]) rfl ?_
  refine ⟨fun h0 => ⟨v, by rw [h0]; rfl, HG.out.2.1 h0, HG.out.1⟩, fun h0 => ⟨by rw [HG.out.2.2 h0], HG.out.1⟩⟩
end Go.Proofs.YtdbcdnljjgdkfaaGreat

namespace Go.Proofs.YtdbcdnljjgdkfaaGreat
open Go.RowKit
set_option maxRecDepth 8000

/-- bytes -/
def Byt (L : List Int) : Prop := ∀ x ∈ L, 0 ≤ x ∧ x < 256
theorem Byt.tail {x : Int} {L : List Int} (h : Byt (x :: L)) : Byt L := fun y hy => h y (List.mem_cons_of_mem _ hy)
theorem Byt.right {A B : List Int} (h : Byt (A ++ B)) : Byt B := fun y hy => h y (List.mem_append_right _ hy)
theorem Byt.left {A B : List Int} (h : Byt (A ++ B)) : Byt A := fun y hy => h y (List.mem_append_left _ hy)
theorem bind_ok {α β : Type} {s : RS α} {g : α → RS β} {L R : List Int} {y : β} (h : bindS s g L = .ok (y, R)) : ∃ a M, s L = .ok (a, M) ∧ g a M = .ok (y, R) := by
  unfold bindS at h
  cases hs : s L with
  | error e => rw [hs] at h; cases h
  | ok z =>
    obtain ⟨a, M⟩ := z
    rw [hs] at h
    exact ⟨a, M, rfl, h⟩
theorem ret_ok {α : Type} {x y : α} {L R : List Int} (h : retS x L = .ok (y, R)) : y = x ∧ R = L := by
  unfold retS at h
  cases h
  exact ⟨rfl, rfl⟩
theorem take_ok {n : Nat} {L R l : List Int} (h : takeS n L = .ok (l, R)) : L = l ++ R ∧ l.length = n := by
  unfold takeS at h
  split at h
  · rename_i hn
    cases h
    exact ⟨(List.take_append_drop n L).symm, by simp [hn]⟩
  · cases h
theorem end_ok {n b m : Nat} {i : Bool} {L R : List Int} (h : endS n b i L = .ok (m, R)) : m = n ∧ R = L ∧ i = false ∧ n ≤ b := by
  unfold endS at h
  split at h
  · cases h
  rename_i h1
  split at h
  · cases h
  rename_i h2
  obtain ⟨a, b⟩ := ret_ok h
  exact ⟨a, b, by simpa using h1, by omega⟩
theorem numG_sound (bound : Nat) : ∀ k i u L m R, numG bound k i u L = .ok (m, R) → u < 2 ^ (7 * i) → Byt L → ∃ j, m = u + j * 2 ^ (7 * i) ∧ L = grpB j ++ R ∧ (0 < i → 1 ≤ j) ∧ m ≤ bound := by
  intro k
  induction k with
  | zero => intro i u L m R h; cases h
  | succ k ih =>
    intro i u L m R h hu hL
    cases L with
    | nil => rw [numG_nil] at h; cases h
    | cons x L =>
      obtain ⟨hx0, hx1⟩ := hL x (List.mem_cons_self ..)
      obtain ⟨C, rfl⟩ := Int.eq_ofNat_of_zero_le hx0
      by_cases hC : C < 128
      · rw [numG_lo hC] at h
        obtain ⟨h1, h2, h3, h4⟩ := end_ok h
        rw [or_plus hu, Nat.mod_eq_of_lt hC] at h1 h4
        refine ⟨C, h1, by rw [grpB_small hC, h2]; rfl, fun hi => ?_, by omega⟩
        have h5 : ¬ (0 < i ∧ C = 0) := by simpa using h3
        omega
      · rw [numG_hi hC, or_plus hu] at h
        have hm : C % 128 = C - 128 := by omega
        have hu2 : u + C % 128 * 2 ^ (7 * i) < 2 ^ (7 * (i + 1)) := by
          rw [pow7]
          have hp : 0 < 2 ^ (7 * i) := Nat.two_pow_pos _
          have hq : C % 128 * 2 ^ (7 * i) ≤ 127 * 2 ^ (7 * i) := Nat.mul_le_mul (by omega) (Nat.le_refl _)
          omega
        obtain ⟨j, h1, h2, h3, h4⟩ := ih (i + 1) _ L m R h hu2 hL.tail
        have h3 := h3 (by omega)
        refine ⟨(C - 128) + 128 * j, ?_, ?_, fun _ => by omega, h4⟩
        · rw [h1, hm, pow7, Nat.add_mul]
          have : j * (128 * 2 ^ (7 * i)) = 128 * j * 2 ^ (7 * i) := by rw [← Nat.mul_assoc, Nat.mul_comm j 128]
          omega
        · rw [grpB_great (by omega), h2]
          have e1 : ((C - 128) + 128 * j) % 128 + 128 = C := by omega
          have e2 : ((C - 128) + 128 * j) / 128 = j := by omega
          rw [e1, e2]
          rfl
theorem num_ok {bound m : Nat} {L R : List Int} (h : numS bound L = .ok (m, R)) (hL : Byt L) : L = grpB m ++ R ∧ m ≤ bound := by
  obtain ⟨j, h1, h2, _, h4⟩ := numG_sound bound 5 0 0 L m R h (by decide) hL
  have : m = j := by simpa using h1
  subst this
  exact ⟨h2, h4⟩
theorem key_ok {k : ByteArray} {L R : List Int} (h : keyS L = .ok (k, R)) (hL : Byt L) : L = keyB k ++ R ∧ k.size ≤ 12 := by
  obtain ⟨n, M, h1, h⟩ := bind_ok h
  obtain ⟨h2, h3⟩ := num_ok h1 hL
  obtain ⟨l, M2, h4, h⟩ := bind_ok h
  obtain ⟨h5, h6⟩ := take_ok h4
  obtain ⟨rfl, rfl⟩ := ret_ok h
  have hM : Byt M := by rw [h2] at hL; exact hL.right
  have hl : Byt l := by rw [h5] at hM; exact hM.left
  have hs : (strOf l).size = n := by rw [strOf_size, h6]
  refine ⟨?_, by omega⟩
  unfold keyB
  rw [hs, txt_strOf (fun x hx => ⟨(hl x hx).1, by have := (hl x hx).2; omega⟩), h2, h5, List.append_assoc]
theorem word_ok {u : Nat} {L R : List Int} (h : wordS L = .ok (u, R)) (hL : Byt L) : L = wordB u ++ R ∧ u < 4294967296 := by
  obtain ⟨l, M, h1, h⟩ := bind_ok h
  obtain ⟨h2, h3⟩ := take_ok h1
  obtain ⟨rfl, rfl⟩ := ret_ok h
  have hl : Byt l := by rw [h2] at hL; exact hL.left
  match l, h3 with
  | [a, b, c, d], _ =>
    have ha := hl a (by simp)
    have hb := hl b (by simp)
    have hc := hl c (by simp)
    have hd := hl d (by simp)
    refine ⟨?_, ?_⟩
    · rw [h2]
      congr 1
      simp only [wordB, wordN, List.getD_cons_zero, List.getD_cons_succ, List.cons.injEq, and_true]
      refine ⟨by omega, by omega, by omega, by omega⟩
    · simp only [wordN, List.getD_cons_zero, List.getD_cons_succ]
      omega
theorem first_ok {x : Int} {L R : List Int} (h : firstS x L = .ok ((), R)) : L = x :: R := by
  obtain ⟨l, M, h1, h⟩ := bind_ok h
  obtain ⟨h2, h3⟩ := take_ok h1
  split at h
  · rename_i h4
    obtain ⟨_, rfl⟩ := ret_ok h
    match l, h3 with
    | [a], _ =>
      simp at h4
      rw [h2, h4]
      rfl
  · cases h
theorem bytesAt_list (L : List Int) (a : Nat) (h : a ≤ L.length) : bytesAt (fun j => L.getD j 0) 0 a = L.take a := by
  apply List.ext_getElem
  · simp [bytesAt, h]
  · intro i h1 h2
    simp [bytesAt] at h1
    simp [bytesAt, List.getD_eq_getElem?_getD, List.getElem?_eq_getElem (show i < L.length by omega)]
theorem val_ok {t : VT} {L R : List Int} (h : valS L = .ok (t, R)) (hL : Byt L) : L = valB t ++ R ∧ (chk t 0 0).1 = 0 := by
  unfold valS at h
  cases hd : decS (fun j => L.getD j 0) L.length 3 0 0 0 with
  | error e => rw [hd] at h; cases h
  | ok z =>
    obtain ⟨t2, a, q⟩ := z
    rw [hd] at h
    cases h
    obtain ⟨h1, h2, h3, h4⟩ := dec_sound (f := fun j => L.getD j 0) (n := L.length) (fun j hj => by
      have := hL (L.getD j 0) (by simp [List.getD_eq_getElem?_getD, List.getElem?_eq_getElem hj])
      exact ⟨this.1, by omega⟩) 3 0 0 0 t a q hd
    have hc : (chk t 0 0).1 = 0 := by rw [h1]
    refine ⟨?_, hc⟩
    have e : valB t = L.take a := by
      unfold valB cleanT
      rw [if_pos hc, h4, Nat.sub_zero, bytesAt_list L a h3]
    rw [e, List.take_append_drop]
end Go.Proofs.YtdbcdnljjgdkfaaGreat

namespace Go.Proofs.YtdbcdnljjgdkfaaGreat
open Go.RowKit
set_option maxRecDepth 8000

theorem iter_ok {α σ : Type} {item : σ → RS α} {nx : σ → α → σ} {enc : α → List Int} {P : σ → α → Prop} (hI : ∀ s L y R, item s L = .ok (y, R) → Byt L → L = enc y ++ R ∧ P s y) : ∀ m s L ys s' R, iterS item nx m s L = .ok ((ys, s'), R) → Byt L → L = ys.flatMap enc ++ R ∧ ys.length = m ∧ s' = ys.foldl nx s ∧ ∀ (j : Nat) (y : α), ys[j]? = some y → P ((ys.take j).foldl nx s) y := by
  intro m
  induction m with
  | zero =>
    intro s L ys s' R h hL
    obtain ⟨h1, rfl⟩ := ret_ok h
    cases h1
    exact ⟨rfl, rfl, rfl, fun j y hj => by simp at hj⟩
  | succ m ih =>
    intro s L ys s' R h hL
    obtain ⟨⟨zs, s1⟩, M, h1, h⟩ := bind_ok h
    obtain ⟨x, M2, h2, h⟩ := bind_ok h
    obtain ⟨h3, rfl⟩ := ret_ok h
    simp only [Prod.mk.injEq] at h3
    obtain ⟨rfl, rfl⟩ := h3
    obtain ⟨a1, a2, a3, a4⟩ := ih s L zs s1 M h1 hL
    have hM : Byt M := by rw [a1] at hL; exact hL.right
    obtain ⟨b1, b2⟩ := hI s1 M x R h2 hM
    refine ⟨by rw [a1, b1]; simp, by simp [a2], by rw [a3]; simp, fun j y hj => ?_⟩
    by_cases hjl : j < zs.length
    · rw [List.getElem?_append_left hjl] at hj
      rw [List.take_append_of_le_length (by omega)]
      exact a4 j y hj
    · have hjm : j < (zs ++ [x]).length := by
        rcases Nat.lt_or_ge j (zs ++ [x]).length with h1 | h1
        · exact h1
        · rw [List.getElem?_eq_none h1] at hj; cases hj
      have he : j = zs.length := by simp only [List.length_append, List.length_singleton] at hjm hjl; omega
      subst he
      rw [List.getElem?_append_right (Nat.le_refl _)] at hj
      simp at hj
      subst hj
      rw [List.take_append_of_le_length (Nat.le_refl _), List.take_length, ← a3]
      exact b2
def lsB {α : Type} (enc : α → List Int) (ys : List α) : List Int := grpB ys.length ++ ys.flatMap enc
theorem list_ok {α σ : Type} {bound : Nat} {item : σ → RS α} {nx : σ → α → σ} {enc : α → List Int} {P : σ → α → Prop} (hI : ∀ s L y R, item s L = .ok (y, R) → Byt L → L = enc y ++ R ∧ P s y) {s : σ} {L R : List Int} {ys : List α} (h : listS bound item nx s L = .ok (ys, R)) (hL : Byt L) : L = lsB enc ys ++ R ∧ ys.length ≤ bound ∧ ∀ (j : Nat) (y : α), ys[j]? = some y → P ((ys.take j).foldl nx s) y := by
  obtain ⟨m, M, h1, h⟩ := bind_ok h
  obtain ⟨⟨zs, s1⟩, M2, h2, h⟩ := bind_ok h
  obtain ⟨h3, rfl⟩ := ret_ok h
  simp only at h3
  subst h3
  obtain ⟨a1, a2⟩ := num_ok h1 hL
  have hM : Byt M := by rw [a1] at hL; exact hL.right
  obtain ⟨b1, b2, _, b4⟩ := iter_ok hI m s M ys s1 R h2 hM
  refine ⟨?_, by omega, b4⟩
  unfold lsB
  rw [a1, b1, b2, List.append_assoc]
theorem range_getD' {α : Type} (d : α) (l : List α) (g : α → List Int) : ((List.range l.length).flatMap fun j => g (l.getD j d)) = l.flatMap g := by
  have e : (List.range l.length).map (fun j => l.getD j d) = l := by
    apply List.ext_getElem
    · simp
    · intro i h1 h2
      simp [List.getD_eq_getElem?_getD, List.getElem?_eq_getElem h2]
  have h := congrArg (fun z => z.flatMap g) e
  simpa [List.flatMap_map] using h
theorem listB_getD {α : Type} (d : α) (l : List α) (g : α → List Int) : listB g l.length (fun j => l.getD j d) = lsB g l := by
  unfold listB lsB
  rw [range_getD']
/-- a laid list's bytes -/
theorem isl_bytes {α : Type} {Al : α → α → Prop} {enc : α → List Int} {l : LT α} {ys : List α} (h : Isl Al l ys) (he : ∀ y u, Al y u → enc u = enc y) : listB enc l.n l.item = lsB enc ys := by
  obtain ⟨h1, h2⟩ := h
  unfold listB lsB
  rw [h1]
  congr 1
  have e : (List.range ys.length).map (fun j => enc (l.item j)) = ys.map enc := by
    apply List.ext_getElem
    · simp
    · intro i h3 h4
      simp at h3
      simp
      exact he _ _ (h2 i ys[i] (by rw [List.getElem?_eq_getElem h3]))
  rw [List.flatMap_def, List.flatMap_def, e]
theorem hop_ok {s : Unit} {x : Int} {L R : List Int} (h : hopI L = .ok (x, R)) (hL : Byt L) : L = hopB x ++ R ∧ (fun (_ : Unit) (x : Int) => 0 ≤ x ∧ x ≤ 9) s x := by
  obtain ⟨n, M, h1, h⟩ := bind_ok h
  obtain ⟨rfl, rfl⟩ := ret_ok h
  obtain ⟨a, b⟩ := num_ok h1 hL
  refine ⟨by unfold hopB; simpa using a, ?_⟩
  show (0 : Int) ≤ (n : Int) ∧ (n : Int) ≤ 9
  omega
theorem firstC_zero {g : Nat → Nat} : ∀ n, (∀ j, j < n → g j = 0) → firstC g n = 0 := by
  intro n
  induction n with
  | zero => intro _; rfl
  | succ n ih =>
    intro h
    show (if _ then _ else _) = 0
    rw [if_pos (ih fun j hj => h j (by omega))]
    exact h n (by omega)
theorem getD_get {α : Type} {d : α} {l : List α} {j : Nat} (h : j < l.length) : l[j]? = some (l.getD j d) := by
  simp [List.getD_eq_getElem?_getD, List.getElem?_eq_getElem h]
theorem rec_ok {r : RT} {L R : List Int} (h : recS L = .ok (r, R)) (hL : Byt L) : L = recB r ++ R ∧ chkRec r = 0 := by
  obtain ⟨k, M, h1, h⟩ := bind_ok h
  obtain ⟨v, M2, h2, h⟩ := bind_ok h
  obtain ⟨l, M3, h3, h⟩ := bind_ok h
  obtain ⟨rfl, rfl⟩ := ret_ok h
  obtain ⟨a1, a2⟩ := key_ok h1 hL
  have hM : Byt M := by rw [a1] at hL; exact hL.right
  obtain ⟨b1, b2⟩ := val_ok h2 hM
  have hM2 : Byt M2 := by rw [b1] at hM; exact hM.right
  obtain ⟨c1, c2, c3⟩ := list_ok (enc := hopB) (P := fun (_ : Unit) (x : Int) => 0 ≤ x ∧ x ≤ 9) (fun s _ _ _ h hL => hop_ok (s := s) h hL) h3 hM2
  refine ⟨?_, ?_⟩
  · unfold recB mkR
    simp only
    rw [listB_getD, a1, b1, c1]
    simp [List.append_assoc]
  · unfold chkRec mkR
    simp only
    rw [if_neg (by omega), if_neg (by simpa using b2), if_neg (by omega)]
    refine firstC_zero _ fun j hj => ?_
    obtain ⟨h4, h5⟩ := c3 j _ (getD_get (d := 0) hj)
    unfold chkLoop
    rw [if_neg (by omega)]
theorem recs_ok {ys : List RT} {L R : List Int} (h : recsS L = .ok (ys, R)) (hL : Byt L) : L = lsB recB ys ++ R ∧ ys.length ≤ 256 ∧ ∀ (j : Nat) (y : RT), ys[j]? = some y → chkRec y = 0 :=
  list_ok (P := fun (_ : Unit) y => chkRec y = 0) (fun _ _ _ _ h hL => rec_ok h hL) h hL
theorem recsL_ok {l : LT RT} {L R : List Int} (h : recsL L = .ok (l, R)) (hL : Byt L) : L = recsB l ++ R ∧ (l.n ≤ 256 ∧ ∀ j, j < l.n → chkRec (l.item j) = 0) := by
  obtain ⟨ys, M, h1, h⟩ := bind_ok h
  obtain ⟨rfl, rfl⟩ := ret_ok h
  obtain ⟨a, b, c⟩ := recs_ok h1 hL
  refine ⟨?_, b, fun j hj => c j _ (getD_get (d := zeroR) hj)⟩
  unfold recsB mkLT
  simp only
  rw [listB_getD]
  exact a
theorem logs_ok {ys : List (LT RT)} {L R : List Int} (h : logsL L = .ok (ys, R)) (hL : Byt L) : L = lsB recsB ys ++ R ∧ ys.length ≤ 4 ∧ ∀ (j : Nat) (y : LT RT), ys[j]? = some y → y.n ≤ 256 ∧ ∀ i, i < y.n → chkRec (y.item i) = 0 :=
  list_ok (P := fun (_ : Unit) (y : LT RT) => y.n ≤ 256 ∧ ∀ i, i < y.n → chkRec (y.item i) = 0) (fun _ _ _ _ h hL => recsL_ok h hL) h hL
theorem file_ok {s : Unit} {u : Nat × Nat} {L R : List Int} (h : fileS L = .ok (u, R)) (hL : Byt L) : L = fileB u ++ R ∧ (fun (_ : Unit) (u : Nat × Nat) => u.1 ≤ 65536 ∧ u.2 < 4294967296) s u := by
  obtain ⟨n, M, h1, h⟩ := bind_ok h
  obtain ⟨x, M2, h2, h⟩ := bind_ok h
  obtain ⟨rfl, rfl⟩ := ret_ok h
  obtain ⟨a1, a2⟩ := num_ok h1 hL
  have hM : Byt M := by rw [a1] at hL; exact hL.right
  obtain ⟨b1, b2⟩ := word_ok h2 hM
  refine ⟨?_, a2, b2⟩
  unfold fileB
  simp only
  rw [a1, b1, List.append_assoc]
/-- which key comes ahead of which -/
def rises (s : Option ByteArray) (k : ByteArray) : Prop := ∀ l, s = some l → Op.bytesLess l.toList k.toList = true
theorem rise_ok {s : Option ByteArray} {k : ByteArray} {L R : List Int} (h : riseS s L = .ok (k, R)) (hL : Byt L) : L = keyB k ++ R ∧ (k.size ≤ 12 ∧ rises s k) := by
  obtain ⟨k2, M, h1, h⟩ := bind_ok h
  obtain ⟨a1, a2⟩ := key_ok h1 hL
  cases s with
  | none =>
    obtain ⟨rfl, rfl⟩ := ret_ok (show retS k2 M = .ok (k, R) from h)
    exact ⟨a1, a2, fun l hl => by cases hl⟩
  | some l0 =>
    by_cases hc : Op.bytesLess l0.toList k2.toList = true
    · have h' : (if Op.bytesLess l0.toList k2.toList = true then retS k2 else failS 42) M = .ok (k, R) := h
      rw [if_pos hc] at h'
      obtain ⟨rfl, rfl⟩ := ret_ok h'
      exact ⟨a1, a2, fun l hl => by cases hl; exact hc⟩
    · have h' : (if Op.bytesLess l0.toList k2.toList = true then retS k2 else failS 42) M = .ok (k, R) := h
      rw [if_neg hc] at h'
      cases h'
theorem vals_ok {ys : List VT} {L R : List Int} (h : valsS L = .ok (ys, R)) (hL : Byt L) : L = lsB valB ys ++ R ∧ ys.length ≤ 6 ∧ ∀ (j : Nat) (y : VT), ys[j]? = some y → (chk y 0 0).1 = 0 :=
  list_ok (P := fun (_ : Unit) y => (chk y 0 0).1 = 0) (fun _ _ _ _ h hL => val_ok h hL) h hL
theorem cell_ok {s : Option ByteArray} {c : VT} {L R : List Int} (h : cellS s L = .ok (c, R)) (hL : Byt L) : L = cellB c ++ R ∧ (c.text.size ≤ 12 ∧ rises s c.text ∧ chkVals c = 0) := by
  obtain ⟨k, M, h1, h⟩ := bind_ok h
  obtain ⟨l, M2, h2, h⟩ := bind_ok h
  obtain ⟨rfl, rfl⟩ := ret_ok h
  obtain ⟨a1, a2, a3⟩ := rise_ok h1 hL
  have hM : Byt M := by rw [a1] at hL; exact hL.right
  obtain ⟨b1, b2, b3⟩ := vals_ok h2 hM
  refine ⟨?_, a2, a3, ?_⟩
  · unfold cellB mkC
    simp only [VT.text_mk, VT.n_mk, VT.item_mk]
    rw [listB_getD, a1, b1, List.append_assoc]
  · show (if 6 < l.length then 27 else firstC (fun q => (chk (l.getD q .nil) 0 0).1) l.length) = 0
    rw [if_neg (by omega)]
    exact firstC_zero _ fun j hj => b3 j _ (getD_get (d := .nil) hj)
theorem foldl_last {α : Type} (g : α → ByteArray) (ys : List α) (d : α) : ∀ j, 0 < j → j ≤ ys.length → (ys.take j).foldl (fun (_ : Option ByteArray) c => some (g c)) none = some (g (ys.getD (j - 1) d)) := by
  intro j hj hl
  obtain ⟨i, rfl⟩ : ∃ i, j = i + 1 := ⟨j - 1, by omega⟩
  have hi : i < ys.length := by omega
  rw [List.take_add_one, List.foldl_append]
  simp [List.getElem?_eq_getElem hi, List.getD_eq_getElem?_getD]
theorem cells_ok {ys : List VT} {L R : List Int} (h : cellsS L = .ok (ys, R)) (hL : Byt L) : L = lsB cellB ys ++ R ∧ ys.length ≤ 64 ∧ ∀ j, j < ys.length → chkCell (fun j => ys.getD j .nil) j = 0 := by
  obtain ⟨a, b, c⟩ := list_ok (P := fun s (y : VT) => y.text.size ≤ 12 ∧ rises s y.text ∧ chkVals y = 0) (fun _ _ _ _ h hL => cell_ok h hL) h hL
  refine ⟨a, b, fun j hj => ?_⟩
  obtain ⟨h1, h2, h3⟩ := c j _ (getD_get (d := .nil) hj)
  show (if 12 < (ys.getD j .nil).text.size then 24 else if 0 < j ∧ Op.bytesLess (ys.getD (j - 1) .nil).text.toList (ys.getD j .nil).text.toList = false then 27 else chkVals (ys.getD j .nil)) = 0
  rw [if_neg (by omega), if_neg (fun h4 => ?_), h3]
  have h5 := h2 _ (foldl_last VT.text ys .nil j h4.1 (by omega))
  rw [h5] at h4
  exact absurd h4.2 (by decide)
theorem chkState_of {n : Nat} {p : Option Addr} {c : Nat} {ys : List VT} (hn : n ≤ 1073741824) (hl : ys.length ≤ 64) (h : ∀ j, j < ys.length → chkCell (fun j => ys.getD j .nil) j = 0) : chkState ⟨(n : Int), p, ys.length, c, fun j => ys.getD j .nil⟩ = 0 := by
  unfold chkState
  simp only
  rw [if_neg (by omega), if_neg (by omega)]
  exact firstC_zero _ h
theorem state_ok {s : ST} {L R : List Int} (h : stateS L = .ok (s, R)) (hL : Byt L) : L = stateB s ++ R ∧ chkState s = 0 := by
  obtain ⟨n, M, h1, h⟩ := bind_ok h
  obtain ⟨ys, M2, h2, h⟩ := bind_ok h
  obtain ⟨rfl, rfl⟩ := ret_ok h
  obtain ⟨a1, a2⟩ := num_ok h1 hL
  have hM : Byt M := by rw [a1] at hL; exact hL.right
  obtain ⟨b1, b2, b3⟩ := cells_ok h2 hM
  refine ⟨?_, chkState_of a2 b2 b3⟩
  unfold stateB mkS
  simp only [Int.toNat_natCast]
  rw [listB_getD, a1, b1, List.append_assoc]
theorem gone_ok {ys : List ByteArray} {L R : List Int} (h : goneS L = .ok (ys, R)) (hL : Byt L) : L = lsB keyB ys ++ R ∧ ys.length ≤ 64 ∧ ∀ (j : Nat), j < ys.length → (ys.getD j ⟨#[]⟩).size ≤ 12 ∧ (0 < j → Op.bytesLess (ys.getD (j - 1) ⟨#[]⟩).toList (ys.getD j ⟨#[]⟩).toList = true) := by
  obtain ⟨a, b, c⟩ := list_ok (P := fun s (y : ByteArray) => y.size ≤ 12 ∧ rises s y) (fun _ _ _ _ h hL => rise_ok h hL) h hL
  refine ⟨a, b, fun j hj => ?_⟩
  obtain ⟨h1, h2⟩ := c j _ (getD_get (d := ⟨#[]⟩) hj)
  exact ⟨h1, fun h0 => h2 _ (foldl_last (fun x => x) ys ⟨#[]⟩ j h0 (by omega))⟩
end Go.Proofs.YtdbcdnljjgdkfaaGreat

namespace Go.Proofs.YtdbcdnljjgdkfaaGreat
open Go.RowKit
set_option maxRecDepth 8000
theorem encB_al : ∀ (t u : VT), VT.Alike t u → encB t = encB u := by
  intro t
  induction t with
  | nil => intro u h; rw [show u = .nil from h]
  | mk k i s n p c f ih =>
    intro u h
    cases u with
    | nil =>
      obtain ⟨h1, h2, h3, h4, h5⟩ := h
      simp only [VT.kind, VT.n] at h1 h4
      subst h1
      simp [encB]
    | mk k' i' s' n' p' c' f' =>
      obtain ⟨h1, h2, h3, h4, h5⟩ := h
      simp only [VT.kind_mk, VT.int_mk, VT.text_mk, VT.n_mk] at h1 h2 h3 h4
      subst h1 h2 h3 h4
      rw [encB_eq, encB_eq]
      have e : ((List.range n').flatMap fun j => encB (f j)) = ((List.range n').flatMap fun j => encB (f' j)) := by
        rw [List.flatMap_def, List.flatMap_def]
        congr 1
        apply List.map_congr_left
        intro j hj
        exact ih j _ (h5 j (List.mem_range.1 hj))
      rw [e]
theorem valB_al {t u : VT} (h : VT.Alike t u) : valB u = valB t := by
  unfold valB cleanT
  rw [chk_alike t u 0 0 h]
  split
  · exact (encB_al t u h).symm
  · rfl
theorem listB_congr {α : Type} {enc : α → List Int} {n : Nat} {f g : Nat → α} (h : ∀ j, j < n → enc (f j) = enc (g j)) : listB enc n f = listB enc n g := by
  unfold listB
  congr 1
  rw [List.flatMap_def, List.flatMap_def]
  congr 1
  apply List.map_congr_left
  intro j hj
  exact h j (List.mem_range.1 hj)
theorem recB_al {r u : RT} (h : RT.Alike r u) : recB u = recB r := by
  unfold recB
  rw [h.key, valB_al h.v, h.n, listB_congr fun j hj => by rw [h.loop j hj]]
theorem cellB_al {t u : VT} (h : VT.Alike t u) : cellB u = cellB t := by
  unfold cellB
  rw [h.text, h.n, listB_congr fun j hj => valB_al (h.item hj)]
theorem stateB_al {s t : ST} (h : ST.Alike s t) : stateB t = stateB s := by
  unfold stateB
  rw [h.num, h.n, listB_congr fun j hj => cellB_al (h.cell j hj)]
theorem recsB_al {l u : LT RT} (h : RecsAlike l u) : recsB u = recsB l := by
  unfold recsB
  rw [h.1, listB_congr fun j hj => recB_al (h.2 j hj)]
theorem one_rec {y t : RT} {B : List Int} (h : recS B = .ok (y, [])) (hB : Byt B) (ha : RT.Alike y t) : recB t = B ∧ chkRec t = 0 := by
  obtain ⟨a, b⟩ := rec_ok h hB
  rw [List.append_nil] at a
  exact ⟨by rw [recB_al ha, ← a], by rw [← chkRec_alike ha]; exact b⟩
theorem one_state {y t : ST} {B : List Int} (h : stateS B = .ok (y, [])) (hB : Byt B) (ha : ST.Alike y t) : stateB t = B ∧ chkState t = 0 := by
  obtain ⟨a, b⟩ := state_ok h hB
  rw [List.append_nil] at a
  exact ⟨by rw [stateB_al ha, ← a], by rw [← chkState_alike ha]; exact b⟩
theorem one_row {y : Nat × RT} {t : OT} {B : List Int} (h : outS B = .ok (y, [])) (hB : Byt B) (ha : t.num = y.1 ∧ RT.Alike y.2 t.rec_) : outB t = B ∧ t.num ≤ 1073741824 ∧ chkRec t.rec_ = 0 := by
  obtain ⟨_, M, h1, h⟩ := bind_ok h
  obtain ⟨n, M2, h2, h⟩ := bind_ok h
  obtain ⟨r, M3, h3, h⟩ := bind_ok h
  obtain ⟨rfl, rfl⟩ := ret_ok h
  have a := first_ok h1
  have hM : Byt M := by rw [a] at hB; exact hB.tail
  obtain ⟨b1, b2⟩ := num_ok h2 hM
  have hM2 : Byt M2 := by rw [b1] at hM; exact hM.right
  obtain ⟨c1, c2⟩ := rec_ok h3 hM2
  obtain ⟨d1, d2⟩ := ha
  simp only at d1 d2
  rw [List.append_nil] at c1
  refine ⟨?_, by omega, by rw [← chkRec_alike d2]; exact c2⟩
  unfold outB
  rw [d1, recB_al d2, a, b1, c1]
theorem one_man {y : Nat × Nat × List (Nat × Nat)} {t : MT} {B : List Int} (h : manS B = .ok (y, [])) (hB : Byt B) (ha : t.Is y) : manB t = B ∧ VM t := by
  obtain ⟨_, M, h1, h⟩ := bind_ok h
  obtain ⟨i, M2, h2, h⟩ := bind_ok h
  obtain ⟨u, M3, h3, h⟩ := bind_ok h
  obtain ⟨l, M4, h4, h⟩ := bind_ok h
  obtain ⟨rfl, rfl⟩ := ret_ok h
  have a := first_ok h1
  have hM : Byt M := by rw [a] at hB; exact hB.tail
  obtain ⟨b1, b2⟩ := num_ok h2 hM
  have hM2 : Byt M2 := by rw [b1] at hM; exact hM.right
  obtain ⟨c1, c2⟩ := word_ok h3 hM2
  have hM3 : Byt M3 := by rw [c1] at hM2; exact hM2.right
  obtain ⟨e1, e2, e3⟩ := list_ok (enc := fileB) (P := fun (_ : Unit) (u : Nat × Nat) => u.1 ≤ 65536 ∧ u.2 < 4294967296) (fun s _ _ _ h hL => file_ok (s := s) h hL) h4 hM3
  obtain ⟨d1, d2, d3⟩ := ha
  simp only at d1 d2 d3
  rw [List.append_nil] at e1
  have hl := isl_bytes (enc := fileB) d3 (fun y u h => by rw [h])
  refine ⟨?_, ⟨by omega, by omega, by rw [d3.1]; omega, fun j hj => ?_⟩⟩
  · unfold manB
    rw [d1, d2, hl, a, b1, c1, e1]
  · have hj' : j < l.length := by rw [← d3.1]; exact hj
    have h6 := d3.2 j l[j] (by rw [List.getElem?_eq_getElem hj'])
    rw [h6]
    exact e3 j l[j] (by rw [List.getElem?_eq_getElem hj'])
/-- the cells of a difference -/
theorem chkState_isl {n : Nat} {l : LT VT} {ys : List VT} (hn : n ≤ 1073741824) (hl : ys.length ≤ 64) (h : ∀ j, j < ys.length → chkCell (fun j => ys.getD j .nil) j = 0) (ha : Isl VT.Alike l ys) : chkState ⟨(n : Int), l.p, l.n, l.c, l.item⟩ = 0 := by
  have h1 := chkState_of (p := l.p) (c := l.c) hn hl h
  have hal : ST.Alike ⟨(n : Int), l.p, ys.length, l.c, fun j => ys.getD j .nil⟩ ⟨(n : Int), l.p, l.n, l.c, l.item⟩ := ⟨rfl, ha.1, fun j hj => ha.2 j _ (getD_get (d := .nil) hj)⟩
  rw [← chkState_alike hal]
  exact h1
theorem delta_ok {y : Nat × List VT × List ByteArray} {d : DT} {L R : List Int} (h : deltaS L = .ok (y, R)) (hL : Byt L) (ha : d.Is y) : L = deltaB d ++ R ∧ chkState ⟨(d.num : Int), d.set.p, d.set.n, d.set.c, d.set.item⟩ = 0 ∧ d.gone.n ≤ 64 ∧ Rises d.gone := by
  obtain ⟨n, M, h1, h⟩ := bind_ok h
  obtain ⟨c, M2, h2, h⟩ := bind_ok h
  obtain ⟨g, M3, h3, h⟩ := bind_ok h
  obtain ⟨rfl, rfl⟩ := ret_ok h
  obtain ⟨a1, a2⟩ := num_ok h1 hL
  have hM : Byt M := by rw [a1] at hL; exact hL.right
  obtain ⟨b1, b2, b3⟩ := cells_ok h2 hM
  have hM2 : Byt M2 := by rw [b1] at hM; exact hM.right
  obtain ⟨c1, c2, c3⟩ := gone_ok h3 hM2
  obtain ⟨d1, d2, d3⟩ := ha
  simp only at d1 d2 d3
  refine ⟨?_, by rw [d1]; exact chkState_isl a2 b2 b3 d2, by rw [d3.1]; omega, fun j hj => ?_⟩
  · unfold deltaB
    rw [d1, isl_bytes (enc := cellB) d2 (fun y u h => cellB_al h), isl_bytes (enc := keyB) d3 (fun y u h => by rw [h]), a1, b1, c1]
    simp [List.append_assoc]
  · have hj' : j < g.length := by rw [← d3.1]; exact hj
    have e : ∀ i, i < g.length → d.gone.item i = g.getD i ⟨#[]⟩ := fun i hi => d3.2 i _ (getD_get (d := ⟨#[]⟩) hi)
    obtain ⟨x1, x2⟩ := c3 j hj'
    rw [e j hj']
    refine ⟨x1, fun h0 => ?_⟩
    rw [e (j - 1) (by omega)]
    exact x2 h0
theorem isl_recs {l : LT RT} {ys : List RT} (h : Isl RT.Alike l ys) (hc : ∀ (j : Nat) (y : RT), ys[j]? = some y → chkRec y = 0) : ∀ j, j < l.n → chkRec (l.item j) = 0 := by
  intro j hj
  have hj' : j < ys.length := by rw [← h.1]; exact hj
  have h1 := h.2 j ys[j] (by rw [List.getElem?_eq_getElem hj'])
  rw [← chkRec_alike h1]
  exact hc j _ (by rw [List.getElem?_eq_getElem hj'])
theorem isl_logs {l : LT (LT RT)} {ys : List (LT RT)} (h : Isl RecsAlike l ys) (hc : ∀ (j : Nat) (y : LT RT), ys[j]? = some y → y.n ≤ 256 ∧ ∀ i, i < y.n → chkRec (y.item i) = 0) : ∀ j, j < l.n → (l.item j).n ≤ 256 ∧ ∀ i, i < (l.item j).n → chkRec ((l.item j).item i) = 0 := by
  intro j hj
  have hj' : j < ys.length := by rw [← h.1]; exact hj
  have h1 := h.2 j ys[j] (by rw [List.getElem?_eq_getElem hj'])
  obtain ⟨h2, h3⟩ := hc j _ (by rw [List.getElem?_eq_getElem hj'])
  refine ⟨by rw [h1.1]; exact h2, fun i hi => ?_⟩
  rw [h1.1] at hi
  rw [← chkRec_alike (h1.2 i hi)]
  exact h3 i hi
theorem one_seg {y : GP} {g : GT} {B : List Int} (h : segS B = .ok (y, [])) (hB : Byt B) (ha : g.Is y) : segB g = B ∧ FG g := by
  obtain ⟨_, M, h1, h⟩ := bind_ok h
  obtain ⟨i, M2, h2, h⟩ := bind_ok h
  obtain ⟨t, M3, h3, h⟩ := bind_ok h
  obtain ⟨b, M4, h4, h⟩ := bind_ok h
  have a := first_ok h1
  have hM : Byt M := by rw [a] at hB; exact hB.tail
  obtain ⟨a1, a2⟩ := num_ok h2 hM
  have hM2 : Byt M2 := by rw [a1] at hM; exact hM.right
  obtain ⟨b1, b2⟩ := num_ok h3 hM2
  have hM3 : Byt M3 := by rw [b1] at hM2; exact hM2.right
  obtain ⟨c1, c2⟩ := num_ok h4 hM3
  have hM4 : Byt M4 := by rw [c1] at hM3; exact hM3.right
  by_cases hb : b = 0
  · rw [if_pos hb] at h
    obtain ⟨s, M5, h5, h⟩ := bind_ok h
    obtain ⟨l, M6, h6, h⟩ := bind_ok h
    obtain ⟨p, M7, h7, h⟩ := bind_ok h
    obtain ⟨rfl, rfl⟩ := ret_ok h
    obtain ⟨d1, d2⟩ := state_ok h5 hM4
    have hM5 : Byt M5 := by rw [d1] at hM4; exact hM4.right
    obtain ⟨e1, e2, e3⟩ := logs_ok h6 hM5
    have hM6 : Byt M6 := by rw [e1] at hM5; exact hM5.right
    obtain ⟨f1, f2, f3⟩ := recs_ok h7 hM6
    rw [List.append_nil] at f1
    obtain ⟨g1, g2, g3, g4, g5, g6, g7, g8⟩ := ha
    simp only at g1 g2 g3 g4 g5 g6 g7 g8
    have hlg := isl_logs g7 e3
    refine ⟨?_, ⟨by omega, by omega, by omega, by omega, fun _ => ⟨g4, g6.1, by rw [g6.2.1.1]; rfl, by rw [g6.2.2.1]; rfl, by rw [← chkState_alike g5]; exact d2⟩, fun h0 => absurd g3 h0, by rw [g7.1]; omega, fun j hj => (hlg j hj).1, fun j hj => (hlg j hj).2, by rw [g8.1]; omega, isl_recs g8 f3⟩⟩
    unfold segB
    rw [if_pos g3, g1, g2, g3, stateB_al g5, isl_bytes (enc := recsB) g7 (fun y u h => recsB_al h), show recsB g.pend = lsB recB p from isl_bytes (enc := recB) g8 (fun y u h => recB_al h), a, a1, b1, c1, hb, d1, e1, f1]
  · rw [if_neg hb] at h
    obtain ⟨u, M5, h5, h⟩ := bind_ok h
    obtain ⟨dd, M6, h6, h⟩ := bind_ok h
    obtain ⟨l, M7, h7, h⟩ := bind_ok h
    obtain ⟨p, M8, h8, h⟩ := bind_ok h
    obtain ⟨rfl, rfl⟩ := ret_ok h
    obtain ⟨g1, g2, g3, g4, g5, g6, g7, g8⟩ := ha
    simp only at g1 g2 g3 g4 g5 g6 g7 g8
    obtain ⟨d1, d2⟩ := word_ok h5 hM4
    have hM5 : Byt M5 := by rw [d1] at hM4; exact hM4.right
    obtain ⟨x1, x2, x3, x4⟩ := delta_ok h6 hM5 g6
    have hM6 : Byt M6 := by rw [x1] at hM5; exact hM5.right
    obtain ⟨e1, e2, e3⟩ := logs_ok h7 hM6
    have hM7 : Byt M7 := by rw [e1] at hM6; exact hM6.right
    obtain ⟨f1, f2, f3⟩ := recs_ok h8 hM7
    rw [List.append_nil] at f1
    have hlg := isl_logs g7 e3
    have hgb : g.base ≠ 0 := by omega
    refine ⟨?_, ⟨by omega, by omega, by omega, by omega, fun h0 => absurd h0 hgb, fun _ => ⟨by rw [g5.num]; rfl, by rw [g5.n]; rfl, x2, x3, x4⟩, by rw [g7.1]; omega, fun j hj => (hlg j hj).1, fun j hj => (hlg j hj).2, by rw [g8.1]; omega, isl_recs g8 f3⟩⟩
    unfold segB
    rw [if_neg hgb, g1, g2, g3, g4, isl_bytes (enc := recsB) g7 (fun y u h => recsB_al h), show recsB g.pend = lsB recB p from isl_bytes (enc := recB) g8 (fun y u h => recB_al h), a, a1, b1, c1, d1, x1, e1, f1]
    simp [List.append_assoc]
end Go.Proofs.YtdbcdnljjgdkfaaGreat
