import Derived.Test.YtfonicphdejdlaaGreatPack37
import Derived.Test.YtfonicphdejdlaaGreatPack25
import Derived.Test.YtfonicphdejdlaaGreatPack19
import Derived.Test.YtfonicphdejdlaaGreatWtF
namespace Go.Proofs.YtfonicphdejdlaaGreat
open Go.RowKit
set_option maxRecDepth 8000

theorem wpList_load_row_g {ops : Array Oper} {rest : List Oper} {o : Oper} {a : Act} {w : World} {Q : Exit → Act → World → Prop} (ty : TypeId) (x : Operand) (ho : o.op = .load ty x)
    (g : Nat) (hx : a.eval x = .pointer (some ⟨g, 0, none⟩)) (t : TypeId) (cs : Array Value) (fr : Nat × Nat) (d : TypeDesc) (hd : (match d with | .struct _ | .array _ _ => true | _ => false) = true) (hg : w.heap[g]? = some (.cells cs t fr))
    (hu : Tryz.prog.underlying ty = some d) (hi : (Tryz.prog.info? ty).map (·.size) = some cs.size) (hw : Region.wanted o (yielded ops a.tmps) = true)
    (h : wpList Tryz.prog ops Q rest (a.put o.dst (.agg cs)) w) : wpList Tryz.prog ops Q (o :: rest) a w :=
  wpList_step fun K hK => by rw [if_pos hw]; exact wp_load_row ty x ho g hx t cs fr d hg hu (by revert hd; cases d <;> exact id) hi (hK _ _ h)
set_option maxHeartbeats 4000000 in
theorem small_any (t : HI) (w : World) (S : Nat → Prop) (hin : HI.In w S t) (hS : ∀ b, S b → b < w.heap.size) : Calls Tryz.prog 9 #[.agg t.cells] w fun x w' => ∃ b, x = .returned (.bool b) ∧ Below w.heap.size w w' := by
  have ha : Below w.heap.size w (w.alloc (.cells t.cells 45)) := (Below.refl _ _).alloc (Nat.le_refl _) _
  have hbx := Box.new w t.cells 45
  have n1 := hin.s.i.nn
  have n2 := hin.g.st.i.nn
  have n3 := hin.g.set.nn
  have n4 := hin.g.gone.nn
  have n5 := hin.g.pend.nn
  have n6 := hin.m.nn
  have n7 := hin.g.logs.nn
  have c8 := (hbx.cell 8).trans (show t.cells[8]? = some (.slice t.s.p t.s.n t.s.c) from rfl)
  have c14 := (hbx.cell 14).trans (show t.cells[14]? = some (.slice t.g.st.p t.g.st.n t.g.st.c) from rfl)
  have c16 := (hbx.cell 16).trans (show t.cells[16]? = some (.slice t.g.set.p t.g.set.n t.g.set.c) from rfl)
  have c17 := (hbx.cell 17).trans (show t.cells[17]? = some (.slice t.g.gone.p t.g.gone.n t.g.gone.c) from rfl)
  have c18 := (hbx.cell 18).trans (show t.cells[18]? = some (.slice t.g.logs.p t.g.logs.n t.g.logs.c) from rfl)
  have c19 := (hbx.cell 19).trans (show t.cells[19]? = some (.slice t.g.pend.p t.g.pend.n t.g.pend.c) from rfl)
  have c22 := (hbx.cell 22).trans (show t.cells[22]? = some (.slice t.m.rows.p t.m.rows.n t.m.rows.c) from rfl)
  have HIn := hid (hin.below ha)
  have HS := hid (fun b (hb : S b) => show b < (w.alloc (.cells t.cells 45)).heap.size by have := hS b hb; have := ha.size; omega)
  have HA := hid ha
  have HBx := hid hbx
  clear hin hS ha hbx
  have HNs := hid (inside_any t (w.alloc (.cells t.cells 45)) S HIn.out HS.out)
  have HSize := hid (HI.size t)
  obtain ⟨cT, hcT⟩ : ∃ cT, cT = t.cells := ⟨_, rfl⟩
  rw [← hcT] at HIn HA HBx HNs HSize ⊢
  rw [← hcT] at c8 c14 c16 c17 c18 c19 c22
  clear hcT HS
  go_enter Tryz.func9, Tryz.ntmps9
  go_wp2_with fail
  go_loopw [3, 4] (fun x y wr => ∃ (v : Int) (j : Nat), j ≤ t.g.logs.n ∧ j ≤ 4096 ∧ x = .int .i64 v ∧ y = .int .i64 j ∧ wr = w.alloc (.cells cT 45) ∧ 0 ≤ v ∧ v ≤ ((j : Int) + 6) * 140737488355328) (fun x y _ => t.g.logs.n - (intOf y).toNat)
  case atStart => exact ⟨_, 0, Nat.zero_le _, by decide, rfl, rfl, rfl, by omega, by omega⟩
  case round =>
    obtain ⟨v, j, hj, hj2, rfl, rfl, rfl, hv0, hv1⟩ := hrel
    have hnn4 : (v : Int) + 140737488355328 ≤ 9223372036854775807 := by omega
    by_cases hlt : j < t.g.logs.n
    · have hlt' : (j : Int) < (t.g.logs.n : Int) := by omega
      by_cases h4 : j < 4096
      · have h4' : (j : Int) < 4096 := by omega
        obtain ⟨bb, o, hp, hSb, hbl, hat⟩ := HIn.out.g.logs.at_ (show 0 < t.g.logs.n by omega)
        have d0 : (w.alloc (.cells cT 45)).cell? ⟨bb, o + j, none⟩ = some (.slice (t.g.logs.item j).p (t.g.logs.item j).n (t.g.logs.item j).c) := by
          have h1 := hat j hlt 0 _ rfl
          simp [elRecs] at h1
          exact h1
        have hi : LT.In elRec _ S (t.g.logs.item j) := HIn.out.g.logs.each j hlt
        have hnn := hi.nn
        rw [hp] at c18
        clear hat hi
        go_wp2_with fail
        go_roundw
        case rel => exact ⟨v + (t.g.logs.item j).n, j + 1, by omega, by omega, by go_num, by go_num, trivial, by omega, by omega⟩
        case measure => simp [intOf]; omega
      · have h4' : ¬ (j : Int) < 4096 := by omega
        clear hj hj2 hv0 hv1 hnn4
        by_cases hv : v ≤ 4096
        · by_cases hl : t.g.logs.n ≤ 4096
          · exact absurd hlt (by omega)
          · have hl' : ¬ (t.g.logs.n : Int) ≤ 4096 := by omega
            go_wp2
            go_ret
            exact ⟨Or.inl rfl, HA.out⟩
        · go_wp2
          go_ret
          exact ⟨Or.inl rfl, HA.out⟩
    · have hlt' : ¬ (j : Int) < (t.g.logs.n : Int) := by omega
      clear hj hj2 hv0 hv1 hnn4
      by_cases hv : v ≤ 4096
      · by_cases hl : t.g.logs.n ≤ 4096
        · have hl' : (t.g.logs.n : Int) ≤ 4096 := by omega
          go_wp2_with (refine wpList_load_row_g 45 (.tmp 1) rfl w.heap.size rfl 45 cT (0, 0) _ rfl HBx.out Tryz.underlying45 (by rw [info45, HSize.out]) (by simp [Region.wanted, yielded, go_sem]) ?_)
          refine HNs.out.mono ?_
          rintro x w2 ⟨bv, rfl, hb2⟩
          have HF := hid (HA.out.trans (hb2.mono HA.out.size))
          clear hb2
          go_wp2
          go_ret
          exact ⟨bv, rfl, HF.out⟩
        · have hl' : ¬ (t.g.logs.n : Int) ≤ 4096 := by omega
          go_wp2
          go_ret
          exact ⟨Or.inl rfl, HA.out⟩
      · go_wp2
        go_ret
        exact ⟨Or.inl rfl, HA.out⟩
end Go.Proofs.YtfonicphdejdlaaGreat

namespace Go.Proofs.YtfonicphdejdlaaGreat
open Go.RowKit
set_option maxRecDepth 8000

def nilV : VT := .mk 0 0 ⟨#[]⟩ 0 none 0 (fun _ => .nil)
def nilR : RT := ⟨⟨#[]⟩, nilV, none, 0, 0, fun _ => 0⟩
def nilS : ST := ⟨0, none, 0, 0, fun _ => .nil⟩
def nilG : GI := ⟨0, 0, 0, 0, nilS, 0, noL .nil, noL ⟨#[]⟩, noL (noL zeroR), noL zeroR⟩
def nilM : MI := ⟨0, 0, noL (0, 0)⟩
def nilO : OI := ⟨0, nilR⟩
/-- the thing with its own kind's field alone -/
def HI.only (t : HI) : HI :=
  if t.kind = 2 then ⟨2, nilR, t.s, nilG, nilM, nilO⟩ else if t.kind = 3 then ⟨3, nilR, nilS, t.g, nilM, nilO⟩ else if t.kind = 4 then ⟨4, nilR, nilS, nilG, t.m, nilO⟩ else if t.kind = 5 then ⟨5, nilR, nilS, nilG, nilM, t.o⟩ else ⟨1, t.r, nilS, nilG, nilM, nilO⟩
set_option maxHeartbeats 4000000 in
theorem only_2 (t : HI) (w : World) (hk : t.kind = 2) : Calls Tryz.prog 10 #[.agg t.cells] w fun x w' => x = .returned (.agg (HI.cells ⟨2, nilR, t.s, nilG, nilM, nilO⟩)) ∧ Below w.heap.size w w' := by
  have ha1 : Below w.heap.size w (w.alloc (.cells t.cells 45)) := (Below.refl _ _).alloc (Nat.le_refl _) _
  have ha2 : Below (w.alloc (.cells t.cells 45)).heap.size (w.alloc (.cells t.cells 45)) ((w.alloc (.cells t.cells 45)).alloc (.cells zC 45)) := (Below.refl _ _).alloc (Nat.le_refl _) _
  have hbx := (Box.new w t.cells 45).below ha2
  have hbz : Box ((w.alloc (.cells t.cells 45)).alloc (.cells zC 45)) (w.heap.size + 1) zC 45 := heap_alloc2_new w _ _
  have c0 := (hbx.cell 0).trans (show t.cells[0]? = some (.int .i64 t.kind) from rfl)
  have c7 := (hbx.cell 7).trans (show t.cells[7]? = some (.int .i64 t.s.num) from rfl)
  have c8 := (hbx.cell 8).trans (show t.cells[8]? = some (.slice t.s.p t.s.n t.s.c) from rfl)
  have k2 : (t.kind == 2) = true := by rw [hk]; rfl
  have HA := hid (ha1.trans (ha2.mono ha1.size))
  have HBz := hid hbz
  clear hbx ha1 ha2 hbz hk
  obtain ⟨cT, hcT⟩ : ∃ cT, cT = t.cells := ⟨_, rfl⟩
  rw [← hcT] at HA HBz ⊢
  rw [← hcT] at c0 c7 c8
  unfold zC at c0 c7 c8
  clear hcT
  go_enter Tryz.func10, Tryz.ntmps10
  go_wp2_with (refine wpList_store_any rfl 45 (.tmp 2) (.tmp 9) rfl (w.heap.size + 1) (HI.cells ⟨2, nilR, t.s, nilG, nilM, nilO⟩) rfl rfl 45 zC HBz.out (by rw [info45]; rfl) rfl (HI.one _) ?_)
  intro w3 hb3 hk3
  have HB3 := hid hb3
  have HK3 := hid hk3
  clear hb3 hk3
  go_wp2
  have hf : Below w.heap.size w w3 := HA.out.trans (HK3.out.below HA.out.size (fun b hb h => by omega))
  refine bodyPost_ret (v := .agg (HI.cells ⟨2, nilR, t.s, nilG, nilM, nilO⟩)) ?_ rfl ⟨rfl, hf⟩
  exact results_cell_row rfl _ _ (w.heap.size + 1) 45 (HI.cells ⟨2, nilR, t.s, nilG, nilM, nilO⟩) (0, 0) _ rfl HB3.out Tryz.underlying45 rfl (by rw [HI.size]; exact info45)
set_option maxHeartbeats 4000000 in
theorem only_3 (t : HI) (w : World) (hk : t.kind = 3) : Calls Tryz.prog 10 #[.agg t.cells] w fun x w' => x = .returned (.agg (HI.cells ⟨3, nilR, nilS, t.g, nilM, nilO⟩)) ∧ Below w.heap.size w w' := by
  have ha1 : Below w.heap.size w (w.alloc (.cells t.cells 45)) := (Below.refl _ _).alloc (Nat.le_refl _) _
  have ha2 : Below (w.alloc (.cells t.cells 45)).heap.size (w.alloc (.cells t.cells 45)) ((w.alloc (.cells t.cells 45)).alloc (.cells zC 45)) := (Below.refl _ _).alloc (Nat.le_refl _) _
  have hbx := (Box.new w t.cells 45).below ha2
  have hbz : Box ((w.alloc (.cells t.cells 45)).alloc (.cells zC 45)) (w.heap.size + 1) zC 45 := heap_alloc2_new w _ _
  have c0 := (hbx.cell 0).trans (show t.cells[0]? = some (.int .i64 t.kind) from rfl)
  have c9 := (hbx.cell 9).trans (show t.cells[9]? = some (.int .i64 t.g.id) from rfl)
  have c10 := (hbx.cell 10).trans (show t.cells[10]? = some (.int .i64 t.g.task) from rfl)
  have c11 := (hbx.cell 11).trans (show t.cells[11]? = some (.int .i64 t.g.base) from rfl)
  have c12 := (hbx.cell 12).trans (show t.cells[12]? = some (.int .u32 (t.g.sum : Int)) from rfl)
  have c13 := (hbx.cell 13).trans (show t.cells[13]? = some (.int .i64 t.g.st.num) from rfl)
  have c14 := (hbx.cell 14).trans (show t.cells[14]? = some (.slice t.g.st.p t.g.st.n t.g.st.c) from rfl)
  have c15 := (hbx.cell 15).trans (show t.cells[15]? = some (.int .i64 t.g.dnum) from rfl)
  have c16 := (hbx.cell 16).trans (show t.cells[16]? = some (.slice t.g.set.p t.g.set.n t.g.set.c) from rfl)
  have c17 := (hbx.cell 17).trans (show t.cells[17]? = some (.slice t.g.gone.p t.g.gone.n t.g.gone.c) from rfl)
  have c18 := (hbx.cell 18).trans (show t.cells[18]? = some (.slice t.g.logs.p t.g.logs.n t.g.logs.c) from rfl)
  have c19 := (hbx.cell 19).trans (show t.cells[19]? = some (.slice t.g.pend.p t.g.pend.n t.g.pend.c) from rfl)
  have k2 : (t.kind == 2) = false := by rw [hk]; rfl
  have k3 : (t.kind == 3) = true := by rw [hk]; rfl
  have HA := hid (ha1.trans (ha2.mono ha1.size))
  have HBz := hid hbz
  clear hbx ha1 ha2 hbz hk
  obtain ⟨cT, hcT⟩ : ∃ cT, cT = t.cells := ⟨_, rfl⟩
  rw [← hcT] at HA HBz ⊢
  rw [← hcT] at c0 c9 c10 c11 c12 c13 c14 c15 c16 c17 c18 c19
  unfold zC at c0 c9 c10 c11 c12 c13 c14 c15 c16 c17 c18 c19
  clear hcT
  go_enter Tryz.func10, Tryz.ntmps10
  go_wp2_with (refine wpList_store_any rfl 45 (.tmp 2) (.tmp 14) rfl (w.heap.size + 1) (HI.cells ⟨3, nilR, nilS, t.g, nilM, nilO⟩) rfl rfl 45 zC HBz.out (by rw [info45]; rfl) rfl (HI.one _) ?_)
  intro w3 hb3 hk3
  have HB3 := hid hb3
  have HK3 := hid hk3
  clear hb3 hk3
  go_wp2
  have hf : Below w.heap.size w w3 := HA.out.trans (HK3.out.below HA.out.size (fun b hb h => by omega))
  refine bodyPost_ret (v := .agg (HI.cells ⟨3, nilR, nilS, t.g, nilM, nilO⟩)) ?_ rfl ⟨rfl, hf⟩
  exact results_cell_row rfl _ _ (w.heap.size + 1) 45 (HI.cells ⟨3, nilR, nilS, t.g, nilM, nilO⟩) (0, 0) _ rfl HB3.out Tryz.underlying45 rfl (by rw [HI.size]; exact info45)
set_option maxHeartbeats 4000000 in
theorem only_4 (t : HI) (w : World) (hk : t.kind = 4) : Calls Tryz.prog 10 #[.agg t.cells] w fun x w' => x = .returned (.agg (HI.cells ⟨4, nilR, nilS, nilG, t.m, nilO⟩)) ∧ Below w.heap.size w w' := by
  have ha1 : Below w.heap.size w (w.alloc (.cells t.cells 45)) := (Below.refl _ _).alloc (Nat.le_refl _) _
  have ha2 : Below (w.alloc (.cells t.cells 45)).heap.size (w.alloc (.cells t.cells 45)) ((w.alloc (.cells t.cells 45)).alloc (.cells zC 45)) := (Below.refl _ _).alloc (Nat.le_refl _) _
  have hbx := (Box.new w t.cells 45).below ha2
  have hbz : Box ((w.alloc (.cells t.cells 45)).alloc (.cells zC 45)) (w.heap.size + 1) zC 45 := heap_alloc2_new w _ _
  have c0 := (hbx.cell 0).trans (show t.cells[0]? = some (.int .i64 t.kind) from rfl)
  have c20 := (hbx.cell 20).trans (show t.cells[20]? = some (.int .i64 t.m.id) from rfl)
  have c21 := (hbx.cell 21).trans (show t.cells[21]? = some (.int .u32 (t.m.sum : Int)) from rfl)
  have c22 := (hbx.cell 22).trans (show t.cells[22]? = some (.slice t.m.rows.p t.m.rows.n t.m.rows.c) from rfl)
  have k2 : (t.kind == 2) = false := by rw [hk]; rfl
  have k3 : (t.kind == 3) = false := by rw [hk]; rfl
  have k4 : (t.kind == 4) = true := by rw [hk]; rfl
  have HA := hid (ha1.trans (ha2.mono ha1.size))
  have HBz := hid hbz
  clear hbx ha1 ha2 hbz hk
  obtain ⟨cT, hcT⟩ : ∃ cT, cT = t.cells := ⟨_, rfl⟩
  rw [← hcT] at HA HBz ⊢
  rw [← hcT] at c0 c20 c21 c22
  unfold zC at c0 c20 c21 c22
  clear hcT
  go_enter Tryz.func10, Tryz.ntmps10
  go_wp2_with (refine wpList_store_any rfl 45 (.tmp 2) (.tmp 19) rfl (w.heap.size + 1) (HI.cells ⟨4, nilR, nilS, nilG, t.m, nilO⟩) rfl rfl 45 zC HBz.out (by rw [info45]; rfl) rfl (HI.one _) ?_)
  intro w3 hb3 hk3
  have HB3 := hid hb3
  have HK3 := hid hk3
  clear hb3 hk3
  go_wp2
  have hf : Below w.heap.size w w3 := HA.out.trans (HK3.out.below HA.out.size (fun b hb h => by omega))
  refine bodyPost_ret (v := .agg (HI.cells ⟨4, nilR, nilS, nilG, t.m, nilO⟩)) ?_ rfl ⟨rfl, hf⟩
  exact results_cell_row rfl _ _ (w.heap.size + 1) 45 (HI.cells ⟨4, nilR, nilS, nilG, t.m, nilO⟩) (0, 0) _ rfl HB3.out Tryz.underlying45 rfl (by rw [HI.size]; exact info45)
set_option maxHeartbeats 4000000 in
theorem only_5 (t : HI) (w : World) (hk : t.kind = 5) : Calls Tryz.prog 10 #[.agg t.cells] w fun x w' => x = .returned (.agg (HI.cells ⟨5, nilR, nilS, nilG, nilM, t.o⟩)) ∧ Below w.heap.size w w' := by
  have ha1 : Below w.heap.size w (w.alloc (.cells t.cells 45)) := (Below.refl _ _).alloc (Nat.le_refl _) _
  have ha2 : Below (w.alloc (.cells t.cells 45)).heap.size (w.alloc (.cells t.cells 45)) ((w.alloc (.cells t.cells 45)).alloc (.cells zC 45)) := (Below.refl _ _).alloc (Nat.le_refl _) _
  have hbx := (Box.new w t.cells 45).below ha2
  have hbz : Box ((w.alloc (.cells t.cells 45)).alloc (.cells zC 45)) (w.heap.size + 1) zC 45 := heap_alloc2_new w _ _
  have c0 := (hbx.cell 0).trans (show t.cells[0]? = some (.int .i64 t.kind) from rfl)
  have c23 := (hbx.cell 23).trans (show t.cells[23]? = some (.int .i64 t.o.num) from rfl)
  have c24 := (hbx.cell 24).trans (show t.cells[24]? = some (.string t.o.rec_.key) from rfl)
  have c25 := (hbx.cell 25).trans (show t.cells[25]? = some (.int .i64 t.o.rec_.v.kind) from rfl)
  have c26 := (hbx.cell 26).trans (show t.cells[26]? = some (.int .i64 t.o.rec_.v.int) from rfl)
  have c27 := (hbx.cell 27).trans (show t.cells[27]? = some (.string t.o.rec_.v.text) from rfl)
  have c28 := (hbx.cell 28).trans (show t.cells[28]? = some (.slice t.o.rec_.v.p t.o.rec_.v.n t.o.rec_.v.c) from rfl)
  have c29 := (hbx.cell 29).trans (show t.cells[29]? = some (.slice t.o.rec_.p t.o.rec_.n t.o.rec_.c) from rfl)
  have k2 : (t.kind == 2) = false := by rw [hk]; rfl
  have k3 : (t.kind == 3) = false := by rw [hk]; rfl
  have k4 : (t.kind == 4) = false := by rw [hk]; rfl
  have k5 : (t.kind == 5) = true := by rw [hk]; rfl
  have HA := hid (ha1.trans (ha2.mono ha1.size))
  have HBz := hid hbz
  clear hbx ha1 ha2 hbz hk
  obtain ⟨cT, hcT⟩ : ∃ cT, cT = t.cells := ⟨_, rfl⟩
  rw [← hcT] at HA HBz ⊢
  rw [← hcT] at c0 c23 c24 c25 c26 c27 c28 c29
  unfold zC at c0 c23 c24 c25 c26 c27 c28 c29
  clear hcT
  go_enter Tryz.func10, Tryz.ntmps10
  go_wp2_with (refine wpList_store_any rfl 45 (.tmp 2) (.tmp 24) rfl (w.heap.size + 1) (HI.cells ⟨5, nilR, nilS, nilG, nilM, t.o⟩) rfl rfl 45 zC HBz.out (by rw [info45]; rfl) rfl (HI.one _) ?_)
  intro w3 hb3 hk3
  have HB3 := hid hb3
  have HK3 := hid hk3
  clear hb3 hk3
  go_wp2
  have hf : Below w.heap.size w w3 := HA.out.trans (HK3.out.below HA.out.size (fun b hb h => by omega))
  refine bodyPost_ret (v := .agg (HI.cells ⟨5, nilR, nilS, nilG, nilM, t.o⟩)) ?_ rfl ⟨rfl, hf⟩
  exact results_cell_row rfl _ _ (w.heap.size + 1) 45 (HI.cells ⟨5, nilR, nilS, nilG, nilM, t.o⟩) (0, 0) _ rfl HB3.out Tryz.underlying45 rfl (by rw [HI.size]; exact info45)
set_option maxHeartbeats 4000000 in
theorem only_1 (t : HI) (w : World) (h2 : t.kind ≠ 2) (h3 : t.kind ≠ 3) (h4 : t.kind ≠ 4) (h5 : t.kind ≠ 5) : Calls Tryz.prog 10 #[.agg t.cells] w fun x w' => x = .returned (.agg (HI.cells ⟨1, t.r, nilS, nilG, nilM, nilO⟩)) ∧ Below w.heap.size w w' := by
  have ha1 : Below w.heap.size w (w.alloc (.cells t.cells 45)) := (Below.refl _ _).alloc (Nat.le_refl _) _
  have ha2 : Below (w.alloc (.cells t.cells 45)).heap.size (w.alloc (.cells t.cells 45)) ((w.alloc (.cells t.cells 45)).alloc (.cells zC 45)) := (Below.refl _ _).alloc (Nat.le_refl _) _
  have hbx := (Box.new w t.cells 45).below ha2
  have hbz : Box ((w.alloc (.cells t.cells 45)).alloc (.cells zC 45)) (w.heap.size + 1) zC 45 := heap_alloc2_new w _ _
  have c0 := (hbx.cell 0).trans (show t.cells[0]? = some (.int .i64 t.kind) from rfl)
  have c1 := (hbx.cell 1).trans (show t.cells[1]? = some (.string t.r.key) from rfl)
  have c2 := (hbx.cell 2).trans (show t.cells[2]? = some (.int .i64 t.r.v.kind) from rfl)
  have c3 := (hbx.cell 3).trans (show t.cells[3]? = some (.int .i64 t.r.v.int) from rfl)
  have c4 := (hbx.cell 4).trans (show t.cells[4]? = some (.string t.r.v.text) from rfl)
  have c5 := (hbx.cell 5).trans (show t.cells[5]? = some (.slice t.r.v.p t.r.v.n t.r.v.c) from rfl)
  have c6 := (hbx.cell 6).trans (show t.cells[6]? = some (.slice t.r.p t.r.n t.r.c) from rfl)
  have k2 : (t.kind == 2) = false := by simpa using h2
  have k3 : (t.kind == 3) = false := by simpa using h3
  have k4 : (t.kind == 4) = false := by simpa using h4
  have k5 : (t.kind == 5) = false := by simpa using h5
  have HA := hid (ha1.trans (ha2.mono ha1.size))
  have HBz := hid hbz
  clear hbx ha1 ha2 hbz h2 h3 h4 h5
  obtain ⟨cT, hcT⟩ : ∃ cT, cT = t.cells := ⟨_, rfl⟩
  rw [← hcT] at HA HBz ⊢
  rw [← hcT] at c0 c1 c2 c3 c4 c5 c6
  unfold zC at c0 c1 c2 c3 c4 c5 c6
  clear hcT
  go_enter Tryz.func10, Tryz.ntmps10
  go_wp2_with (refine wpList_store_any rfl 45 (.tmp 2) (.tmp 27) rfl (w.heap.size + 1) (HI.cells ⟨1, t.r, nilS, nilG, nilM, nilO⟩) rfl rfl 45 zC HBz.out (by rw [info45]; rfl) rfl (HI.one _) ?_)
  intro w3 hb3 hk3
  have HB3 := hid hb3
  have HK3 := hid hk3
  clear hb3 hk3
  go_wp2
  have hf : Below w.heap.size w w3 := HA.out.trans (HK3.out.below HA.out.size (fun b hb h => by omega))
  refine bodyPost_ret (v := .agg (HI.cells ⟨1, t.r, nilS, nilG, nilM, nilO⟩)) ?_ rfl ⟨rfl, hf⟩
  exact results_cell_row rfl _ _ (w.heap.size + 1) 45 (HI.cells ⟨1, t.r, nilS, nilG, nilM, nilO⟩) (0, 0) _ rfl HB3.out Tryz.underlying45 rfl (by rw [HI.size]; exact info45)
end Go.Proofs.YtfonicphdejdlaaGreat

namespace Go.Proofs.YtfonicphdejdlaaGreat
open Go.RowKit
set_option maxRecDepth 8000

set_option maxHeartbeats 4000000 in
theorem putH_2 (t : HI) (w : World) (S : Nat → Prop) (hin : HI.In w S t) (hS : ∀ b, S b → b < w.heap.size) (hk : t.kind = 2) : Calls Tryz.prog 11 #[.agg t.cells] w fun x w' => PutR (chkState t.s) (stateB t.s) w x w' := by
  have ha : Below w.heap.size w (w.alloc (.cells t.cells 45)) := (Below.refl _ _).alloc (Nat.le_refl _) _
  have hbx := Box.new w t.cells 45
  have c0 := (hbx.cell 0).trans (show t.cells[0]? = some (.int .i64 t.kind) from rfl)
  have c7 := (hbx.cell 7).trans (show t.cells[7]? = some (.int .i64 t.s.num) from rfl)
  have c8 := (hbx.cell 8).trans (show t.cells[8]? = some (.slice t.s.p t.s.n t.s.c) from rfl)
  have k2 : (t.kind == 2) = true := by rw [hk]; rfl
  have HIn := hid (hin.below ha)
  have HS := hid (fun b (hb : S b) => show b < (w.alloc (.cells t.cells 45)).heap.size by have := hS b hb; have := ha.size; omega)
  have HC := hid (putSt_gen t.s (w.alloc (.cells t.cells 45)) S HIn.out.s HS.out)
  have HA := hid ha
  unfold ST.val at HC
  clear hbx ha hS hin HIn HS hk
  obtain ⟨cT, hcT⟩ : ∃ cT, cT = t.cells := ⟨_, rfl⟩
  rw [← hcT] at HC HA ⊢
  rw [← hcT] at c0 c7 c8
  clear hcT
  obtain ⟨k, hkk⟩ : ∃ k, k = chkState t.s := ⟨_, rfl⟩
  obtain ⟨B, hBB⟩ : ∃ B, B = stateB t.s := ⟨_, rfl⟩
  rw [← hkk, ← hBB] at HC ⊢
  clear hkk hBB
  go_enter Tryz.func11, Tryz.ntmps11
  go_wp2_with fail
  refine HC.out.mono ?_
  rintro x w1 hp
  have HF : Hid (∃ v, x = .returned (.tuple #[v, .int .i64 (k : Int)]) ∧ Below w.heap.size w w1 ∧ (k = 0 → OwnBy w.heap.size w1 v B) ∧ (k ≠ 0 → v = .slice none 0 0)) := by
    by_cases h0 : k = 0
    · obtain ⟨v, e, ho, hb⟩ := hp.1 h0
      exact ⟨v, by rw [e, h0]; rfl, HA.out.trans (hb.mono HA.out.size), fun _ => ho.mono HA.out.size, fun h => absurd h0 h⟩
    · obtain ⟨e, hb⟩ := hp.2 h0
      exact ⟨_, e, HA.out.trans (hb.mono HA.out.size), fun h => absurd h h0, fun _ => rfl⟩
  obtain ⟨v, hx, hb1, ho1, hn1⟩ := HF.out
  subst hx
  have HG := hid (And.intro hb1 (And.intro ho1 hn1))
  have HN := fun W => num_any (k : Int) W
  clear hb1 ho1 hn1 hp HC HF
  go_wp2_with fail
  refine (HN _).mono ?_
  rintro x w2 ⟨rfl, hw2⟩
  subst w2
  go_wp2
  refine bodyPost_ret (v := .tuple #[v, .int .i64 (k : Int)]) (by simp [results, Tryz.results11, go_sem]) rfl ?_
  refine ⟨fun h0 => ⟨v, by rw [h0]; rfl, HG.out.2.1 h0, HG.out.1⟩, fun h0 => ⟨by rw [HG.out.2.2 h0], HG.out.1⟩⟩
set_option maxHeartbeats 4000000 in
theorem putH_3 (t : HI) (w : World) (S : Nat → Prop) (hin : HI.In w S t) (hS : ∀ b, S b → b < w.heap.size) (hk : t.kind = 3) : Calls Tryz.prog 11 #[.agg t.cells] w fun x w' => PutR (chkSeg t.g) (segB t.g.to) w x w' := by
  have ha : Below w.heap.size w (w.alloc (.cells t.cells 45)) := (Below.refl _ _).alloc (Nat.le_refl _) _
  have hbx := Box.new w t.cells 45
  have c0 := (hbx.cell 0).trans (show t.cells[0]? = some (.int .i64 t.kind) from rfl)
  have c9 := (hbx.cell 9).trans (show t.cells[9]? = some (.int .i64 t.g.id) from rfl)
  have c10 := (hbx.cell 10).trans (show t.cells[10]? = some (.int .i64 t.g.task) from rfl)
  have c11 := (hbx.cell 11).trans (show t.cells[11]? = some (.int .i64 t.g.base) from rfl)
  have c12 := (hbx.cell 12).trans (show t.cells[12]? = some (.int .u32 (t.g.sum : Int)) from rfl)
  have c13 := (hbx.cell 13).trans (show t.cells[13]? = some (.int .i64 t.g.st.num) from rfl)
  have c14 := (hbx.cell 14).trans (show t.cells[14]? = some (.slice t.g.st.p t.g.st.n t.g.st.c) from rfl)
  have c15 := (hbx.cell 15).trans (show t.cells[15]? = some (.int .i64 t.g.dnum) from rfl)
  have c16 := (hbx.cell 16).trans (show t.cells[16]? = some (.slice t.g.set.p t.g.set.n t.g.set.c) from rfl)
  have c17 := (hbx.cell 17).trans (show t.cells[17]? = some (.slice t.g.gone.p t.g.gone.n t.g.gone.c) from rfl)
  have c18 := (hbx.cell 18).trans (show t.cells[18]? = some (.slice t.g.logs.p t.g.logs.n t.g.logs.c) from rfl)
  have c19 := (hbx.cell 19).trans (show t.cells[19]? = some (.slice t.g.pend.p t.g.pend.n t.g.pend.c) from rfl)
  have k2 : (t.kind == 2) = false := by rw [hk]; rfl
  have k3 : (t.kind == 3) = true := by rw [hk]; rfl
  have HIn := hid (hin.below ha)
  have HS := hid (fun b (hb : S b) => show b < (w.alloc (.cells t.cells 45)).heap.size by have := hS b hb; have := ha.size; omega)
  have HC := hid (putSeg_gen t.g (w.alloc (.cells t.cells 45)) S HIn.out.g HS.out)
  have HA := hid ha
  unfold GI.val at HC
  clear hbx ha hS hin HIn HS hk
  obtain ⟨cT, hcT⟩ : ∃ cT, cT = t.cells := ⟨_, rfl⟩
  rw [← hcT] at HC HA ⊢
  rw [← hcT] at c0 c9 c10 c11 c12 c13 c14 c15 c16 c17 c18 c19
  clear hcT
  obtain ⟨k, hkk⟩ : ∃ k, k = chkSeg t.g := ⟨_, rfl⟩
  obtain ⟨B, hBB⟩ : ∃ B, B = segB t.g.to := ⟨_, rfl⟩
  rw [← hkk, ← hBB] at HC ⊢
  clear hkk hBB
  go_enter Tryz.func11, Tryz.ntmps11
  go_wp2_with fail
  refine HC.out.mono ?_
  rintro x w1 hp
  have HF : Hid (∃ v, x = .returned (.tuple #[v, .int .i64 (k : Int)]) ∧ Below w.heap.size w w1 ∧ (k = 0 → OwnBy w.heap.size w1 v B) ∧ (k ≠ 0 → v = .slice none 0 0)) := by
    by_cases h0 : k = 0
    · obtain ⟨v, e, ho, hb⟩ := hp.1 h0
      exact ⟨v, by rw [e, h0]; rfl, HA.out.trans (hb.mono HA.out.size), fun _ => ho.mono HA.out.size, fun h => absurd h0 h⟩
    · obtain ⟨e, hb⟩ := hp.2 h0
      exact ⟨_, e, HA.out.trans (hb.mono HA.out.size), fun h => absurd h h0, fun _ => rfl⟩
  obtain ⟨v, hx, hb1, ho1, hn1⟩ := HF.out
  subst hx
  have HG := hid (And.intro hb1 (And.intro ho1 hn1))
  have HN := fun W => num_any (k : Int) W
  clear hb1 ho1 hn1 hp HC HF
  go_wp2_with fail
  refine (HN _).mono ?_
  rintro x w2 ⟨rfl, hw2⟩
  subst w2
  go_wp2
  refine bodyPost_ret (v := .tuple #[v, .int .i64 (k : Int)]) (by simp [results, Tryz.results11, go_sem]) rfl ?_
  refine ⟨fun h0 => ⟨v, by rw [h0]; rfl, HG.out.2.1 h0, HG.out.1⟩, fun h0 => ⟨by rw [HG.out.2.2 h0], HG.out.1⟩⟩
set_option maxHeartbeats 4000000 in
theorem putH_4 (t : HI) (w : World) (S : Nat → Prop) (hin : HI.In w S t) (hS : ∀ b, S b → b < w.heap.size) (hk : t.kind = 4) : Calls Tryz.prog 11 #[.agg t.cells] w fun x w' => PutR (chkMan t.m) (manB t.m.to) w x w' := by
  have ha : Below w.heap.size w (w.alloc (.cells t.cells 45)) := (Below.refl _ _).alloc (Nat.le_refl _) _
  have hbx := Box.new w t.cells 45
  have c0 := (hbx.cell 0).trans (show t.cells[0]? = some (.int .i64 t.kind) from rfl)
  have c20 := (hbx.cell 20).trans (show t.cells[20]? = some (.int .i64 t.m.id) from rfl)
  have c21 := (hbx.cell 21).trans (show t.cells[21]? = some (.int .u32 (t.m.sum : Int)) from rfl)
  have c22 := (hbx.cell 22).trans (show t.cells[22]? = some (.slice t.m.rows.p t.m.rows.n t.m.rows.c) from rfl)
  have k2 : (t.kind == 2) = false := by rw [hk]; rfl
  have k3 : (t.kind == 3) = false := by rw [hk]; rfl
  have k4 : (t.kind == 4) = true := by rw [hk]; rfl
  have HIn := hid (hin.below ha)
  have HS := hid (fun b (hb : S b) => show b < (w.alloc (.cells t.cells 45)).heap.size by have := hS b hb; have := ha.size; omega)
  have HC := hid (putMan_gen t.m (w.alloc (.cells t.cells 45)) S HIn.out.m HIn.out.msum HS.out)
  have HA := hid ha
  unfold MI.val at HC
  clear hbx ha hS hin HIn HS hk
  obtain ⟨cT, hcT⟩ : ∃ cT, cT = t.cells := ⟨_, rfl⟩
  rw [← hcT] at HC HA ⊢
  rw [← hcT] at c0 c20 c21 c22
  clear hcT
  obtain ⟨k, hkk⟩ : ∃ k, k = chkMan t.m := ⟨_, rfl⟩
  obtain ⟨B, hBB⟩ : ∃ B, B = manB t.m.to := ⟨_, rfl⟩
  rw [← hkk, ← hBB] at HC ⊢
  clear hkk hBB
  go_enter Tryz.func11, Tryz.ntmps11
  go_wp2_with fail
  refine HC.out.mono ?_
  rintro x w1 hp
  have HF : Hid (∃ v, x = .returned (.tuple #[v, .int .i64 (k : Int)]) ∧ Below w.heap.size w w1 ∧ (k = 0 → OwnBy w.heap.size w1 v B) ∧ (k ≠ 0 → v = .slice none 0 0)) := by
    by_cases h0 : k = 0
    · obtain ⟨v, e, ho, hb⟩ := hp.1 h0
      exact ⟨v, by rw [e, h0]; rfl, HA.out.trans (hb.mono HA.out.size), fun _ => ho.mono HA.out.size, fun h => absurd h0 h⟩
    · obtain ⟨e, hb⟩ := hp.2 h0
      exact ⟨_, e, HA.out.trans (hb.mono HA.out.size), fun h => absurd h h0, fun _ => rfl⟩
  obtain ⟨v, hx, hb1, ho1, hn1⟩ := HF.out
  subst hx
  have HG := hid (And.intro hb1 (And.intro ho1 hn1))
  have HN := fun W => num_any (k : Int) W
  clear hb1 ho1 hn1 hp HC HF
  go_wp2_with fail
  refine (HN _).mono ?_
  rintro x w2 ⟨rfl, hw2⟩
  subst w2
  go_wp2
  refine bodyPost_ret (v := .tuple #[v, .int .i64 (k : Int)]) (by simp [results, Tryz.results11, go_sem]) rfl ?_
  refine ⟨fun h0 => ⟨v, by rw [h0]; rfl, HG.out.2.1 h0, HG.out.1⟩, fun h0 => ⟨by rw [HG.out.2.2 h0], HG.out.1⟩⟩
set_option maxHeartbeats 4000000 in
theorem putH_5 (t : HI) (w : World) (S : Nat → Prop) (hin : HI.In w S t) (hS : ∀ b, S b → b < w.heap.size) (hk : t.kind = 5) : Calls Tryz.prog 11 #[.agg t.cells] w fun x w' => PutR (chkOut t.o) (outB t.o.to) w x w' := by
  have ha : Below w.heap.size w (w.alloc (.cells t.cells 45)) := (Below.refl _ _).alloc (Nat.le_refl _) _
  have hbx := Box.new w t.cells 45
  have c0 := (hbx.cell 0).trans (show t.cells[0]? = some (.int .i64 t.kind) from rfl)
  have c23 := (hbx.cell 23).trans (show t.cells[23]? = some (.int .i64 t.o.num) from rfl)
  have c24 := (hbx.cell 24).trans (show t.cells[24]? = some (.string t.o.rec_.key) from rfl)
  have c25 := (hbx.cell 25).trans (show t.cells[25]? = some (.int .i64 t.o.rec_.v.kind) from rfl)
  have c26 := (hbx.cell 26).trans (show t.cells[26]? = some (.int .i64 t.o.rec_.v.int) from rfl)
  have c27 := (hbx.cell 27).trans (show t.cells[27]? = some (.string t.o.rec_.v.text) from rfl)
  have c28 := (hbx.cell 28).trans (show t.cells[28]? = some (.slice t.o.rec_.v.p t.o.rec_.v.n t.o.rec_.v.c) from rfl)
  have c29 := (hbx.cell 29).trans (show t.cells[29]? = some (.slice t.o.rec_.p t.o.rec_.n t.o.rec_.c) from rfl)
  have k2 : (t.kind == 2) = false := by rw [hk]; rfl
  have k3 : (t.kind == 3) = false := by rw [hk]; rfl
  have k4 : (t.kind == 4) = false := by rw [hk]; rfl
  have k5 : (t.kind == 5) = true := by rw [hk]; rfl
  have HIn := hid (hin.below ha)
  have HS := hid (fun b (hb : S b) => show b < (w.alloc (.cells t.cells 45)).heap.size by have := hS b hb; have := ha.size; omega)
  have HC := hid (putRow_gen t.o (w.alloc (.cells t.cells 45)) S HIn.out.o HS.out)
  have HA := hid ha
  unfold OI.val at HC
  clear hbx ha hS hin HIn HS hk
  obtain ⟨cT, hcT⟩ : ∃ cT, cT = t.cells := ⟨_, rfl⟩
  rw [← hcT] at HC HA ⊢
  rw [← hcT] at c0 c23 c24 c25 c26 c27 c28 c29
  clear hcT
  obtain ⟨k, hkk⟩ : ∃ k, k = chkOut t.o := ⟨_, rfl⟩
  obtain ⟨B, hBB⟩ : ∃ B, B = outB t.o.to := ⟨_, rfl⟩
  rw [← hkk, ← hBB] at HC ⊢
  clear hkk hBB
  go_enter Tryz.func11, Tryz.ntmps11
  go_wp2_with fail
  refine HC.out.mono ?_
  rintro x w1 hp
  have HF : Hid (∃ v, x = .returned (.tuple #[v, .int .i64 (k : Int)]) ∧ Below w.heap.size w w1 ∧ (k = 0 → OwnBy w.heap.size w1 v B) ∧ (k ≠ 0 → v = .slice none 0 0)) := by
    by_cases h0 : k = 0
    · obtain ⟨v, e, ho, hb⟩ := hp.1 h0
      exact ⟨v, by rw [e, h0]; rfl, HA.out.trans (hb.mono HA.out.size), fun _ => ho.mono HA.out.size, fun h => absurd h0 h⟩
    · obtain ⟨e, hb⟩ := hp.2 h0
      exact ⟨_, e, HA.out.trans (hb.mono HA.out.size), fun h => absurd h h0, fun _ => rfl⟩
  obtain ⟨v, hx, hb1, ho1, hn1⟩ := HF.out
  subst hx
  have HG := hid (And.intro hb1 (And.intro ho1 hn1))
  have HN := fun W => num_any (k : Int) W
  clear hb1 ho1 hn1 hp HC HF
  go_wp2_with fail
  refine (HN _).mono ?_
  rintro x w2 ⟨rfl, hw2⟩
  subst w2
  go_wp2
  refine bodyPost_ret (v := .tuple #[v, .int .i64 (k : Int)]) (by simp [results, Tryz.results11, go_sem]) rfl ?_
  refine ⟨fun h0 => ⟨v, by rw [h0]; rfl, HG.out.2.1 h0, HG.out.1⟩, fun h0 => ⟨by rw [HG.out.2.2 h0], HG.out.1⟩⟩
set_option maxHeartbeats 4000000 in
theorem putH_1 (t : HI) (w : World) (S : Nat → Prop) (hin : HI.In w S t) (hS : ∀ b, S b → b < w.heap.size) (h2 : t.kind ≠ 2) (h3 : t.kind ≠ 3) (h4 : t.kind ≠ 4) (h5 : t.kind ≠ 5) : Calls Tryz.prog 11 #[.agg t.cells] w fun x w' => PutR (chkRec t.r) (recB t.r) w x w' := by
  have ha : Below w.heap.size w (w.alloc (.cells t.cells 45)) := (Below.refl _ _).alloc (Nat.le_refl _) _
  have hbx := Box.new w t.cells 45
  have c0 := (hbx.cell 0).trans (show t.cells[0]? = some (.int .i64 t.kind) from rfl)
  have c1 := (hbx.cell 1).trans (show t.cells[1]? = some (.string t.r.key) from rfl)
  have c2 := (hbx.cell 2).trans (show t.cells[2]? = some (.int .i64 t.r.v.kind) from rfl)
  have c3 := (hbx.cell 3).trans (show t.cells[3]? = some (.int .i64 t.r.v.int) from rfl)
  have c4 := (hbx.cell 4).trans (show t.cells[4]? = some (.string t.r.v.text) from rfl)
  have c5 := (hbx.cell 5).trans (show t.cells[5]? = some (.slice t.r.v.p t.r.v.n t.r.v.c) from rfl)
  have c6 := (hbx.cell 6).trans (show t.cells[6]? = some (.slice t.r.p t.r.n t.r.c) from rfl)
  have k2 : (t.kind == 2) = false := by simpa using h2
  have k3 : (t.kind == 3) = false := by simpa using h3
  have k4 : (t.kind == 4) = false := by simpa using h4
  have k5 : (t.kind == 5) = false := by simpa using h5
  have HIn := hid (hin.below ha)
  have HS := hid (fun b (hb : S b) => show b < (w.alloc (.cells t.cells 45)).heap.size by have := hS b hb; have := ha.size; omega)
  have HC := hid (putRec_gen t.r (w.alloc (.cells t.cells 45)) S HIn.out.r HS.out)
  have HA := hid ha
  unfold RT.val at HC
  clear hbx ha hS hin HIn HS h2 h3 h4 h5
  obtain ⟨cT, hcT⟩ : ∃ cT, cT = t.cells := ⟨_, rfl⟩
  rw [← hcT] at HC HA ⊢
  rw [← hcT] at c0 c1 c2 c3 c4 c5 c6
  clear hcT
  obtain ⟨k, hkk⟩ : ∃ k, k = chkRec t.r := ⟨_, rfl⟩
  obtain ⟨B, hBB⟩ : ∃ B, B = recB t.r := ⟨_, rfl⟩
  rw [← hkk, ← hBB] at HC ⊢
  clear hkk hBB
  go_enter Tryz.func11, Tryz.ntmps11
  go_wp2_with fail
  refine HC.out.mono ?_
  rintro x w1 hp
  have HF : Hid (∃ v, x = .returned (.tuple #[v, .int .i64 (k : Int)]) ∧ Below w.heap.size w w1 ∧ (k = 0 → OwnBy w.heap.size w1 v B) ∧ (k ≠ 0 → v = .slice none 0 0)) := by
    by_cases h0 : k = 0
    · obtain ⟨v, e, ho, hb⟩ := hp.1 h0
      exact ⟨v, by rw [e, h0]; rfl, HA.out.trans (hb.mono HA.out.size), fun _ => ho.mono HA.out.size, fun h => absurd h0 h⟩
    · obtain ⟨e, hb⟩ := hp.2 h0
      exact ⟨_, e, HA.out.trans (hb.mono HA.out.size), fun h => absurd h h0, fun _ => rfl⟩
  obtain ⟨v, hx, hb1, ho1, hn1⟩ := HF.out
  subst hx
  have HG := hid (And.intro hb1 (And.intro ho1 hn1))
  have HN := fun W => num_any (k : Int) W
  clear hb1 ho1 hn1 hp HC HF
  go_wp2_with fail
  refine (HN _).mono ?_
  rintro x w2 ⟨rfl, hw2⟩
  subst w2
  go_wp2
  refine bodyPost_ret (v := .tuple #[v, .int .i64 (k : Int)]) (by simp [results, Tryz.results11, go_sem]) rfl ?_
  refine ⟨fun h0 => ⟨v, by rw [h0]; rfl, HG.out.2.1 h0, HG.out.1⟩, fun h0 => ⟨by rw [HG.out.2.2 h0], HG.out.1⟩⟩
end Go.Proofs.YtfonicphdejdlaaGreat

namespace Go.Proofs.YtfonicphdejdlaaGreat
open Go.RowKit
set_option maxRecDepth 8000

theorem first_bad {x y : Int} {L : List Int} (h : y ≠ x) : firstS x (y :: L) = .error 41 := by
  have e : takeS 1 (y :: L) = .ok ([y], L) := by simp [takeS]
  unfold firstS bindS
  rw [e]
  show (if y = x then retS () else failS 41) L = _
  rw [if_neg h]
  rfl
theorem seg_bad {y : Int} {L : List Int} (h : y ≠ 83) : segS (y :: L) = .error 41 := by
  unfold segS bindS
  rw [first_bad h]
theorem man_bad {y : Int} {L : List Int} (h : y ≠ 77) : manS (y :: L) = .error 41 := by
  unfold manS bindS
  rw [first_bad h]
theorem out_bad {y : Int} {L : List Int} (h : y ≠ 79) : outS (y :: L) = .error 41 := by
  unfold outS bindS
  rw [first_bad h]
theorem in_nilL {α : Type} {E : El α} (w : World) (S : Nat → Prop) (d : α) : LT.In E w S (noL d) :=
  ⟨fun h => absurd h (Nat.lt_irrefl 0), fun j h => absurd h (Nat.not_lt_zero j), Nat.le_refl 0, Nat.zero_le _, Nat.zero_le _, fun _ => ⟨rfl, rfl⟩⟩
theorem in_nilG (w : World) (S : Nat → Prop) : GI.In w S nilG := ⟨by decide, by decide, by decide, by decide, by decide, by decide, by decide, in_noS w S, by decide, by decide, in_nilL w S _, in_nilL w S _, in_nilL w S _, in_nilL w S _⟩
theorem in_nilR (w : World) (S : Nat → Prop) : RT.In w S nilR := by
  refine ⟨?_, ⟨fun h => absurd h (Nat.lt_irrefl 0), Nat.le_refl 0, Nat.zero_le _, Nat.zero_le _, fun j h => absurd h (Nat.not_lt_zero j), fun _ => ⟨rfl, rfl⟩⟩, by decide⟩
  have h := in_zero w S
  exact h

theorem in_nilM (w : World) (S : Nat → Prop) : LT.In elRowI w S nilM.rows := in_nilL w S _
theorem HI.only_in {w : World} {S : Nat → Prop} {t : HI} (h : HI.In w S t) : HI.In w S t.only := by
  unfold HI.only
  split
  · exact ⟨by simp, by simp, in_nilR w S, h.s, in_nilG w S, in_nilM w S, by simp [nilM], by simp [nilM], by simp [nilM], in_nilR w S, by simp [nilO], by simp [nilO]⟩
  split
  · exact ⟨by simp, by simp, in_nilR w S, in_noS w S, h.g, in_nilM w S, by simp [nilM], by simp [nilM], by simp [nilM], in_nilR w S, by simp [nilO], by simp [nilO]⟩
  split
  · exact ⟨by simp, by simp, in_nilR w S, in_noS w S, in_nilG w S, h.m, h.msum, h.m0, h.m1, in_nilR w S, by simp [nilO], by simp [nilO]⟩
  split
  · exact ⟨by simp, by simp, in_nilR w S, in_noS w S, in_nilG w S, in_nilM w S, by simp [nilM], by simp [nilM], by simp [nilM], h.o, h.o0, h.o1⟩
  · exact ⟨by simp, by simp, h.r, in_noS w S, in_nilG w S, in_nilM w S, by simp [nilM], by simp [nilM], by simp [nilM], in_nilR w S, by simp [nilO], by simp [nilO]⟩
theorem only_any (t : HI) (w : World) : Calls Tryz.prog 10 #[.agg t.cells] w fun x w' => x = .returned (.agg t.only.cells) ∧ Below w.heap.size w w' := by
  unfold HI.only
  split
  · rename_i h; exact only_2 t w h
  split
  · rename_i h; exact only_3 t w h
  split
  · rename_i h; exact only_4 t w h
  split
  · rename_i h; exact only_5 t w h
  · rename_i h2 h3 h4 h5; exact only_1 t w h2 h3 h4 h5
end Go.Proofs.YtfonicphdejdlaaGreat

namespace Go.Proofs.YtfonicphdejdlaaGreat
open Go.RowKit
set_option maxRecDepth 8000
theorem ra_trans {r q s : RT} (h : RT.Alike r q) (k : RT.Alike q s) : RT.Alike r s := ⟨k.key.trans h.key, h.v.trans k.v, k.n.trans h.n, fun j hj => (k.loop j (by rw [h.n]; exact hj)).trans (h.loop j hj)⟩
theorem rs_trans {r q s : LT RT} (h : RecsAlike r q) (k : RecsAlike q s) : RecsAlike r s := ⟨k.1.trans h.1, fun j hj => ra_trans (h.2 j hj) (k.2 j (by rw [h.1]; exact hj))⟩
theorem ra_refl (r : RT) : RT.Alike r r := ⟨rfl, VT.Alike.refl _, rfl, fun _ _ => rfl⟩
theorem ca_of {b c : VT} (h : VT.Alike b c) : CAlike b c := ⟨h.text, h.n, fun _ hj => h.item hj⟩
theorem ca_refl (b : VT) : CAlike b b := ⟨rfl, rfl, fun _ _ => VT.Alike.refl _⟩
theorem ca_trans {a b c : VT} (h : CAlike a b) (k : CAlike b c) : CAlike a c := ⟨k.text.trans h.text, k.n.trans h.n, fun j hj => (h.item j hj).trans (k.item j (by rw [h.n]; exact hj))⟩
theorem cs_refl (l : LT VT) : CellsAlike l l := ⟨rfl, fun _ _ => ca_refl _⟩
theorem rs_refl (l : LT RT) : RecsAlike l l := ⟨rfl, fun _ _ => ra_refl _⟩
theorem sg_refl (g : GI) : SgAlike g g := ⟨rfl, rfl, rfl, rfl, rfl, rfl, ⟨rfl, fun _ _ => rs_refl _⟩, cs_refl _, cs_refl _, ⟨rfl, fun _ _ => rfl⟩, rs_refl _⟩
theorem mn_refl (m : MI) : MnAlike m m := ⟨rfl, rfl, rfl, fun _ _ => rfl⟩
theorem isl_conv {α : Type} {Q P T : α → α → Prop} {l u : LT α} {ys : List α} {d : α} (h : ys.length = l.n ∧ ∀ j, j < l.n → Q (l.item j) (ys.getD j d)) (hi : Isl P u ys) (hc : ∀ a b c, Q a b → P b c → T a c) : u.n = l.n ∧ ∀ j, j < l.n → T (l.item j) (u.item j) := by
  refine ⟨hi.1.trans h.1, fun j hj => ?_⟩
  have hj' : j < ys.length := by rw [h.1]; exact hj
  have h1 := h.2 j hj
  have h2 := hi.2 j ys[j] (by rw [List.getElem?_eq_getElem hj'])
  rw [List.getD_eq_getElem?_getD, List.getElem?_eq_getElem hj'] at h1
  exact hc _ _ _ h1 h2
/-- what is read, as a thing -/
def GT.of (u : GT) : GI := ⟨u.id, u.task, u.base, u.sum, u.st, u.d.num, u.d.set, u.d.gone, u.logs, u.pend⟩
def MT.of (u : MT) : MI := ⟨u.id, u.sum, ⟨u.rows.p, u.rows.n, u.rows.c, fun j => (((u.rows.item j).1 : Int), (u.rows.item j).2)⟩⟩
def OT.of (u : OT) : OI := ⟨u.num, u.rec_⟩
theorem GT.of_in {w : World} {S : Nat → Prop} {u : GT} (h : GT.In w S u) : GI.In w S u.of := by
  have h1 := h.id
  have h2 := h.task
  have h3 := h.base
  have h4 := h.d.n
  exact ⟨h.sum, by show _ ≤ (u.id : Int); omega, by show (u.id : Int) ≤ _; omega, by show _ ≤ (u.task : Int); omega, by show (u.task : Int) ≤ _; omega, by show _ ≤ (u.base : Int); omega, by show (u.base : Int) ≤ _; omega, h.st, by show _ ≤ (u.d.num : Int); omega, by show (u.d.num : Int) ≤ _; omega, h.d.set, h.d.gone, h.logs, h.pend⟩
theorem MT.of_in {w : World} {S : Nat → Prop} {u : MT} (h : MT.In w S u) : LT.In elRowI w S u.of.rows := by
  refine ⟨h.2.2.at_, fun j hj => ?_, h.2.2.nc, h.2.2.nn, h.2.2.cc, h.2.2.nil⟩
  have h1 : (u.rows.item j).1 ≤ 9223372036854775807 ∧ (u.rows.item j).2 < 4294967296 := h.2.2.each j hj
  exact ⟨⟨by show _ ≤ ((u.rows.item j).1 : Int); omega, by show ((u.rows.item j).1 : Int) ≤ _; omega⟩, h1.2⟩
theorem st_conv {s y u : ST} (h : SAlike s y) (k : ST.Alike y u) : u.num = s.num ∧ CellsAlike s.lt u.lt :=
  ⟨k.num.trans h.num, k.n.trans h.n, fun j hj => ca_trans (h.cell j hj) (ca_of (k.cell j (by rw [h.n]; exact hj)))⟩
theorem seg_conv {g : GI} {y : GP} {u : GT} (hb : bnd g) (hd : 0 ≤ g.dnum) (h : GAlike g.to y) (k : u.Is y) : SgAlike g u.of := by
  obtain ⟨b1, b2, b3⟩ := hb
  have e1 : u.id = g.id.toNat := k.id.trans h.id
  have e2 : u.task = g.task.toNat := k.task.trans h.task
  have e3 : u.base = g.base.toNat := k.base.trans h.base
  have e4 : u.d.num = g.dnum.toNat := k.d.1.trans h.dnum
  have hs := st_conv h.st k.st
  exact ⟨by show (u.id : Int) = g.id; omega, by show (u.task : Int) = g.task; omega, by show (u.base : Int) = g.base; omega, k.sum.trans h.sum, hs.1, by show (u.d.num : Int) = g.dnum; omega,
    isl_conv h.logs k.logs fun _ _ _ => rs_trans, hs.2, isl_conv h.set k.d.2.1 fun _ _ _ h k => ca_trans h (ca_of k), isl_conv (Q := fun a b => b = a) h.gone k.d.2.2 fun _ _ _ h k => k.trans h, isl_conv h.pend k.pend fun _ _ _ => ra_trans⟩
theorem man_conv {m : MI} {y : Nat × Nat × List (Nat × Nat)} {u : MT} (hm : 0 ≤ m.id) (hr : ∀ j, j < m.rows.n → 0 ≤ (m.rows.item j).1) (h : y.1 = m.to.id ∧ y.2.1 = m.to.sum ∧ y.2.2.length = m.to.rows.n ∧ ∀ j, j < m.to.rows.n → y.2.2.getD j (0, 0) = m.to.rows.item j) (k : u.Is y) : MnAlike m u.of := by
  have e1 : u.id = m.id.toNat := k.1.trans h.1
  have hl := isl_conv (Q := fun a b => b = a) (P := fun y u => u = y) (T := fun a c => c = a) (l := m.to.rows) h.2.2 k.2.2 fun _ _ _ h k => k.trans h
  refine ⟨by show (u.id : Int) = m.id; omega, k.2.1.trans h.2.1, hl.1, fun j hj => ?_⟩
  have h1 := hl.2 j hj
  have h2 := hr j hj
  have h3 : u.rows.item j = ((m.rows.item j).1.toNat, (m.rows.item j).2) := h1
  show (((u.rows.item j).1 : Int), (u.rows.item j).2) = m.rows.item j
  rw [h3]
  show (((m.rows.item j).1.toNat : Int), (m.rows.item j).2) = m.rows.item j
  rw [Int.toNat_of_nonneg h2]
/-- what get comes to on the bytes E of a thing, on a beginning of them, and with bytes behind them -/
def GetH (t : HI) (k : Int) (E B : List Int) (W : World) (x : Ending) (w' : World) : Prop :=
  ∃ (u : HI) (e : Int), x = .returned (.tuple #[.agg u.cells, .int .i64 e]) ∧ HI.In w' (fun b => b < w'.heap.size) u ∧ Below W.heap.size W w' ∧
    (B = E → e = 0 ∧ ThAlike t u ∧ ∀ W2, Below w'.heap.size w' W2 → Calls Tryz.prog 11 #[.agg u.cells] W2 fun x w'' => PutP B W2 x w'') ∧
    (∀ C, E = B ++ C → C ≠ [] → e ≠ 0 ∧ e ≠ 44 ∧ u.cells = kC k) ∧
    (∀ C, B = E ++ C → C ≠ [] → e = 44 ∧ u.cells = kC k)
theorem getH_1 (r : RT) (E : List Int) (hBk : Back recS E (fun y => RT.Alike r y)) (w : World) (S : Nat → Prop) (p : Option Addr) (c : Nat) (B : List Int) (hB : Byts w S p B.length c (fun j => B.getD j 0)) (hS : ∀ b, S b → b < w.heap.size) (hByt : Byt B) (W : World) (hW : Below w.heap.size w W) :
    Calls Tryz.prog 12 #[.int .i64 1, .slice p B.length c] W fun x w' => GetH ⟨1, r, nilS, nilG, nilM, nilO⟩ 1 E B W x w' := by
  refine (lawgetRec 1 (by decide) (by decide) (by decide) (by decide) W (.slice p B.length c) (fun W t k w' => GetP recS RT.val zRT RT.In (fun t y => RT.Alike y t) W B t k w') (fun _ _ _ _ h => h.bel) (fun W2 hW2 => getRec W2 S p c B (hB.kept (Nat.le_trans hW.size hW2.size) fun b _ hl => (hW2.block b (Nat.lt_of_lt_of_le hl hW.size)).trans (hW.block b hl)) (fun b hb => Nat.lt_of_lt_of_le (hS b hb) (Nat.le_trans hW.size hW2.size)))).mono ?_
  rintro x w' ⟨t, e, W1, wg, rfl, hbW, hWs, hg, hkg⟩
  have hsg := hg.bel.size
  have hsW := hbW.size
  have hb : Below W.heap.size W w' := (hbW.trans (hg.bel.mono (by omega))).trans (hkg.below (by omega) (fun k hk h => by omega))
  have hin : RT.In w' (fun b => W1.heap.size ≤ b) t := RT.In.but hg.inn hkg (fun b hb _ h => by omega)
  have hin2 := RT.In.mono (S' := fun b => b < w'.heap.size) hin (fun b _ hl => hl)
  refine ⟨⟨1, t, nilS, nilG, nilM, nilO⟩, e, rfl, ⟨by simp, by simp, hin2, in_noS _ _, in_nilG _ _, in_nilM _ _, by simp [nilM], by simp [nilM], by simp [nilM], in_nilR _ _, by simp [nilO], by simp [nilO]⟩, hb, fun hE => ?_, fun C hE hC => ?_, fun C hE hC => ?_⟩
  · subst hE
    obtain ⟨y, hq, hQ⟩ := hBk.whole []
    rw [List.append_nil] at hq
    obtain ⟨he, hi⟩ := hg.good y hq
    refine ⟨he, ⟨ra_trans hQ hi, rfl, cs_refl _, rfl, ra_refl _, sg_refl _, mn_refl _⟩, fun W2 hW2 => ?_⟩
    have h1 := one_rec hq hByt hi
    have hin3 := RT.In.below hin2 hW2
    have hS2 : ∀ b, b < w'.heap.size → b < W2.heap.size := fun b hb => Nat.lt_of_lt_of_le hb hW2.size
    have h2 := lawputRec 1 (by decide) (by decide) (by decide) (by decide) t W2 (fun b => b < w'.heap.size) hin3 h1.2 hS2
    rw [h1.1] at h2
    exact h2
  · obtain ⟨e2, h1, h2, h3⟩ := hBk.short B C hE hC
    obtain ⟨h4, h5, h6⟩ := hg.bad e2 h1
    exact ⟨by rw [h4]; omega, by rw [h4]; omega, by subst h6; rfl⟩
  · obtain ⟨y, hq, hQ⟩ := hBk.whole C
    rw [← hE] at hq
    cases C with
    | nil => exact absurd rfl hC
    | cons a R =>
      obtain ⟨h1, h2⟩ := hg.more y a R hq
      exact ⟨h1, by subst h2; rfl⟩
theorem getH_2 (s : ST) (E : List Int) (hBk : Back stateS E (fun y => SAlike s y)) (w : World) (S : Nat → Prop) (p : Option Addr) (c : Nat) (B : List Int) (hB : Byts w S p B.length c (fun j => B.getD j 0)) (hS : ∀ b, S b → b < w.heap.size) (hByt : Byt B) (W : World) (hW : Below w.heap.size w W) :
    Calls Tryz.prog 12 #[.int .i64 2, .slice p B.length c] W fun x w' => GetH ⟨2, nilR, s, nilG, nilM, nilO⟩ 2 E B W x w' := by
  refine (lawgetSt W (.slice p B.length c) (fun W t k w' => GetP stateS ST.val noS ST.In2 (fun t y => ST.Alike y t) W B t k w') (fun _ _ _ _ h => h.bel) (fun W2 hW2 => getSt W2 S p c B (hB.kept (Nat.le_trans hW.size hW2.size) fun b _ hl => (hW2.block b (Nat.lt_of_lt_of_le hl hW.size)).trans (hW.block b hl)) (fun b hb => Nat.lt_of_lt_of_le (hS b hb) (Nat.le_trans hW.size hW2.size)))).mono ?_
  rintro x w' ⟨t, e, W1, wg, rfl, hbW, hWs, hg, hkg⟩
  have hsg := hg.bel.size
  have hsW := hbW.size
  have hb : Below W.heap.size W w' := (hbW.trans (hg.bel.mono (by omega))).trans (hkg.below (by omega) (fun k hk h => by omega))
  have hin : ST.In2 w' (fun b => W1.heap.size ≤ b) t := ST.In2.but hg.inn hkg (fun b hb _ h => by omega)
  have hin2 := ST.In2.mono (S' := fun b => b < w'.heap.size) hin (fun b _ hl => hl)
  refine ⟨⟨2, nilR, t, nilG, nilM, nilO⟩, e, rfl, ⟨by simp, by simp, in_nilR _ _, hin2, in_nilG _ _, in_nilM _ _, by simp [nilM], by simp [nilM], by simp [nilM], in_nilR _ _, by simp [nilO], by simp [nilO]⟩, hb, fun hE => ?_, fun C hE hC => ?_, fun C hE hC => ?_⟩
  · subst hE
    obtain ⟨y, hq, hQ⟩ := hBk.whole []
    rw [List.append_nil] at hq
    obtain ⟨he, hi⟩ := hg.good y hq
    refine ⟨he, ⟨ra_refl _, (st_conv hQ hi).1, (st_conv hQ hi).2, rfl, ra_refl _, sg_refl _, mn_refl _⟩, fun W2 hW2 => ?_⟩
    have h1 := one_state hq hByt hi
    have hin3 := ST.In2.below hin2 hW2
    have hS2 : ∀ b, b < w'.heap.size → b < W2.heap.size := fun b hb => Nat.lt_of_lt_of_le hb hW2.size
    have h2 := lawputSt t W2 (fun b => b < w'.heap.size) hin3 h1.2 hS2
    rw [h1.1] at h2
    exact h2
  · obtain ⟨e2, h1, h2, h3⟩ := hBk.short B C hE hC
    obtain ⟨h4, h5, h6⟩ := hg.bad e2 h1
    exact ⟨by rw [h4]; omega, by rw [h4]; omega, by subst h6; rfl⟩
  · obtain ⟨y, hq, hQ⟩ := hBk.whole C
    rw [← hE] at hq
    cases C with
    | nil => exact absurd rfl hC
    | cons a R =>
      obtain ⟨h1, h2⟩ := hg.more y a R hq
      exact ⟨h1, by subst h2; rfl⟩
theorem getH_3 (g : GI) (hbn : bnd g) (hdn : 0 ≤ g.dnum) (E : List Int) (hBk : Back segS E (fun y => GAlike g.to y)) (w : World) (S : Nat → Prop) (p : Option Addr) (c : Nat) (B : List Int) (hB : Byts w S p B.length c (fun j => B.getD j 0)) (hS : ∀ b, S b → b < w.heap.size) (hByt : Byt B) (W : World) (hW : Below w.heap.size w W) :
    Calls Tryz.prog 12 #[.int .i64 3, .slice p B.length c] W fun x w' => GetH ⟨3, nilR, nilS, g, nilM, nilO⟩ 3 E B W x w' := by
  refine (lawgetSeg W (.slice p B.length c) (fun W t k w' => GetP segS GT.val zGT GT.In GT.Is W B t k w') (fun _ _ _ _ h => h.bel) (fun W2 hW2 => getSeg W2 S p c B (hB.kept (Nat.le_trans hW.size hW2.size) fun b _ hl => (hW2.block b (Nat.lt_of_lt_of_le hl hW.size)).trans (hW.block b hl)) (fun b hb => Nat.lt_of_lt_of_le (hS b hb) (Nat.le_trans hW.size hW2.size)))).mono ?_
  rintro x w' ⟨t, e, W1, wg, rfl, hbW, hWs, hg, hkg⟩
  have hsg := hg.bel.size
  have hsW := hbW.size
  have hb : Below W.heap.size W w' := (hbW.trans (hg.bel.mono (by omega))).trans (hkg.below (by omega) (fun k hk h => by omega))
  have hin : GT.In w' (fun b => W1.heap.size ≤ b) t := GT.In.but hg.inn hkg (fun b hb _ h => by omega)
  have hin2 := GT.In.mono (S' := fun b => b < w'.heap.size) hin (fun b _ hl => hl)
  refine ⟨⟨3, nilR, nilS, t.of, nilM, nilO⟩, e, rfl, ⟨by simp, by simp, in_nilR _ _, in_noS _ _, GT.of_in hin2, in_nilM _ _, by simp [nilM], by simp [nilM], by simp [nilM], in_nilR _ _, by simp [nilO], by simp [nilO]⟩, hb, fun hE => ?_, fun C hE hC => ?_, fun C hE hC => ?_⟩
  · subst hE
    obtain ⟨y, hq, hQ⟩ := hBk.whole []
    rw [List.append_nil] at hq
    obtain ⟨he, hi⟩ := hg.good y hq
    refine ⟨he, ⟨ra_refl _, rfl, cs_refl _, rfl, ra_refl _, seg_conv hbn hdn hQ hi, mn_refl _⟩, fun W2 hW2 => ?_⟩
    have h1 := one_seg hq hByt hi
    have hin3 := GT.In.below hin2 hW2
    have hS2 : ∀ b, b < w'.heap.size → b < W2.heap.size := fun b hb => Nat.lt_of_lt_of_le hb hW2.size
    have h2 := lawputSeg t W2 (fun b => b < w'.heap.size) hin3 h1.2 hS2
    rw [h1.1] at h2
    exact h2
  · obtain ⟨e2, h1, h2, h3⟩ := hBk.short B C hE hC
    obtain ⟨h4, h5, h6⟩ := hg.bad e2 h1
    exact ⟨by rw [h4]; omega, by rw [h4]; omega, by subst h6; rfl⟩
  · obtain ⟨y, hq, hQ⟩ := hBk.whole C
    rw [← hE] at hq
    cases C with
    | nil => exact absurd rfl hC
    | cons a R =>
      obtain ⟨h1, h2⟩ := hg.more y a R hq
      exact ⟨h1, by subst h2; rfl⟩
theorem getH_4 (m : MI) (hid0 : 0 ≤ m.id) (hrw : ∀ j, j < m.rows.n → 0 ≤ (m.rows.item j).1) (E : List Int) (hBk : Back manS E (fun y => y.1 = m.to.id ∧ y.2.1 = m.to.sum ∧ y.2.2.length = m.to.rows.n ∧ ∀ j, j < m.to.rows.n → y.2.2.getD j (0, 0) = m.to.rows.item j)) (w : World) (S : Nat → Prop) (p : Option Addr) (c : Nat) (B : List Int) (hB : Byts w S p B.length c (fun j => B.getD j 0)) (hS : ∀ b, S b → b < w.heap.size) (hByt : Byt B) (W : World) (hW : Below w.heap.size w W) :
    Calls Tryz.prog 12 #[.int .i64 4, .slice p B.length c] W fun x w' => GetH ⟨4, nilR, nilS, nilG, m, nilO⟩ 4 E B W x w' := by
  refine (lawgetMan W (.slice p B.length c) (fun W t k w' => GetP manS MT.val zMT MT.In MT.Is W B t k w') (fun _ _ _ _ h => h.bel) (fun W2 hW2 => getMan W2 S p c B (hB.kept (Nat.le_trans hW.size hW2.size) fun b _ hl => (hW2.block b (Nat.lt_of_lt_of_le hl hW.size)).trans (hW.block b hl)) (fun b hb => Nat.lt_of_lt_of_le (hS b hb) (Nat.le_trans hW.size hW2.size)))).mono ?_
  rintro x w' ⟨t, e, W1, wg, rfl, hbW, hWs, hg, hkg⟩
  have hsg := hg.bel.size
  have hsW := hbW.size
  have hb : Below W.heap.size W w' := (hbW.trans (hg.bel.mono (by omega))).trans (hkg.below (by omega) (fun k hk h => by omega))
  have hin : MT.In w' (fun b => W1.heap.size ≤ b) t := MT.In.but hg.inn hkg (fun b hb _ h => by omega)
  have hin2 := MT.In.mono (S' := fun b => b < w'.heap.size) hin (fun b _ hl => hl)
  refine ⟨⟨4, nilR, nilS, nilG, t.of, nilO⟩, e, rfl, ⟨by simp, by simp, in_nilR _ _, in_noS _ _, in_nilG _ _, MT.of_in hin2, hin2.2.1, by have := hin2.1; show _ ≤ (t.id : Int); omega, by have := hin2.1; show (t.id : Int) ≤ _; omega, in_nilR _ _, by simp [nilO], by simp [nilO]⟩, hb, fun hE => ?_, fun C hE hC => ?_, fun C hE hC => ?_⟩
  · subst hE
    obtain ⟨y, hq, hQ⟩ := hBk.whole []
    rw [List.append_nil] at hq
    obtain ⟨he, hi⟩ := hg.good y hq
    refine ⟨he, ⟨ra_refl _, rfl, cs_refl _, rfl, ra_refl _, sg_refl _, man_conv hid0 hrw hQ hi⟩, fun W2 hW2 => ?_⟩
    have h1 := one_man hq hByt hi
    have hin3 := MT.In.below hin2 hW2
    have hS2 : ∀ b, b < w'.heap.size → b < W2.heap.size := fun b hb => Nat.lt_of_lt_of_le hb hW2.size
    have h2 := lawputMan t W2 (fun b => b < w'.heap.size) hin3.2.2 h1.2 hS2
    rw [h1.1] at h2
    exact h2
  · obtain ⟨e2, h1, h2, h3⟩ := hBk.short B C hE hC
    obtain ⟨h4, h5, h6⟩ := hg.bad e2 h1
    exact ⟨by rw [h4]; omega, by rw [h4]; omega, by subst h6; rfl⟩
  · obtain ⟨y, hq, hQ⟩ := hBk.whole C
    rw [← hE] at hq
    cases C with
    | nil => exact absurd rfl hC
    | cons a R =>
      obtain ⟨h1, h2⟩ := hg.more y a R hq
      exact ⟨h1, by subst h2; rfl⟩
theorem getH_5 (q : OI) (hn0 : 0 ≤ q.num) (E : List Int) (hBk : Back outS E (fun y => y.1 = q.to.num ∧ RT.Alike q.to.rec_ y.2)) (w : World) (S : Nat → Prop) (p : Option Addr) (c : Nat) (B : List Int) (hB : Byts w S p B.length c (fun j => B.getD j 0)) (hS : ∀ b, S b → b < w.heap.size) (hByt : Byt B) (W : World) (hW : Below w.heap.size w W) :
    Calls Tryz.prog 12 #[.int .i64 5, .slice p B.length c] W fun x w' => GetH ⟨5, nilR, nilS, nilG, nilM, q⟩ 5 E B W x w' := by
  refine (lawgetRow W (.slice p B.length c) (fun W t k w' => GetP outS OT.val zOT OT.In (fun o y => o.num = y.1 ∧ RT.Alike y.2 o.rec_) W B t k w') (fun _ _ _ _ h => h.bel) (fun W2 hW2 => getRow W2 S p c B (hB.kept (Nat.le_trans hW.size hW2.size) fun b _ hl => (hW2.block b (Nat.lt_of_lt_of_le hl hW.size)).trans (hW.block b hl)) (fun b hb => Nat.lt_of_lt_of_le (hS b hb) (Nat.le_trans hW.size hW2.size)))).mono ?_
  rintro x w' ⟨t, e, W1, wg, rfl, hbW, hWs, hg, hkg⟩
  have hsg := hg.bel.size
  have hsW := hbW.size
  have hb : Below W.heap.size W w' := (hbW.trans (hg.bel.mono (by omega))).trans (hkg.below (by omega) (fun k hk h => by omega))
  have hin : OT.In w' (fun b => W1.heap.size ≤ b) t := OT.In.but hg.inn hkg (fun b hb _ h => by omega)
  have hin2 := OT.In.mono (S' := fun b => b < w'.heap.size) hin (fun b _ hl => hl)
  refine ⟨⟨5, nilR, nilS, nilG, nilM, t.of⟩, e, rfl, ⟨by simp, by simp, in_nilR _ _, in_noS _ _, in_nilG _ _, in_nilM _ _, by simp [nilM], by simp [nilM], by simp [nilM], hin2.2, by have := hin2.1; show _ ≤ (t.num : Int); omega, by have := hin2.1; show (t.num : Int) ≤ _; omega⟩, hb, fun hE => ?_, fun C hE hC => ?_, fun C hE hC => ?_⟩
  · subst hE
    obtain ⟨y, hq, hQ⟩ := hBk.whole []
    rw [List.append_nil] at hq
    obtain ⟨he, hi⟩ := hg.good y hq
    refine ⟨he, ⟨ra_refl _, rfl, cs_refl _, (by have h1 : t.num = q.num.toNat := hi.1.trans hQ.1; show (t.num : Int) = q.num; omega), ra_trans hQ.2 hi.2, sg_refl _, mn_refl _⟩, fun W2 hW2 => ?_⟩
    have h1 := one_row hq hByt hi
    have hin3 := OT.In.below hin2 hW2
    have hS2 : ∀ b, b < w'.heap.size → b < W2.heap.size := fun b hb => Nat.lt_of_lt_of_le hb hW2.size
    have h2 := lawputRow t W2 (fun b => b < w'.heap.size) hin3.2 h1.2.1 h1.2.2 hS2
    rw [h1.1] at h2
    exact h2
  · obtain ⟨e2, h1, h2, h3⟩ := hBk.short B C hE hC
    obtain ⟨h4, h5, h6⟩ := hg.bad e2 h1
    exact ⟨by rw [h4]; omega, by rw [h4]; omega, by subst h6; rfl⟩
  · obtain ⟨y, hq, hQ⟩ := hBk.whole C
    rw [← hE] at hq
    cases C with
    | nil => exact absurd rfl hC
    | cons a R =>
      obtain ⟨h1, h2⟩ := hg.more y a R hq
      exact ⟨h1, by subst h2; rfl⟩
end Go.Proofs.YtfonicphdejdlaaGreat
