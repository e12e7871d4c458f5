import Derived.Test.YtoddnbmfijnkmaaDoorShpW
import Derived.ProofKit
import Derived.OpenShut
import Derived.ChangeOld
import Derived.SizedLaws
import Derived.Deep.DeepHandedRow
import Derived.Lib.LaidTab
import Derived.Lib.LaidU8T
namespace Go.Proofs.YtoddnbmfijnkmaaDoor
open Go.ChangeShapes Go.WideShapes Go.ChangeAt Go.RowKit
set_option maxRecDepth 8000

theorem own : ownKnob Tryd.prog.godebug = none := by kernel_rfl
theorem laidOut : laidOutB Tryd.prog = true := by kernel_rfl

/-- the reference's table, as data -/
def datR (k : Nat) : DataW Unit := .agg (((tabR.getD k [])).map fun z => .lit (.int .i64 z))
theorem ref_datum : ∀ k, k < 14 → ∀ d, (match (Rows.laid_eddy_eddyref7_kinds : DataW Unit) with | .agg ds => ds[k]? | _ => none) = some d → d = datR k := by
  intro k hk d h
  match k, hk with
  | 0, _ | 1, _ | 2, _ | 3, _ | 4, _ | 5, _ | 6, _ | 7, _ | 8, _ | 9, _ | 10, _ | 11, _ | 12, _ | 13, _ => exact (Option.some.inj h).symm
  | k + 14, h => omega
theorem tab_len : ∀ k, k < 14 → (tabR.getD k []).length = 7 := by decide

theorem ref_of_laid {W : World} {l : List (String × DataW Unit)} (h : laidMet Tryd.prog l W) (h1 : ("eddy/eddyref7.kinds", Rows.laid_eddy_eddyref7_kinds) ∈ l) (k j : Nat) (hk : k < 14) (hj : j < 7) : W.cell? ⟨0, k * 7 + j, none⟩ = some (.int .i64 (atR k j)) := by
  obtain ⟨g, t, cs, fuel, p, hg, hty, hvar, hd⟩ := Lib.laidMet.reads h h1
  have hg0 : Tryd.prog.globalNamed "eddy/eddyref7.kinds" = some 0 := by kernel_rfl
  obtain rfl := Option.some.inj (hg0.symm.trans hg)
  obtain rfl := Option.some.inj ((show (Tryd.prog.globals[0]?).map (·.type) = some 32 by kernel_rfl).symm.trans hty)
  obtain ⟨fuel', d, q, hdi, he⟩ := Lib.array_elem Tryd.underlying32 hd k hk
  obtain rfl := ref_datum k hk d hdi
  have hcs := Lib.cells_of_tab (zs := tabR.getD k []) Tryd.underlying31 Tryd.underlying3 (by kernel_rfl) (by kernel_rfl) he
  rw [show Tryd.prog.cellsOf 31 = 7 by kernel_rfl] at hcs
  have e0 := congrArg (·[j]?) hcs
  simp only [List.getElem?_take, List.getElem?_drop, if_pos hj] at e0
  rw [World.var?_cell hg hvar (k * 7 + j), ← Array.getElem?_toList, e0]
  have hl := tab_len k hk
  unfold atR
  rw [List.getElem?_map, List.getD_eq_getElem?_getD (l := tabR.getD k []), List.getElem?_eq_getElem (by omega)]
  rfl

/-- the code's table, as data -/
def spanD (a b : Int) : DataW Unit := .agg ([a, b].map fun z => .lit (.int .i64 z))
def datO (k : Nat) : DataW Unit := .agg [spanD (atR k 0) (atR k 1), spanD (atR k 2) (atR k 3), spanD (atR k 4) (atR k 5), .lit (.int .i64 (atR k 6))]
theorem own_datum : ∀ k, 0 < k → k < 14 → ∀ d, (match (Rows.laid_eddy_kinds_table : DataW Unit) with | .agg ds => ds[k]? | _ => none) = some d → d = datO k := by
  intro k h0 hk d h
  match k, hk with
  | 0, _ => omega
  | 1, _ | 2, _ | 3, _ | 4, _ | 5, _ | 6, _ | 7, _ | 8, _ | 9, _ | 10, _ | 11, _ | 12, _ | 13, _ => exact (Option.some.inj h).symm
  | k + 14, h => omega

theorem span_cells {W : World} {fuel : Nat} {cs : List Value} {a b : Int} {p : List MemPlace} (h : DataW.trod (fun _ => ()) Tryd.prog W 0 (fun _ => true) false fuel 26 cs = some (spanD a b, p)) : cs = [.int .i64 a, .int .i64 b] :=
  Lib.ints_of_struct (zs := [a, b]) Tryd.underlying26 (fun j f hj => by
      match j, hj with
      | 0, hj => simp at hj; subst hj; exact ⟨Tryd.underlying3, rfl, by kernel_rfl⟩
      | 1, hj => simp at hj; subst hj; exact ⟨Tryd.underlying3, rfl, by kernel_rfl⟩
      | j + 2, hj => simp at hj) (by kernel_rfl) h

theorem at_take {cs l : List Value} {o n i : Nat} (h : (cs.drop o).take n = l) (hi : i < n) : cs[o + i]? = l[i]? := by rw [← h, List.getElem?_take, if_pos hi, List.getElem?_drop]

theorem need_cells {W : World} {fuel : Nat} {cs : List Value} {k : Nat} {p : List MemPlace} (h : DataW.trod (fun _ => ()) Tryd.prog W 0 (fun _ => true) false fuel 28 cs = some (datO k, p)) (j : Nat) (hj : j < 7) : cs[j]? = some (.int .i64 (atR k j)) := by
  obtain ⟨xs, n, rfl, hx, hl, hxl, hall⟩ := DataW.trod_struct Tryd.underlying28 h
  have hxl' : xs.length = 4 := hxl
  match xs, hxl' with
  | [x0, x1, x2, x3], _ =>
    obtain ⟨a0, b0⟩ := x0
    obtain ⟨a1, b1⟩ := x1
    obtain ⟨a2, b2⟩ := x2
    obtain ⟨a3, b3⟩ := x3
    unfold datO at hx
    simp only [List.map_cons, List.map_nil, Prod.mk.injEq, DataW.agg.injEq, List.cons.injEq, and_true] at hx
    obtain ⟨⟨rfl, rfl, rfl, rfl⟩, _⟩ := hx
    have f0 := hall 0 _ rfl
    have f1 := hall 1 _ rfl
    have f2 := hall 2 _ rfl
    have f3 := hall 3 _ rfl
    have s0 := span_cells f0
    have s1 := span_cells f1
    have s2 := span_cells f2
    obtain ⟨z, s3, s4, _⟩ := DataW.trod_int Tryd.underlying3 f3
    simp only [Prod.mk.injEq, DataW.lit.injEq, Lit.int.injEq, true_and] at s4
    obtain ⟨rfl, _⟩ := s4
    have c26 : Tryd.prog.cellsOf 26 = 2 := by kernel_rfl
    have c3 : Tryd.prog.cellsOf 3 = 1 := by kernel_rfl
    have u0 : (cs.drop 0).take (Tryd.prog.cellsOf 26) = [.int .i64 (atR k 0), .int .i64 (atR k 1)] := s0
    have u1 : (cs.drop 2).take (Tryd.prog.cellsOf 26) = [.int .i64 (atR k 2), .int .i64 (atR k 3)] := s1
    have u2 : (cs.drop 4).take (Tryd.prog.cellsOf 26) = [.int .i64 (atR k 4), .int .i64 (atR k 5)] := s2
    have u3 : (cs.drop 6).take (Tryd.prog.cellsOf 3) = [.int .i64 (atR k 6)] := s3
    rw [c26] at u0 u1 u2
    rw [c3] at u3
    match j, hj with
    | 0, _ => exact at_take (i := 0) u0 (by omega)
    | 1, _ => exact at_take (i := 1) u0 (by omega)
    | 2, _ => exact at_take (i := 0) u1 (by omega)
    | 3, _ => exact at_take (i := 1) u1 (by omega)
    | 4, _ => exact at_take (i := 0) u2 (by omega)
    | 5, _ => exact at_take (i := 1) u2 (by omega)
    | 6, _ => exact at_take (i := 0) u3 (by omega)

theorem own_of_laid {W : World} {l : List (String × DataW Unit)} (h : laidMet Tryd.prog l W) (h1 : ("eddy/kinds.table", Rows.laid_eddy_kinds_table) ∈ l) (k j : Nat) (h0 : 0 < k) (hk : k < 14) (hj : j < 7) : W.cell? ⟨1, k * 7 + j, none⟩ = some (.int .i64 (atR k j)) := by
  obtain ⟨g, t, cs, fuel, p, hg, hty, hvar, hd⟩ := Lib.laidMet.reads h h1
  have hg0 : Tryd.prog.globalNamed "eddy/kinds.table" = some 1 := by kernel_rfl
  obtain rfl := Option.some.inj (hg0.symm.trans hg)
  obtain rfl := Option.some.inj ((show (Tryd.prog.globals[1]?).map (·.type) = some 33 by kernel_rfl).symm.trans hty)
  obtain ⟨fuel', d, q, hdi, he⟩ := Lib.array_elem Tryd.underlying33 hd k hk
  obtain rfl := own_datum k h0 hk d hdi
  rw [show Tryd.prog.cellsOf 28 = 7 by kernel_rfl] at he
  have e0 := need_cells he j hj
  simp only [List.getElem?_take, List.getElem?_drop, if_pos hj] at e0
  rw [World.var?_cell hg hvar (k * 7 + j), ← Array.getElem?_toList, e0]

theorem kinds_of_laid {W : World} {l : List (String × DataW Unit)} (h : laidMet Tryd.prog l W) (h1 : ("eddy/eddyref7.kinds", Rows.laid_eddy_eddyref7_kinds) ∈ l) (h2 : ("eddy/kinds.table", Rows.laid_eddy_kinds_table) ∈ l) : Kinds W :=
  ⟨ref_of_laid h h1, own_of_laid h h2⟩

/-- FOR THE WITNESS: a world, the two tables holding what their initialisers lay -/
def putCells (cs : Array Value) : Obj → Obj
  | .cells _ t frozen => .cells cs t frozen
  | o => o
def cellsR : Array Value := (tabR.flatMap fun r => r.map fun z => Value.int .i64 z).toArray
def cellsO : Array Value := (([0, 0, 0, 0, 0, 0, 0] :: tabR.tail).flatMap fun r => r.map fun z => Value.int .i64 z).toArray
noncomputable def layTab (w : World) : World := { w with heap := (w.heap.modify 0 (putCells cellsR)).modify 1 (putCells cellsO) }
end Go.Proofs.YtoddnbmfijnkmaaDoor
