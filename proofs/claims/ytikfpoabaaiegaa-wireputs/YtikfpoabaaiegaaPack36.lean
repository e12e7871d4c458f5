import Derived.Test.YtikfpoabaaiegaaPack13
import Derived.Test.YtikfpoabaaiegaaStepC
import Derived.Deep.WholeRow
import Derived.Test.YtikfpoabaaiegaaPack35
namespace Go.Proofs.Ytikfpoabaaiegaa
open Go.RowKit
set_option maxRecDepth 8000
/-- what a Get comes to: a thing, whose error is k -/
structure GetP {α β : Type} (s : RS α) (val : β → Value) (zero : β) (In : World → (Nat → Prop) → β → Prop) (Is : β → α → Prop) (w : World) (B : List Int) (t : β) (k : Int) (w' : World) : Prop where
  bel : Below w.heap.size w w'
  inn : In w' (fun b => w.heap.size ≤ b) t
  good : ∀ y, s B = .ok (y, []) → k = 0 ∧ Is t y
  more : ∀ y z R, s B = .ok (y, z :: R) → k = 44 ∧ t = zero
  bad : ∀ e : Nat, s B = .error e → k = (e : Int) ∧ e ≠ 0 ∧ t = zero
theorem WholeP.get {α β : Type} {s : RS α} {val : β → Value} {zero : β} {In : World → (Nat → Prop) → β → Prop} {Is : β → α → Prop} {w : World} {B : List Int} {x : Ending} {w' : World} (h : WholeP s val (val zero) In Is w B x w') (hz : ∀ W S, In W S zero) : ∃ t k, x = .returned (.tuple #[val t, .int .i64 k]) ∧ GetP s val zero In Is w B t k w' := by
  cases hq : s B with
  | error e =>
    obtain ⟨h1, h2⟩ := h.bad e hq
    exact ⟨zero, (e : Int), h1, h.bel, hz _ _, fun y hy => (by rw [hq] at hy; cases hy), fun y z R hy => (by rw [hq] at hy; cases hy), fun e2 he => (by rw [hq] at he; cases he; exact ⟨rfl, h2, rfl⟩)⟩
  | ok z =>
    obtain ⟨y, R⟩ := z
    cases R with
    | nil =>
      obtain ⟨t, h1, h2, h3⟩ := h.good y hq
      exact ⟨t, 0, h1, h.bel, h2, fun y2 hy => (by rw [hq] at hy; cases hy; exact ⟨rfl, h3⟩), fun y z R hy => (by rw [hq] at hy; cases hy), fun e2 he => (by rw [hq] at he; cases he)⟩
    | cons a R =>
      have h1 := h.more y a R hq
      exact ⟨zero, 44, h1, h.bel, hz _ _, fun y2 hy => (by rw [hq] at hy; cases hy), fun y z R hy => ⟨rfl, rfl⟩, fun e2 he => (by rw [hq] at he; cases he)⟩
def zRT : RT := ⟨⟨#[]⟩, mkN, none, 0, 0, fun _ => 0⟩
def zMT : MT := ⟨0, 0, noL (0, 0)⟩
def zOT : OT := ⟨0, zRT⟩
def zGT : GT := ⟨0, 0, 0, 0, noS, noD, noL (noL zRT), noL zRT⟩
theorem in_zRT (w : World) (S : Nat → Prop) : RT.In w S zRT := ⟨in_zero w S, ⟨fun h => absurd h (by decide), by decide, by decide, by decide, fun j h => absurd h (Nat.not_lt_zero j), fun _ => ⟨rfl, rfl⟩⟩, by decide⟩
theorem in_zMT (w : World) (S : Nat → Prop) : MT.In w S zMT := ⟨by decide, by decide, LT.In.none_ _ _ _ _ _ _ (by decide) (fun _ => rfl)⟩
theorem in_zOT (w : World) (S : Nat → Prop) : OT.In w S zOT := ⟨by decide, in_zRT w S⟩
theorem in_zGT (w : World) (S : Nat → Prop) : GT.In w S zGT := ⟨by decide, by decide, by decide, by decide, in_noS w S, in_noD w S, LT.In.none_ _ _ _ _ _ _ (by decide) (fun _ => rfl), LT.In.none_ _ _ _ _ _ _ (by decide) (fun _ => rfl)⟩
end Go.Proofs.Ytikfpoabaaiegaa

namespace Go.Proofs.Ytikfpoabaaiegaa
open Go.RowKit
set_option maxRecDepth 8000
set_option maxHeartbeats 1000000 in
theorem num_any (e : Int) (w : World) : Calls Try.prog 19 #[.int .i64 e] w fun x w' => x = .returned (.int .i64 e) ∧ w' = w := by
  go_enter Try.func19, Try.ntmps19
  go_wp2
  go_ret
  exact ⟨rfl, rfl⟩
theorem setRow_box {w : World} {b : Nat} {c c' : Array Value} {e : TypeId} (h : Box w b c e) : Box (w.setRow b c') b c' e := setRow_heap w b c c' e (0, 0) h
theorem setRow_but (w : World) (b : Nat) (c' : Array Value) : But (fun y => y = b) w (w.setRow b c') := by
  refine ⟨rfl, rfl, rfl, ?_, fun k _ hk => setRow_other w b k c' hk⟩
  simp [World.setRow]
theorem load_thing {w : World} {b : Nat} {c : Array Value} {e : TypeId} (h : Box w b c e) (hc : c.size = 30) : (loadCellsFrom ⟨b, 0, none⟩ 0 30 #[]).run Try.prog w = .ok c w := by
  have := run_loadCells_list (P := Try.prog) w ⟨b, 0, none⟩ c.toList (fun j v hv => by
    have hadd : (⟨b, 0, none⟩ : Addr).add j = ⟨b, j, none⟩ := by unfold Addr.add; split <;> simp_all
    rw [hadd, h.cell j]
    simpa using hv)
  rw [← hc]
  simpa [loadCells] using this
theorem info45 : (Try.prog.info? 45).map (·.size) = some 30 := by kernel_rfl
theorem store_thing {w : World} {b : Nat} {c c' : Array Value} {e : TypeId} (h : Box w b c e) (hc : c.size = 30) (hc' : c'.size = 30) (h1 : c'.all (·.oneCell') = true) : (storeCells ⟨b, 0, none⟩ c'.toList 0).run Try.prog w = .ok () (w.setRow b c') := by
  have := run_storeVar_row (P := Try.prog) w b e 45 c c' h (by rw [hc']; exact info45) (by omega) h1
  cases hq : Try.prog.info? 45 with
  | none => have := info45; rw [hq] at this; cases this
  | some i =>
    have hs : c'.size = i.size := by have := info45; rw [hq] at this; simp at this; omega
    simpa [storeVar, sizeOf, typeInfo, hq, Value.cells, hs] using this
theorem wpList_store_any {ops : Array Oper} {rest : List Oper} {o : Oper} {a : Act} {w : World} {Q : Exit → Act → World → Prop} (hgd : o.guard = none) (ty : TypeId) (x y : Operand) (ho : o.op = .store ty x y)
    (g : Nat) (cells : Array Value) (hx : a.eval x = .pointer (some ⟨g, 0, none⟩)) (hy : a.eval y = .agg cells)
    (t : TypeId) (old : Array Value) (hg : Box w g old t) (hi : (Try.prog.info? ty).map (·.size) = some cells.size)
    (hold : old.size = cells.size) (h1 : cells.all (·.oneCell') = true)
    (h : ∀ w', Box w' g cells t → But (fun y => y = g) w w' → wpList Try.prog ops Q rest (a.put o.dst undef) w') : wpList Try.prog ops Q (o :: rest) a w :=
  wpList_store_row hgd ty x y ho g cells hx hy t old hg hi hold h1 (h _ (setRow_box hg) (setRow_but _ _ _))
/-- the thirty cells of a thing without anything, and with its kind -/
def zC : Array Value := #[.int .i64 0, .string ⟨#[]⟩, .int .i64 0, .int .i64 0, .string ⟨#[]⟩, .slice none 0 0, .slice none 0 0, .int .i64 0, .slice none 0 0, .int .i64 0, .int .i64 0, .int .i64 0, .int .u32 0, .int .i64 0, .slice none 0 0, .int .i64 0, .slice none 0 0, .slice none 0 0, .slice none 0 0, .slice none 0 0, .int .i64 0, .int .u32 0, .slice none 0 0, .int .i64 0, .string ⟨#[]⟩, .int .i64 0, .int .i64 0, .string ⟨#[]⟩, .slice none 0 0, .slice none 0 0]
def kC (k : Int) : Array Value := #[.int .i64 k, .string ⟨#[]⟩, .int .i64 0, .int .i64 0, .string ⟨#[]⟩, .slice none 0 0, .slice none 0 0, .int .i64 0, .slice none 0 0, .int .i64 0, .int .i64 0, .int .i64 0, .int .u32 0, .int .i64 0, .slice none 0 0, .int .i64 0, .slice none 0 0, .slice none 0 0, .slice none 0 0, .slice none 0 0, .int .i64 0, .int .u32 0, .slice none 0 0, .int .i64 0, .string ⟨#[]⟩, .int .i64 0, .int .i64 0, .string ⟨#[]⟩, .slice none 0 0, .slice none 0 0]
theorem kC_one (k : Int) : (kC k).all (·.oneCell') = true := by simp [kC, Value.oneCell']
theorem kC_size (k : Int) : (kC k).size = 30 := rfl
theorem zC_size : zC.size = 30 := rfl
theorem start_thing (w : World) (k : Int) : Box (((w.alloc (.cells zC 45)).alloc (.cells zC 45)).setRow (w.heap.size + 1) (kC k)) w.heap.size zC 45 ∧ Box (((w.alloc (.cells zC 45)).alloc (.cells zC 45)).setRow (w.heap.size + 1) (kC k)) (w.heap.size + 1) (kC k) 45 ∧ Below w.heap.size w (((w.alloc (.cells zC 45)).alloc (.cells zC 45)).setRow (w.heap.size + 1) (kC k)) ∧ (((w.alloc (.cells zC 45)).alloc (.cells zC 45)).setRow (w.heap.size + 1) (kC k)).heap.size = w.heap.size + 2 := by
  have h1 : Box ((w.alloc (.cells zC 45)).alloc (.cells zC 45)) (w.heap.size + 1) zC 45 := heap_alloc2_new w _ _
  have h0 : Box ((w.alloc (.cells zC 45)).alloc (.cells zC 45)) w.heap.size zC 45 := (Box.new w _ _).below ((Below.refl _ _).alloc (Nat.le_refl _) _)
  have hb : Below w.heap.size w ((w.alloc (.cells zC 45)).alloc (.cells zC 45)) := ((Below.refl _ _).alloc (Nat.le_refl _) _).alloc (by simp) _
  have hk := setRow_but ((w.alloc (.cells zC 45)).alloc (.cells zC 45)) (w.heap.size + 1) (kC k)
  refine ⟨h0.but hk (by omega), setRow_box h1, hb.trans (hk.below hb.size (fun j hj e => by omega)), ?_⟩
  have : ((w.alloc (.cells zC 45)).alloc (.cells zC 45)).heap.size = w.heap.size + 2 := by simp
  simp [World.setRow]
end Go.Proofs.Ytikfpoabaaiegaa

namespace Go.Proofs.Ytikfpoabaaiegaa
open Go.RowKit
set_option maxRecDepth 8000

theorem wpList_load_row_g {ops : Array Oper} {rest : List Oper} {o : Oper} {a : Act} {w : World} {Q : Exit → Act → World → Prop} (ty : TypeId) (x : Operand) (ho : o.op = .load ty x)
    (g : Nat) (hx : a.eval x = .pointer (some ⟨g, 0, none⟩)) (t : TypeId) (cs : Array Value) (fr : Nat × Nat) (d : TypeDesc) (hd : (match d with | .struct _ | .array _ _ => true | _ => false) = true) (hg : w.heap[g]? = some (.cells cs t fr))
    (hu : Try.prog.underlying ty = some d) (hi : (Try.prog.info? ty).map (·.size) = some cs.size) (hw : Region.wanted o (yielded ops a.tmps) = true)
    (h : wpList Try.prog ops Q rest (a.put o.dst (.agg cs)) w) : wpList Try.prog ops Q (o :: rest) a w :=
  wpList_step fun K hK => by rw [if_pos hw]; exact wp_load_row ty x ho g hx t cs fr d hg hu (by revert hd; cases d <;> exact id) hi (hK _ _ h)
set_option maxHeartbeats 4000000 in
theorem small_any (t : HI) (w : World) (S : Nat → Prop) (hin : HI.In w S t) (hS : ∀ b, S b → b < w.heap.size) : Calls Try.prog 5 #[.agg t.cells] w fun x w' => ∃ b, x = .returned (.bool b) ∧ Below w.heap.size w w' := by
  have ha : Below w.heap.size w (w.alloc (.cells t.cells 45)) := (Below.refl _ _).alloc (Nat.le_refl _) _
  have hbx := Box.new w t.cells 45
  have n1 := hin.s.i.nn
  have n2 := hin.g.st.i.nn
  have n3 := hin.g.set.nn
  have n4 := hin.g.gone.nn
  have n5 := hin.g.pend.nn
  have n6 := hin.m.nn
  have n7 := hin.g.logs.nn
  have c8 := (hbx.cell 8).trans (show t.cells[8]? = some (.slice t.s.p t.s.n t.s.c) from rfl)
  have c14 := (hbx.cell 14).trans (show t.cells[14]? = some (.slice t.g.st.p t.g.st.n t.g.st.c) from rfl)
  have c16 := (hbx.cell 16).trans (show t.cells[16]? = some (.slice t.g.set.p t.g.set.n t.g.set.c) from rfl)
  have c17 := (hbx.cell 17).trans (show t.cells[17]? = some (.slice t.g.gone.p t.g.gone.n t.g.gone.c) from rfl)
  have c18 := (hbx.cell 18).trans (show t.cells[18]? = some (.slice t.g.logs.p t.g.logs.n t.g.logs.c) from rfl)
  have c19 := (hbx.cell 19).trans (show t.cells[19]? = some (.slice t.g.pend.p t.g.pend.n t.g.pend.c) from rfl)
  have c22 := (hbx.cell 22).trans (show t.cells[22]? = some (.slice t.m.rows.p t.m.rows.n t.m.rows.c) from rfl)
  have HIn := hid (hin.below ha)
  have HS := hid (fun b (hb : S b) => show b < (w.alloc (.cells t.cells 45)).heap.size by have := hS b hb; have := ha.size; omega)
  have HA := hid ha
  have HBx := hid hbx
  clear hin hS ha hbx
  have HNs := hid (inside_any t (w.alloc (.cells t.cells 45)) S HIn.out HS.out)
  have HSize := hid (HI.size t)
  obtain ⟨cT, hcT⟩ : ∃ cT, cT = t.cells := ⟨_, rfl⟩
  rw [← hcT] at HIn HA HBx HNs HSize ⊢
  rw [← hcT] at c8 c14 c16 c17 c18 c19 c22
  clear hcT HS
  go_enter Try.func5, Try.ntmps5
  go_wp2_with fail
  go_loopw [3, 4] (fun x y wr => ∃ (v : Int) (j : Nat), j ≤ t.g.logs.n ∧ j ≤ 4096 ∧ x = .int .i64 v ∧ y = .int .i64 j ∧ wr = w.alloc (.cells cT 45) ∧ 0 ≤ v ∧ v ≤ ((j : Int) + 6) * 140737488355328) (fun x y _ => t.g.logs.n - (intOf y).toNat)
  case atStart => exact ⟨_, 0, Nat.zero_le _, by decide, rfl, rfl, rfl, by omega, by omega⟩
  case round =>
    obtain ⟨v, j, hj, hj2, rfl, rfl, rfl, hv0, hv1⟩ := hrel
    have hnn4 : (v : Int) + 140737488355328 ≤ 9223372036854775807 := by omega
    by_cases hlt : j < t.g.logs.n
    · have hlt' : (j : Int) < (t.g.logs.n : Int) := by omega
      by_cases h4 : j < 4096
      · have h4' : (j : Int) < 4096 := by omega
        obtain ⟨bb, o, hp, hSb, hbl, hat⟩ := HIn.out.g.logs.at_ (show 0 < t.g.logs.n by omega)
        have d0 : (w.alloc (.cells cT 45)).cell? ⟨bb, o + j, none⟩ = some (.slice (t.g.logs.item j).p (t.g.logs.item j).n (t.g.logs.item j).c) := by
          have h1 := hat j hlt 0 _ rfl
          simp [elRecs] at h1
          exact h1
        have hi : LT.In elRec _ S (t.g.logs.item j) := HIn.out.g.logs.each j hlt
        have hnn := hi.nn
        rw [hp] at c18
        clear hat hi
        go_wp2_with fail
        go_roundw
        case rel => exact ⟨v + (t.g.logs.item j).n, j + 1, by omega, by omega, by go_num, by go_num, trivial, by omega, by omega⟩
        case measure => simp [intOf]; omega
      · have h4' : ¬ (j : Int) < 4096 := by omega
        clear hj hj2 hv0 hv1 hnn4
        by_cases hv : v ≤ 4096
        · by_cases hl : t.g.logs.n ≤ 4096
          · exact absurd hlt (by omega)
          · have hl' : ¬ (t.g.logs.n : Int) ≤ 4096 := by omega
            go_wp2
            go_ret
            exact ⟨Or.inl rfl, HA.out⟩
        · go_wp2
          go_ret
          exact ⟨Or.inl rfl, HA.out⟩
    · have hlt' : ¬ (j : Int) < (t.g.logs.n : Int) := by omega
      clear hj hj2 hv0 hv1 hnn4
      by_cases hv : v ≤ 4096
      · by_cases hl : t.g.logs.n ≤ 4096
        · have hl' : (t.g.logs.n : Int) ≤ 4096 := by omega
          go_wp2_with (refine wpList_load_row_g 45 (.tmp 1) rfl w.heap.size rfl 45 cT (0, 0) _ rfl HBx.out Try.underlying45 (by rw [info45, HSize.out]) (by simp [Region.wanted, yielded, go_sem]) ?_)
          refine HNs.out.mono ?_
          rintro x w2 ⟨bv, rfl, hb2⟩
          have HF := hid (HA.out.trans (hb2.mono HA.out.size))
          clear hb2
          go_wp2
          go_ret
          exact ⟨bv, rfl, HF.out⟩
        · have hl' : ¬ (t.g.logs.n : Int) ≤ 4096 := by omega
          go_wp2
          go_ret
          exact ⟨Or.inl rfl, HA.out⟩
      · go_wp2
        go_ret
        exact ⟨Or.inl rfl, HA.out⟩
end Go.Proofs.Ytikfpoabaaiegaa

namespace Go.Proofs.Ytikfpoabaaiegaa
open Go.RowKit
set_option maxRecDepth 8000

def nilV : VT := .mk 0 0 ⟨#[]⟩ 0 none 0 (fun _ => .nil)
def nilR : RT := ⟨⟨#[]⟩, nilV, none, 0, 0, fun _ => 0⟩
def nilS : ST := ⟨0, none, 0, 0, fun _ => .nil⟩
def nilG : GI := ⟨0, 0, 0, 0, nilS, 0, noL .nil, noL ⟨#[]⟩, noL (noL zeroR), noL zeroR⟩
def nilM : MI := ⟨0, 0, noL (0, 0)⟩
def nilO : OI := ⟨0, nilR⟩
/-- the thing with its own kind's field alone -/
def HI.only (t : HI) : HI :=
  if t.kind = 2 then ⟨2, nilR, t.s, nilG, nilM, nilO⟩ else if t.kind = 3 then ⟨3, nilR, nilS, t.g, nilM, nilO⟩ else if t.kind = 4 then ⟨4, nilR, nilS, nilG, t.m, nilO⟩ else if t.kind = 5 then ⟨5, nilR, nilS, nilG, nilM, t.o⟩ else ⟨1, t.r, nilS, nilG, nilM, nilO⟩
end Go.Proofs.Ytikfpoabaaiegaa

namespace Go.Proofs.Ytikfpoabaaiegaa
open Go.RowKit
set_option maxRecDepth 8000

set_option maxHeartbeats 4000000 in
theorem putH_2 (t : HI) (w : World) (S : Nat → Prop) (hin : HI.In w S t) (hS : ∀ b, S b → b < w.heap.size) (hk : t.kind = 2) : Calls Try.prog 7 #[.agg t.cells] w fun x w' => PutR (chkState t.s) (stateB t.s) w x w' := by
  have ha : Below w.heap.size w (w.alloc (.cells t.cells 45)) := (Below.refl _ _).alloc (Nat.le_refl _) _
  have hbx := Box.new w t.cells 45
  have c0 := (hbx.cell 0).trans (show t.cells[0]? = some (.int .i64 t.kind) from rfl)
  have c7 := (hbx.cell 7).trans (show t.cells[7]? = some (.int .i64 t.s.num) from rfl)
  have c8 := (hbx.cell 8).trans (show t.cells[8]? = some (.slice t.s.p t.s.n t.s.c) from rfl)
  have k2 : (t.kind == 2) = true := by rw [hk]; rfl
  have HIn := hid (hin.below ha)
  have HS := hid (fun b (hb : S b) => show b < (w.alloc (.cells t.cells 45)).heap.size by have := hS b hb; have := ha.size; omega)
  have HC := hid (putSt_gen t.s (w.alloc (.cells t.cells 45)) S HIn.out.s HS.out)
  have HA := hid ha
  unfold ST.val at HC
  clear hbx ha hS hin HIn HS hk
  obtain ⟨cT, hcT⟩ : ∃ cT, cT = t.cells := ⟨_, rfl⟩
  rw [← hcT] at HC HA ⊢
  rw [← hcT] at c0 c7 c8
  clear hcT
  obtain ⟨k, hkk⟩ : ∃ k, k = chkState t.s := ⟨_, rfl⟩
  obtain ⟨B, hBB⟩ : ∃ B, B = stateB t.s := ⟨_, rfl⟩
  rw [← hkk, ← hBB] at HC ⊢
  clear hkk hBB
  go_enter Try.func7, Try.ntmps7
  go_wp2_with fail
  refine HC.out.mono ?_
  rintro x w1 hp
  have HF : Hid (∃ v, x = .returned (.tuple #[v, .int .i64 (k : Int)]) ∧ Below w.heap.size w w1 ∧ (k = 0 → OwnBy w.heap.size w1 v B) ∧ (k ≠ 0 → v = .slice none 0 0)) := by
    by_cases h0 : k = 0
    · obtain ⟨v, e, ho, hb⟩ := hp.1 h0
      exact ⟨v, by rw [e, h0]; rfl, HA.out.trans (hb.mono HA.out.size), fun _ => ho.mono HA.out.size, fun h => absurd h0 h⟩
    · obtain ⟨e, hb⟩ := hp.2 h0
      exact ⟨_, e, HA.out.trans (hb.mono HA.out.size), fun h => absurd h h0, fun _ => rfl⟩
  obtain ⟨v, hx, hb1, ho1, hn1⟩ := HF.out
  subst hx
  have HG := hid (And.intro hb1 (And.intro ho1 hn1))
  have HN := fun W => num_any (k : Int) W
  clear hb1 ho1 hn1 hp HC HF
  go_wp2_with fail
  refine (HN _).mono ?_
  rintro x w2 ⟨rfl, hw2⟩
  subst w2
  go_wp2
  refine bodyPost_ret (v := .tuple #[v, .int .i64 (k : Int)]) (by simp [results, Try.results7, go_sem]) rfl ?_
  refine ⟨fun h0 => ⟨v, by rw [h0]; rfl, HG.out.2.1 h0, HG.out.1⟩, fun h0 => ⟨by rw [HG.out.2.2 h0], HG.out.1⟩⟩
set_option maxHeartbeats 4000000 in
theorem putH_3 (t : HI) (w : World) (S : Nat → Prop) (hin : HI.In w S t) (hS : ∀ b, S b → b < w.heap.size) (hk : t.kind = 3) : Calls Try.prog 7 #[.agg t.cells] w fun x w' => PutR (chkSeg t.g) (segB t.g.to) w x w' := by
  have ha : Below w.heap.size w (w.alloc (.cells t.cells 45)) := (Below.refl _ _).alloc (Nat.le_refl _) _
  have hbx := Box.new w t.cells 45
  have c0 := (hbx.cell 0).trans (show t.cells[0]? = some (.int .i64 t.kind) from rfl)
  have c9 := (hbx.cell 9).trans (show t.cells[9]? = some (.int .i64 t.g.id) from rfl)
  have c10 := (hbx.cell 10).trans (show t.cells[10]? = some (.int .i64 t.g.task) from rfl)
  have c11 := (hbx.cell 11).trans (show t.cells[11]? = some (.int .i64 t.g.base) from rfl)
  have c12 := (hbx.cell 12).trans (show t.cells[12]? = some (.int .u32 (t.g.sum : Int)) from rfl)
  have c13 := (hbx.cell 13).trans (show t.cells[13]? = some (.int .i64 t.g.st.num) from rfl)
  have c14 := (hbx.cell 14).trans (show t.cells[14]? = some (.slice t.g.st.p t.g.st.n t.g.st.c) from rfl)
  have c15 := (hbx.cell 15).trans (show t.cells[15]? = some (.int .i64 t.g.dnum) from rfl)
  have c16 := (hbx.cell 16).trans (show t.cells[16]? = some (.slice t.g.set.p t.g.set.n t.g.set.c) from rfl)
  have c17 := (hbx.cell 17).trans (show t.cells[17]? = some (.slice t.g.gone.p t.g.gone.n t.g.gone.c) from rfl)
  have c18 := (hbx.cell 18).trans (show t.cells[18]? = some (.slice t.g.logs.p t.g.logs.n t.g.logs.c) from rfl)
  have c19 := (hbx.cell 19).trans (show t.cells[19]? = some (.slice t.g.pend.p t.g.pend.n t.g.pend.c) from rfl)
  have k2 : (t.kind == 2) = false := by rw [hk]; rfl
  have k3 : (t.kind == 3) = true := by rw [hk]; rfl
  have HIn := hid (hin.below ha)
  have HS := hid (fun b (hb : S b) => show b < (w.alloc (.cells t.cells 45)).heap.size by have := hS b hb; have := ha.size; omega)
  have HC := hid (putSeg_gen t.g (w.alloc (.cells t.cells 45)) S HIn.out.g HS.out)
  have HA := hid ha
  unfold GI.val at HC
  clear hbx ha hS hin HIn HS hk
  obtain ⟨cT, hcT⟩ : ∃ cT, cT = t.cells := ⟨_, rfl⟩
  rw [← hcT] at HC HA ⊢
  rw [← hcT] at c0 c9 c10 c11 c12 c13 c14 c15 c16 c17 c18 c19
  clear hcT
  obtain ⟨k, hkk⟩ : ∃ k, k = chkSeg t.g := ⟨_, rfl⟩
  obtain ⟨B, hBB⟩ : ∃ B, B = segB t.g.to := ⟨_, rfl⟩
  rw [← hkk, ← hBB] at HC ⊢
  clear hkk hBB
  go_enter Try.func7, Try.ntmps7
  go_wp2_with fail
  refine HC.out.mono ?_
  rintro x w1 hp
  have HF : Hid (∃ v, x = .returned (.tuple #[v, .int .i64 (k : Int)]) ∧ Below w.heap.size w w1 ∧ (k = 0 → OwnBy w.heap.size w1 v B) ∧ (k ≠ 0 → v = .slice none 0 0)) := by
    by_cases h0 : k = 0
    · obtain ⟨v, e, ho, hb⟩ := hp.1 h0
      exact ⟨v, by rw [e, h0]; rfl, HA.out.trans (hb.mono HA.out.size), fun _ => ho.mono HA.out.size, fun h => absurd h0 h⟩
    · obtain ⟨e, hb⟩ := hp.2 h0
      exact ⟨_, e, HA.out.trans (hb.mono HA.out.size), fun h => absurd h h0, fun _ => rfl⟩
  obtain ⟨v, hx, hb1, ho1, hn1⟩ := HF.out
  subst hx
  have HG := hid (And.intro hb1 (And.intro ho1 hn1))
  have HN := fun W => num_any (k : Int) W
  clear hb1 ho1 hn1 hp HC HF
  go_wp2_with fail
  refine (HN _).mono ?_
  rintro x w2 ⟨rfl, hw2⟩
  subst w2
  go_wp2
  refine bodyPost_ret (v := .tuple #[v, .int .i64 (k : Int)]) (by simp [results, Try.results7, go_sem]) rfl ?_
  refine ⟨fun h0 => ⟨v, by rw [h0]; rfl, HG.out.2.1 h0, HG.out.1⟩, fun h0 => ⟨by rw [HG.out.2.2 h0], HG.out.1⟩⟩
set_option maxHeartbeats 4000000 in
theorem putH_4 (t : HI) (w : World) (S : Nat → Prop) (hin : HI.In w S t) (hS : ∀ b, S b → b < w.heap.size) (hk : t.kind = 4) : Calls Try.prog 7 #[.agg t.cells] w fun x w' => PutR (chkMan t.m) (manB t.m.to) w x w' := by
  have ha : Below w.heap.size w (w.alloc (.cells t.cells 45)) := (Below.refl _ _).alloc (Nat.le_refl _) _
  have hbx := Box.new w t.cells 45
  have c0 := (hbx.cell 0).trans (show t.cells[0]? = some (.int .i64 t.kind) from rfl)
  have c20 := (hbx.cell 20).trans (show t.cells[20]? = some (.int .i64 t.m.id) from rfl)
  have c21 := (hbx.cell 21).trans (show t.cells[21]? = some (.int .u32 (t.m.sum : Int)) from rfl)
  have c22 := (hbx.cell 22).trans (show t.cells[22]? = some (.slice t.m.rows.p t.m.rows.n t.m.rows.c) from rfl)
  have k2 : (t.kind == 2) = false := by rw [hk]; rfl
  have k3 : (t.kind == 3) = false := by rw [hk]; rfl
  have k4 : (t.kind == 4) = true := by rw [hk]; rfl
  have HIn := hid (hin.below ha)
  have HS := hid (fun b (hb : S b) => show b < (w.alloc (.cells t.cells 45)).heap.size by have := hS b hb; have := ha.size; omega)
  have HC := hid (putMan_gen t.m (w.alloc (.cells t.cells 45)) S HIn.out.m HIn.out.msum HS.out)
  have HA := hid ha
  unfold MI.val at HC
  clear hbx ha hS hin HIn HS hk
  obtain ⟨cT, hcT⟩ : ∃ cT, cT = t.cells := ⟨_, rfl⟩
  rw [← hcT] at HC HA ⊢
  rw [← hcT] at c0 c20 c21 c22
  clear hcT
  obtain ⟨k, hkk⟩ : ∃ k, k = chkMan t.m := ⟨_, rfl⟩
  obtain ⟨B, hBB⟩ : ∃ B, B = manB t.m.to := ⟨_, rfl⟩
  rw [← hkk, ← hBB] at HC ⊢
  clear hkk hBB
  go_enter Try.func7, Try.ntmps7
  go_wp2_with fail
  refine HC.out.mono ?_
  rintro x w1 hp
  have HF : Hid (∃ v, x = .returned (.tuple #[v, .int .i64 (k : Int)]) ∧ Below w.heap.size w w1 ∧ (k = 0 → OwnBy w.heap.size w1 v B) ∧ (k ≠ 0 → v = .slice none 0 0)) := by
    by_cases h0 : k = 0
    · obtain ⟨v, e, ho, hb⟩ := hp.1 h0
      exact ⟨v, by rw [e, h0]; rfl, HA.out.trans (hb.mono HA.out.size), fun _ => ho.mono HA.out.size, fun h => absurd h0 h⟩
    · obtain ⟨e, hb⟩ := hp.2 h0
      exact ⟨_, e, HA.out.trans (hb.mono HA.out.size), fun h => absurd h h0, fun _ => rfl⟩
  obtain ⟨v, hx, hb1, ho1, hn1⟩ := HF.out
  subst hx
  have HG := hid (And.intro hb1 (And.intro ho1 hn1))
  have HN := fun W => num_any (k : Int) W
  clear hb1 ho1 hn1 hp HC HF
  go_wp2_with fail
  refine (HN _).mono ?_
  rintro x w2 ⟨rfl, hw2⟩
  subst w2
  go_wp2
  refine bodyPost_ret (v := .tuple #[v, .int .i64 (k : Int)]) (by simp [results, Try.results7, go_sem]) rfl ?_
  refine ⟨fun h0 => ⟨v, by rw [h0]; rfl, HG.out.2.1 h0, HG.out.1⟩, fun h0 => ⟨by rw [HG.out.2.2 h0], HG.out.1⟩⟩
set_option maxHeartbeats 4000000 in
theorem putH_5 (t : HI) (w : World) (S : Nat → Prop) (hin : HI.In w S t) (hS : ∀ b, S b → b < w.heap.size) (hk : t.kind = 5) : Calls Try.prog 7 #[.agg t.cells] w fun x w' => PutR (chkOut t.o) (outB t.o.to) w x w' := by
  have ha : Below w.heap.size w (w.alloc (.cells t.cells 45)) := (Below.refl _ _).alloc (Nat.le_refl _) _
  have hbx := Box.new w t.cells 45
  have c0 := (hbx.cell 0).trans (show t.cells[0]? = some (.int .i64 t.kind) from rfl)
  have c23 := (hbx.cell 23).trans (show t.cells[23]? = some (.int .i64 t.o.num) from rfl)
  have c24 := (hbx.cell 24).trans (show t.cells[24]? = some (.string t.o.rec_.key) from rfl)
  have c25 := (hbx.cell 25).trans (show t.cells[25]? = some (.int .i64 t.o.rec_.v.kind) from rfl)
  have c26 := (hbx.cell 26).trans (show t.cells[26]? = some (.int .i64 t.o.rec_.v.int) from rfl)
  have c27 := (hbx.cell 27).trans (show t.cells[27]? = some (.string t.o.rec_.v.text) from rfl)
  have c28 := (hbx.cell 28).trans (show t.cells[28]? = some (.slice t.o.rec_.v.p t.o.rec_.v.n t.o.rec_.v.c) from rfl)
  have c29 := (hbx.cell 29).trans (show t.cells[29]? = some (.slice t.o.rec_.p t.o.rec_.n t.o.rec_.c) from rfl)
  have k2 : (t.kind == 2) = false := by rw [hk]; rfl
  have k3 : (t.kind == 3) = false := by rw [hk]; rfl
  have k4 : (t.kind == 4) = false := by rw [hk]; rfl
  have k5 : (t.kind == 5) = true := by rw [hk]; rfl
  have HIn := hid (hin.below ha)
  have HS := hid (fun b (hb : S b) => show b < (w.alloc (.cells t.cells 45)).heap.size by have := hS b hb; have := ha.size; omega)
  have HC := hid (putRow_gen t.o (w.alloc (.cells t.cells 45)) S HIn.out.o HS.out)
  have HA := hid ha
  unfold OI.val at HC
  clear hbx ha hS hin HIn HS hk
  obtain ⟨cT, hcT⟩ : ∃ cT, cT = t.cells := ⟨_, rfl⟩
  rw [← hcT] at HC HA ⊢
  rw [← hcT] at c0 c23 c24 c25 c26 c27 c28 c29
  clear hcT
  obtain ⟨k, hkk⟩ : ∃ k, k = chkOut t.o := ⟨_, rfl⟩
  obtain ⟨B, hBB⟩ : ∃ B, B = outB t.o.to := ⟨_, rfl⟩
  rw [← hkk, ← hBB] at HC ⊢
  clear hkk hBB
  go_enter Try.func7, Try.ntmps7
  go_wp2_with fail
  refine HC.out.mono ?_
  rintro x w1 hp
  have HF : Hid (∃ v, x = .returned (.tuple #[v, .int .i64 (k : Int)]) ∧ Below w.heap.size w w1 ∧ (k = 0 → OwnBy w.heap.size w1 v B) ∧ (k ≠ 0 → v = .slice none 0 0)) := by
    by_cases h0 : k = 0
    · obtain ⟨v, e, ho, hb⟩ := hp.1 h0
      exact ⟨v, by rw [e, h0]; rfl, HA.out.trans (hb.mono HA.out.size), fun _ => ho.mono HA.out.size, fun h => absurd h0 h⟩
    · obtain ⟨e, hb⟩ := hp.2 h0
      exact ⟨_, e, HA.out.trans (hb.mono HA.out.size), fun h => absurd h h0, fun _ => rfl⟩
  obtain ⟨v, hx, hb1, ho1, hn1⟩ := HF.out
  subst hx
  have HG := hid (And.intro hb1 (And.intro ho1 hn1))
  have HN := fun W => num_any (k : Int) W
  clear hb1 ho1 hn1 hp HC HF
  go_wp2_with fail
  refine (HN _).mono ?_
  rintro x w2 ⟨rfl, hw2⟩
  subst w2
  go_wp2
  refine bodyPost_ret (v := .tuple #[v, .int .i64 (k : Int)]) (by simp [results, Try.results7, go_sem]) rfl ?_
  refine ⟨fun h0 => ⟨v, by rw [h0]; rfl, HG.out.2.1 h0, HG.out.1⟩, fun h0 => ⟨by rw [HG.out.2.2 h0], HG.out.1⟩⟩
set_option maxHeartbeats 4000000 in
theorem putH_1 (t : HI) (w : World) (S : Nat → Prop) (hin : HI.In w S t) (hS : ∀ b, S b → b < w.heap.size) (h2 : t.kind ≠ 2) (h3 : t.kind ≠ 3) (h4 : t.kind ≠ 4) (h5 : t.kind ≠ 5) : Calls Try.prog 7 #[.agg t.cells] w fun x w' => PutR (chkRec t.r) (recB t.r) w x w' := by
  have ha : Below w.heap.size w (w.alloc (.cells t.cells 45)) := (Below.refl _ _).alloc (Nat.le_refl _) _
  have hbx := Box.new w t.cells 45
  have c0 := (hbx.cell 0).trans (show t.cells[0]? = some (.int .i64 t.kind) from rfl)
  have c1 := (hbx.cell 1).trans (show t.cells[1]? = some (.string t.r.key) from rfl)
  have c2 := (hbx.cell 2).trans (show t.cells[2]? = some (.int .i64 t.r.v.kind) from rfl)
  have c3 := (hbx.cell 3).trans (show t.cells[3]? = some (.int .i64 t.r.v.int) from rfl)
  have c4 := (hbx.cell 4).trans (show t.cells[4]? = some (.string t.r.v.text) from rfl)
  have c5 := (hbx.cell 5).trans (show t.cells[5]? = some (.slice t.r.v.p t.r.v.n t.r.v.c) from rfl)
  have c6 := (hbx.cell 6).trans (show t.cells[6]? = some (.slice t.r.p t.r.n t.r.c) from rfl)
  have k2 : (t.kind == 2) = false := by simpa using h2
  have k3 : (t.kind == 3) = false := by simpa using h3
  have k4 : (t.kind == 4) = false := by simpa using h4
  have k5 : (t.kind == 5) = false := by simpa using h5
  have HIn := hid (hin.below ha)
  have HS := hid (fun b (hb : S b) => show b < (w.alloc (.cells t.cells 45)).heap.size by have := hS b hb; have := ha.size; omega)
  have HC := hid (putRec_gen t.r (w.alloc (.cells t.cells 45)) S HIn.out.r HS.out)
  have HA := hid ha
  unfold RT.val at HC
  clear hbx ha hS hin HIn HS h2 h3 h4 h5
  obtain ⟨cT, hcT⟩ : ∃ cT, cT = t.cells := ⟨_, rfl⟩
  rw [← hcT] at HC HA ⊢
  rw [← hcT] at c0 c1 c2 c3 c4 c5 c6
  clear hcT
  obtain ⟨k, hkk⟩ : ∃ k, k = chkRec t.r := ⟨_, rfl⟩
  obtain ⟨B, hBB⟩ : ∃ B, B = recB t.r := ⟨_, rfl⟩
  rw [← hkk, ← hBB] at HC ⊢
  clear hkk hBB
  go_enter Try.func7, Try.ntmps7
  go_wp2_with fail
  refine HC.out.mono ?_
  rintro x w1 hp
  have HF : Hid (∃ v, x = .returned (.tuple #[v, .int .i64 (k : Int)]) ∧ Below w.heap.size w w1 ∧ (k = 0 → OwnBy w.heap.size w1 v B) ∧ (k ≠ 0 → v = .slice none 0 0)) := by
    by_cases h0 : k = 0
    · obtain ⟨v, e, ho, hb⟩ := hp.1 h0
      exact ⟨v, by rw [e, h0]; rfl, HA.out.trans (hb.mono HA.out.size), fun _ => ho.mono HA.out.size, fun h => absurd h0 h⟩
    · obtain ⟨e, hb⟩ := hp.2 h0
      exact ⟨_, e, HA.out.trans (hb.mono HA.out.size), fun h => absurd h h0, fun _ => rfl⟩
  obtain ⟨v, hx, hb1, ho1, hn1⟩ := HF.out
  subst hx
  have HG := hid (And.intro hb1 (And.intro ho1 hn1))
  have HN := fun W => num_any (k : Int) W
  clear hb1 ho1 hn1 hp HC HF
  go_wp2_with fail
  refine (HN _).mono ?_
  rintro x w2 ⟨rfl, hw2⟩
  subst w2
  go_wp2
  refine bodyPost_ret (v := .tuple #[v, .int .i64 (k : Int)]) (by simp [results, Try.results7, go_sem]) rfl ?_
  refine ⟨fun h0 => ⟨v, by rw [h0]; rfl, HG.out.2.1 h0, HG.out.1⟩, fun h0 => ⟨by rw [HG.out.2.2 h0], HG.out.1⟩⟩
end Go.Proofs.Ytikfpoabaaiegaa
