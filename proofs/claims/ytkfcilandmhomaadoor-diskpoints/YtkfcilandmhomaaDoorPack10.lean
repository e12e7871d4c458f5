import Derived.Test.YtkfcilandmhomaaDoorPack5
import Derived.Test.YtkfcilandmhomaaDoorPack9
namespace Go.Proofs.YtkfcilandmhomaaDoor
open Go.RowKit
set_option maxRecDepth 8000
/-- a file of a disk: its name, its block, its bytes' row, its bytes, how many are sure -/
structure FT where
  name : ByteArray
  fb : Nat
  p : Option Addr
  c : Nat
  zs : List Int
  sure : Nat
def FT.dv (f : FT) : Value := .slice f.p f.zs.length f.c
/-- the blocks of a file -/
def FT.blk (f : FT) (k : Nat) : Prop := k = f.fb ∨ f.dv.ownBlock = some k
structure FtI (w : World) (C : Nat → Prop) (f : FT) : Prop where
  nm : Nm f.name
  bx : Box w f.fb #[.slice f.p f.zs.length f.c, .int .i64 f.sure] 76
  row : OwnBy 0 w (.slice f.p f.zs.length f.c) f.zs
  rc : ∀ g, (Value.slice f.p f.zs.length f.c).ownBlock = some g → C g ∧ g ≠ f.fb
  fc : C f.fb
  le : f.zs.length ≤ 65536
  su : f.sure ≤ f.zs.length
  by_ : ∀ z ∈ f.zs, 0 ≤ z ∧ z ≤ 255
theorem FtI.blk {w : World} {C : Nat → Prop} {f : FT} (h : FtI w C f) {k : Nat} (hk : f.blk k) : C k ∧ k < w.heap.size := by
  rcases hk with rfl | hk
  · exact ⟨h.fc, h.bx.lt⟩
  · exact ⟨(h.rc k hk).1, (h.row.lt k hk).2⟩
theorem FtI.kept {w w' : World} {C C' : Nat → Prop} {f : FT} (h : FtI w C f) (hb : ∀ k, f.blk k → w'.heap[k]? = w.heap[k]?) (hc : ∀ k, f.blk k → C' k) : FtI w' C' f :=
  ⟨h.nm, h.bx.kept (hb _ (.inl rfl)), ownsRow_keep h.row fun g hg _ => hb g (.inr hg), fun g hg => ⟨hc g (.inr hg), (h.rc g hg).2⟩, hc _ (.inl rfl), h.le, h.su, h.by_⟩
/-- a disk -/
structure DK where
  mb : Nat
  fs : List FT
  set : Bool
  units : Int
  after : Int
  calls : Int
  down : Bool
def DK.ents (D : DK) : List (ByteArray × Value) := D.fs.map fun f => (f.name, .pointer (some ⟨f.fb, 0, none⟩))
/-- a disk in memory: its blocks are of C, apart from one another -/
structure DkI (w : World) (C : Nat → Prop) (db : Nat) (D : DK) : Prop where
  bx : Box w db #[.map (some D.mb), .bool D.set, .int .i64 D.units, .int .i64 D.after, .int .i64 D.calls, .bool D.down] 67
  mp : MpI w D.mb D.ents
  cb : C db
  cm : C D.mb
  ne : db ≠ D.mb
  each : ∀ f ∈ D.fs, FtI w C f
  low : ∀ f ∈ D.fs, ∀ k, f.blk k → k ≠ db ∧ k ≠ D.mb
  apart : D.fs.Pairwise (fun f g => ∀ k, f.blk k → ¬ g.blk k)
  n : D.fs.length ≤ 400
  bu : 0 ≤ D.units ∧ D.units ≤ 9223372036854775807
  ba : 0 ≤ D.after ∧ D.after ≤ 9223372036854775807
  bc : 0 ≤ D.calls ∧ D.calls ≤ 9223372036854775807
theorem DkI.kept {w w' : World} {C : Nat → Prop} {db : Nat} {D : DK} (h : DkI w C db D) (hb : ∀ k, C k → k < w.heap.size → w'.heap[k]? = w.heap[k]?) : DkI w' C db D :=
  ⟨h.bx.kept (hb _ h.cb h.bx.lt), h.mp.kept (hb _ h.cm h.mp.lt), h.cb, h.cm, h.ne, fun f hf => (h.each f hf).kept (fun k hk => hb k ((h.each f hf).blk hk).1 ((h.each f hf).blk hk).2) (fun _ hk => ((h.each f hf).blk hk).1), h.low, h.apart, h.n, h.bu, h.ba, h.bc⟩
theorem DkI.mono {w : World} {C C' : Nat → Prop} {db : Nat} {D : DK} (h : DkI w C db D) (hc : ∀ k, C k → k < w.heap.size → C' k) : DkI w C' db D :=
  ⟨h.bx, h.mp, hc _ h.cb h.bx.lt, hc _ h.cm h.mp.lt, h.ne, fun f hf => (h.each f hf).kept (fun _ _ => rfl) (fun k hk => hc k ((h.each f hf).blk hk).1 ((h.each f hf).blk hk).2), h.low, h.apart, h.n, h.bu, h.ba, h.bc⟩
/-- a file as it is handed in -/
structure FA where
  name : ByteArray
  p : Option Addr
  n : Nat
  c : Nat
  f : Nat → Int
  sy : Int
def FA.zs (a : FA) : List Int := (List.range a.n).map a.f
def elF : El FA where
  ty := 58
  size := 3
  cells := fun d => [.string d.name, .slice d.p d.n d.c, .int .i64 d.sy]
  len := fun _ => rfl
  one := fun x u hu => by
    simp only [List.mem_cons, List.not_mem_nil, or_false] at hu
    rcases hu with rfl | rfl | rfl <;> rfl
  In := fun w S d => d.name.size ≤ 140737488355328 ∧ Byts w S d.p d.n d.c d.f ∧ (-9223372036854775808 ≤ d.sy ∧ d.sy ≤ 9223372036854775807)
  kept := fun h hs hb => ⟨h.1, h.2.1.kept hs hb, h.2.2⟩
  mono := fun h hb => ⟨h.1, h.2.1.mono hb, h.2.2⟩
/-- may a disk that has files of these names have that one too? -/
def fOk (names : List ByteArray) (a : FA) : Bool := nmB a.name && !(names.any fun s => decide (s = a.name)) && (decide (a.n ≤ 65536) && (decide (0 ≤ a.sy) && decide (a.sy ≤ (a.n : Int))))
end Go.Proofs.YtkfcilandmhomaaDoor

namespace Go.Proofs.YtkfcilandmhomaaDoor
open Go.RowKit
set_option maxRecDepth 8000
def fitF (n : Nat) (sy : Int) : Bool := decide (n ≤ 65536) && (decide (0 ≤ sy) && decide (sy ≤ (n : Int)))
set_option maxHeartbeats 1000000 in
theorem dfits_any (s : ByteArray) (p : Option Addr) (n c : Nat) (sy : Int) (w : World) : Calls Tryd.prog 27 #[.agg #[.string s, .slice p n c, .int .i64 sy]] w fun e w' => e = .returned (.bool (fitF n sy)) ∧ Below w.heap.size w w' := by
  obtain ⟨W, hW⟩ : ∃ V, V = w.alloc (.cells #[.string s, .slice p n c, .int .i64 sy] 58) := ⟨_, rfl⟩
  have hB : Below w.heap.size w W := by rw [hW]; exact (Below.refl _ _).alloc (Nat.le_refl _) _
  have hX : Box W w.heap.size #[.string s, .slice p n c, .int .i64 sy] 58 := by rw [hW]; exact Box.new _ _ _
  have q0 := hX.cell 0
  have q1 := hX.cell 1
  have q2 := hX.cell 2
  have ql := hX.lt
  simp at q0 q1 q2
  have HW := hid hW
  have HB := hid hB
  clear hW hB hX
  by_cases h1 : n ≤ 65536
  · have h1' : (n : Int) ≤ 65536 := by omega
    by_cases h2 : 0 ≤ sy
    · by_cases h3 : sy ≤ (n : Int)
      · have HF : Hid (fitF n sy = true) := by show fitF n sy = true; simp [fitF, h1, h2, h3]
        go_enter Tryd.func27, Tryd.ntmps27
        go_upto_region 1 with fail
        rw [← HW.out]
        go_wp2
        exact bodyPost_ret (v := .bool true) (by simp [results, Tryd.results27, go_sem]) rfl ⟨by rw [HF.out], HB.out⟩
      · have HF : Hid (fitF n sy = false) := by show fitF n sy = false; simp [fitF, h1, h2, h3]
        go_enter Tryd.func27, Tryd.ntmps27
        go_upto_region 1 with fail
        rw [← HW.out]
        go_wp2
        exact bodyPost_ret (v := .bool false) (by simp [results, Tryd.results27, go_sem]) rfl ⟨by rw [HF.out], HB.out⟩
    · have HF : Hid (fitF n sy = false) := by show fitF n sy = false; simp [fitF, h1, h2]
      go_enter Tryd.func27, Tryd.ntmps27
      go_upto_region 1 with fail
      rw [← HW.out]
      go_wp2
      exact bodyPost_ret (v := .bool false) (by simp [results, Tryd.results27, go_sem]) rfl ⟨by rw [HF.out], HB.out⟩
  · have h1' : ¬ (n : Int) ≤ 65536 := by omega
    have HF : Hid (fitF n sy = false) := by show fitF n sy = false; simp [fitF, h1]
    go_enter Tryd.func27, Tryd.ntmps27
    go_upto_region 1 with fail
    rw [← HW.out]
    go_wp2
    exact bodyPost_ret (v := .bool false) (by simp [results, Tryd.results27, go_sem]) rfl ⟨by rw [HF.out], HB.out⟩
/-- a call behind a guard in a region that draws -/
theorem step_callG {ops : Array Oper} {o : Oper} {a : Act} {w : World} {K : Act → World → Prop} {Q : Exit → Act → World → Prop} {E : Prop}
    (hw : Region.wanted o (yielded ops a.tmps) = true) (f : Nat) (xs : Array Operand) (ts : Array TypeId) (hop : o.op = Op.call { callee := Callee.value (Operand.func f), args := xs, argTypes := ts })
    (F : Func) (hF : Tryd.prog.funcs[f]? = some F) (hN : (F.name == "runtime.NumGoroutine") = false) (hB : F.body.isNone = false) (vs : Array Value) (hvl : xs.toList.map a.eval = vs.toList) (R : Ending → World → Prop) (hC : Calls Tryd.prog f vs w R) (hK : ∀ e w', R e w' → ∃ v, e = .returned v ∧ K (a.put o.dst v) w') :
    if Region.wanted o (yielded ops a.tmps) = true then Oper.wp Tryd.prog o a w K Q else E := by
  rw [if_pos hw]
  have hvs : xs.map a.eval = vs := by
    obtain ⟨xl⟩ := xs
    obtain ⟨vl⟩ := vs
    simp only at hvl
    rw [List.map_toArray, hvl]
  have hrun : (execOp a.eval o).run Tryd.prog w = .ok (.enter f vs) w := by
    have h1 : ¬ F.name = "runtime.NumGoroutine" := by simpa using hN
    have h2 : ¬ F.body = none := by intro h; rw [h] at hB; cases hB
    simp [execOp, hop, resolve, invoke, hvs, Deferred.ofValue, Act.eval, callFunc, Result.andThen, go_sem, hF, h1, h2]
  unfold Oper.wp
  rw [hrun, Oper.upon_enter]
  refine hC.mono fun e w' h => ?_
  obtain ⟨v, rfl, hk⟩ := hK e w' h
  exact hk
section
variable {w : World} {ops : Array Oper} {rest : List Oper} {o : Oper} {a : Act} {Q : Exit → Act → World → Prop}
/-- what stands at a name, as the program has it -/
theorem wpList_look (hg : o.guard = none) (m x : Operand) (hop : o.op = Op.lookup 59 m x false) {b : Nat} {E : List (ByteArray × Value)} {s : ByteArray} (hm : a.eval m = .map (some b)) (hx : a.eval x = labV s) (h : MpI w b E) (hs : Nm s)
    (hK : wpList Tryd.prog ops Q rest (a.put o.dst ((lk E s).getD (.pointer none))) w) :
    wpList Tryd.prog ops Q (o :: rest) a w := by
  refine wpList_plain hg fun K' hK' => ?_
  have hrun := run_look h hs false
  unfold Oper.wp
  simp [execOp, hop, hm, hx, hrun, Result.andThen]
  exact hK' _ _ hK
theorem step_upd {E : Prop} {w : World} {ops : Array Oper} {o : Oper} {a : Act} {K : Act → World → Prop} {Q : Exit → Act → World → Prop} (hg : o.guard = none) (m x v : Operand) (hop : o.op = Op.mapUpdate 59 m x v) {b : Nat} {Es : List (ByteArray × Value)} {s : ByteArray} {u : Value} (hm : a.eval m = .map (some b)) (hx : a.eval x = labV s) (hv : a.eval v = u) (h : MpI w b Es) (hs : Nm s) (hn : lk Es s = none)
    (hK : ∀ w', MpI w' b (Es ++ [(s, u)]) → But (fun k => k = b) w w' → K (a.put o.dst undef) w') :
    if Region.wanted o (yielded ops a.tmps) = true then Oper.wp Tryd.prog o a w K Q else E := by
  have hw : Region.wanted o (yielded ops a.tmps) = true := by simp [Region.wanted, hg]
  rw [if_pos hw]
  obtain ⟨ob, hrun, h1⟩ := run_updNew h hs u hn
  unfold Oper.wp
  simp [execOp, hop, hm, hx, hv, hrun, Result.andThen, Oper.upon]
  exact hK _ h1 (But.block1 _)
end
end Go.Proofs.YtkfcilandmhomaaDoor
