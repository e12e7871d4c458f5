import Derived.Test.YtgnamngnmbaeeaaDoorLkF
import Derived.Test.YtgnamngnmbaeeaaDoorPack5
import Derived.WideKeyElems
import Derived.Maps.Keyed
import Derived.Maps.RangeRun
namespace Go.Proofs.YtgnamngnmbaeeaaDoor
open Go.RowKit
set_option maxRecDepth 8000
/-- all that is of Z stays -/
def Fr (Z : Nat → Prop) (w w' : World) : Prop := But (fun k => ¬ Z k) w w'
theorem Fr.refl (Z : Nat → Prop) (w : World) : Fr Z w w := But.refl _ _
theorem Fr.trans {Z : Nat → Prop} {a b c : World} (h : Fr Z a b) (k : Fr Z b c) : Fr Z a c := But.trans h k
theorem Fr.below {Z : Nat → Prop} {w w' : World} (h : Below w.heap.size w w') : Fr Z w w' := But.ofBelow h
theorem Fr.less {Z Z' : Nat → Prop} {w w' : World} (h : Fr Z w w') (hz : ∀ k, Z' k → Z k) : Fr Z' w w' := But.mono h fun k _ hk e => hk (hz k e)
theorem box_ty {w : World} {b : Nat} {cs cs' : Array Value} {e e' : TypeId} (h : Box w b cs e) (h' : Box w b cs' e') : e = e' := by
  unfold Box at h h'
  rw [h] at h'
  cases h'
  rfl
/-- a row of lists of bytes, which nobody of Z writes -/
structure Rw (w : World) (Z : Nat → Prop) (v : Value) (L : List BS) : Prop where
  row : RowQ w v (L.map BS.val)
  it : ∀ x ∈ L, x.In w (fun k => ¬ Z k ∧ v.ownBlock ≠ some k)
  z : ∀ g, v.ownBlock = some g → ¬ Z g
theorem Rw.nil (w : World) (Z : Nat → Prop) : Rw w Z (.slice none 0 0) [] := ⟨RowQ.nil w, fun x hx => by simp at hx, fun g hg => by cases hg⟩
theorem Rw.slice {w : World} {Z : Nat → Prop} {v : Value} {L : List BS} (h : Rw w Z v L) : ∃ p c, v = .slice p L.length c := by
  obtain ⟨p, c, e⟩ := h.row.slice
  rw [List.length_map] at e
  exact ⟨p, c, e⟩
theorem Rw.kept {w w' : World} {Z Z' : Nat → Prop} {v : Value} {L : List BS} (h : Rw w Z v L) (hs : w.heap.size ≤ w'.heap.size) (hb : ∀ k, k < w.heap.size → ¬ Z k → w'.heap[k]? = w.heap[k]?) (hz : ∀ k, k < w.heap.size → Z' k → Z k) : Rw w' Z' v L :=
  ⟨h.row.kept fun g hg hl => hb g hl (h.z g hg), fun x hx => ((h.it x hx).mono fun _ hk hl => ⟨⟨hk.1, hl⟩, hk.2⟩).kept (S := fun k => (¬ Z k ∧ k < w.heap.size) ∧ v.ownBlock ≠ some k) hs (fun k hk hl => hb k hl hk.1.1) |>.mono fun k hk _ => ⟨fun e => hk.1.1 (hz k hk.1.2 e), hk.2⟩, fun g hg e => h.z g hg (hz g (h.row.lt hg).1 e)⟩
theorem Rw.but {w w' : World} {Z Z' : Nat → Prop} {v : Value} {L : List BS} (h : Rw w Z v L) (hb : But Z w w') (hz : ∀ k, k < w.heap.size → Z' k → Z k) : Rw w' Z' v L := h.kept hb.size (fun _ hl hk => hb.block _ hl hk) hz
theorem Rw.below {w w' : World} {Z Z' : Nat → Prop} {v : Value} {L : List BS} (h : Rw w Z v L) (hb : Below w.heap.size w w') (hz : ∀ k, k < w.heap.size → Z' k → Z k) : Rw w' Z' v L := h.but (But.ofBelow hb) hz
/-- the i-th list -/
theorem Rw.at_ {w : World} {Z : Nat → Prop} {v : Value} {L : List BS} (h : Rw w Z v L) {i : Nat} {x : BS} (hx : L[i]? = some x) : ∃ g o cap, v = .slice (some ⟨g, o, none⟩) L.length cap ∧ g < w.heap.size ∧ w.cell? ⟨g, o + i, none⟩ = some x.val ∧ (∀ j, w.frozen? ⟨g, j, none⟩ = false) ∧ L.length ≤ cap ∧ x.In w (fun k => ¬ Z k ∧ v.ownBlock ≠ some k) := by
  obtain ⟨g, o, cap, h1, h2, h3, h4, h5⟩ := h.row.at_ (j := i) (u := x.val) (by rw [List.getElem?_map, hx]; rfl)
  rw [List.length_map] at h1 h5
  exact ⟨g, o, cap, h1, h2, h3, h4, h5, h.it x (List.mem_of_getElem? hx)⟩
/-- one more list at the end -/
theorem Rw.push {w w' : World} {Z : Nat → Prop} {v v' : Value} {L : List BS} {x : BS} (h : Rw w Z v L) (hr : RowQ w' v' (L.map BS.val ++ [x.val])) (hg : w.grownBy w' v.ownBlock) (hn : Near w v v') (hx : x.In w (fun k => ¬ Z k ∧ v.ownBlock ≠ some k)) (hZ : ∀ k, Z k → k < w.heap.size) : Rw w' Z v' (L ++ [x]) := by
  have hb := But.grow hg
  refine ⟨by rw [List.map_append]; exact hr, fun y hy => ?_, fun g hg' => ?_⟩
  · have hy2 : y.In w (fun k => ¬ Z k ∧ v.ownBlock ≠ some k) := by
      rcases List.mem_append.1 hy with hy | hy
      · exact h.it y hy
      · simp only [List.mem_singleton] at hy
        subst hy; exact hx
    refine ((hy2.mono fun k hk hl => (⟨hk, hl⟩ : (¬ Z k ∧ v.ownBlock ≠ some k) ∧ k < w.heap.size)).kept hb.size fun k hk hl => hb.block k hl hk.1.2).mono fun k hk _ => ⟨hk.1.1, fun e => ?_⟩
    rcases hn with e1 | e1
    · rw [e1] at e; exact hk.1.2 e
    · have := e1 k e; omega
  · rcases hn with e1 | e1
    · rw [e1] at hg'; exact h.z g hg'
    · exact fun e => by have h1 := e1 g hg'; have h2 := hZ g e; omega
theorem step_callG {ops : Array Oper} {o : Oper} {a : Act} {w : World} {K : Act → World → Prop} {Q : Exit → Act → World → Prop} {E : Prop}
    (hw : Region.wanted o (yielded ops a.tmps) = true) (f : Nat) (xs : Array Operand) (ts : Array TypeId) (hop : o.op = Op.call { callee := Callee.value (Operand.func f), args := xs, argTypes := ts })
    (F : Func) (hF : Tryd.prog.funcs[f]? = some F) (hN : (F.name == "runtime.NumGoroutine") = false) (hB : F.body.isNone = false) (vs : Array Value) (hvl : xs.toList.map a.eval = vs.toList) (R : Ending → World → Prop) (hC : Calls Tryd.prog f vs w R) (hK : ∀ e w', R e w' → ∃ v, e = .returned v ∧ K (a.put o.dst v) w') :
    if Region.wanted o (yielded ops a.tmps) = true then Oper.wp Tryd.prog o a w K Q else E := by
  rw [if_pos hw]
  have hvs : xs.map a.eval = vs := by
    obtain ⟨xl⟩ := xs
    obtain ⟨vl⟩ := vs
    simp only at hvl
    rw [List.map_toArray, hvl]
  have hrun : (execOp a.eval o).run Tryd.prog w = .ok (.enter f vs) w := by
    have h1 : ¬ F.name = "runtime.NumGoroutine" := by simpa using hN
    have h2 : ¬ F.body = none := by intro h; rw [h] at hB; cases hB
    simp [execOp, hop, resolve, invoke, hvs, Deferred.ofValue, Act.eval, callFunc, Result.andThen, go_sem, hF, h1, h2]
  unfold Oper.wp
  rw [hrun, Oper.upon_enter]
  refine hC.mono fun e w' h => ?_
  obtain ⟨v, rfl, hk⟩ := hK e w' h
  exact hk
end Go.Proofs.YtgnamngnmbaeeaaDoor

namespace Go.Proofs.YtgnamngnmbaeeaaDoor
open Go.RowKit
set_option maxRecDepth 8000
/-- what a sending end holds -/
structure SA where
  ln : Nat
  wi : Nat
  an : Nat
  q : List (List Int)
  wd : Nat
structure SA.Ok (A : SA) : Prop where
  ln : A.ln ≤ 23
  wi : 1 ≤ A.wi ∧ A.wi ≤ 16
  an : A.an + A.q.length ≤ 1073741824
  q : ∀ m ∈ A.q, m.length ≤ 4096
  wd : A.wd ≤ 1073741824
def SndI (w : World) (Z : Nat → Prop) (b : Nat) (A : SA) : Prop :=
  ∃ v L, Box w b #[.int .i64 (A.ln : Int), .int .i64 (A.wi : Int), .int .i64 (A.an : Int), v, .int .i64 (A.wd : Int)] 67 ∧ Rw w (fun k => Z k ∨ k = b) v L ∧ L.map BS.zs = A.q ∧ ¬ Z b ∧ A.Ok
theorem SndI.ok {w : World} {Z : Nat → Prop} {b : Nat} {A : SA} (h : SndI w Z b A) : A.Ok := by obtain ⟨v, L, _, _, _, _, h⟩ := h; exact h
theorem SndI.lt {w : World} {Z : Nat → Prop} {b : Nat} {A : SA} (h : SndI w Z b A) : b < w.heap.size := by obtain ⟨v, L, h, _⟩ := h; exact h.lt
theorem SndI.nz {w : World} {Z : Nat → Prop} {b : Nat} {A : SA} (h : SndI w Z b A) : ¬ Z b := by obtain ⟨v, L, _, _, _, h, _⟩ := h; exact h
theorem SndI.but {w w' : World} {Z Z' : Nat → Prop} {b : Nat} {A : SA} (h : SndI w Z b A) (hb : But Z w w') (hz : ∀ k, k < w.heap.size → Z' k → Z k) : SndI w' Z' b A := by
  obtain ⟨v, L, h1, h2, h3, h4, h5⟩ := h
  exact ⟨v, L, h1.but hb h4, h2.but (hb.mono fun k _ hk => .inl hk) fun k hk e => e.imp (hz k hk) id, h3, fun e => h4 (hz b h1.lt e), h5⟩
theorem SndI.below {w w' : World} {Z Z' : Nat → Prop} {b : Nat} {A : SA} (h : SndI w Z b A) (hb : Below w.heap.size w w') (hz : ∀ k, k < w.heap.size → Z' k → Z k) : SndI w' Z' b A := h.but (But.ofBelow hb) hz
theorem SndI.z {w : World} {Z Z' : Nat → Prop} {b : Nat} {A : SA} (h : SndI w Z b A) (hz : ∀ k, k < w.heap.size → Z' k → Z k) : SndI w Z' b A := h.but (But.refl _ _) hz
/-- may an end have these numbers? -/
def fineE (l wi : Int) : Prop := 0 ≤ l ∧ l < 24 ∧ 1 ≤ wi ∧ wi ≤ 16
instance (l wi : Int) : Decidable (fineE l wi) := by unfold fineE; exact inferInstance
def EndQ (l wi : Int) (w : World) (e : Ending) (w' : World) : Prop :=
  (fineE l wi → e = .returned (.tuple #[.agg #[.int .i64 l, .int .i64 wi], .int .i64 0])) ∧ (¬ fineE l wi → e = .returned (.tuple #[.agg #[.int .i64 0, .int .i64 0], .int .i64 210])) ∧ Below w.heap.size w w'
theorem Box.set2 {w : World} {b : Nat} {a0 a1 : Value} {e : TypeId} (h : Box w b #[a0, a1] e) (x0 x1 : Value) : Box ((w.setCell ⟨b, 0, none⟩ x0).setCell ⟨b, 1, none⟩ x1) b #[x0, x1] e := by
  have h1 := (h.set 0 x0).set 1 x1
  simpa using h1
theorem but2 (w : World) (b : Nat) (x0 x1 : Value) : But (fun k => k = b) w ((w.setCell ⟨b, 0, none⟩ x0).setCell ⟨b, 1, none⟩ x1) := ((But.one _ _).setAt 0 x0).setAt 1 x1
set_option maxHeartbeats 2000000 in
theorem newEnd_any (l wi : Int) (w : World) : Calls Tryd.prog 57 #[.int .i64 l, .int .i64 wi] w fun e w' => EndQ l wi w e w' := by
  obtain ⟨V, hV⟩ : ∃ V, V = w.alloc (.cells #[.int .i64 0, .int .i64 0] 65) := ⟨_, rfl⟩
  have hB : Below w.heap.size w V := by rw [hV]; exact (Below.refl _ _).alloc (Nat.le_refl _) _
  obtain ⟨rb, hrb⟩ : ∃ rb, rb = w.heap.size := ⟨_, rfl⟩
  have hX : Box V rb #[.int .i64 0, .int .i64 0] 65 := by rw [hV, hrb]; exact Box.new _ _ _
  have key : ∀ x y : Int, ∃ V5, V5 = (V.setCell ⟨rb, 0, none⟩ (.int .i64 x)).setCell ⟨rb, 1, none⟩ (.int .i64 y) ∧ Box V5 rb #[.int .i64 x, .int .i64 y] 65 ∧ Below w.heap.size w V5 := fun x y =>
    ⟨_, rfl, hX.set2 _ _, hB.trans (But.below (but2 V rb _ _) hB.size fun q hq e => by have e' : q = rb := e; omega)⟩
  have HK := hid key
  have HV := hid hV
  have HRb := hid hrb
  have c0 := hX.cell 0
  have c1 := hX.cell 1
  have cl := hX.lt
  have cf := hX.frozen
  simp at c0 c1
  clear hV hB hX key hrb
  by_cases hf : fineE l wi
  · obtain ⟨h1, h2, h3, h4⟩ := id hf
    have n1 : ¬ l < 0 := by omega
    have n2 : ¬ 24 ≤ l := by omega
    have n3 : ¬ wi < 1 := by omega
    have n4 : ¬ 16 < wi := by omega
    have HF := hid hf
    clear hf h1 h2 h3 h4
    go_enter Tryd.func57, Tryd.ntmps57
    go_upto_region 1 with fail
    rw [← HV.out, ← HRb.out]
    go_wp2
    obtain ⟨V5, hV5, hX5, hb5⟩ := HK.out l wi
    have q0 := hX5.cell 0
    have q1 := hX5.cell 1
    simp at q0 q1
    rw [← hV5]
    have HQ : Hid (EndQ l wi w (.returned (.tuple #[.agg #[.int .i64 l, .int .i64 wi], .int .i64 0])) V5) := ⟨fun _ => rfl, fun h => absurd HF.out h, hb5⟩
    clear hV5 hX5 hb5
    exact bodyPost_ret (v := .tuple #[.agg #[.int .i64 l, .int .i64 wi], .int .i64 0]) (by simp [results, Tryd.results57, go_sem, q0, q1]) rfl HQ.out
  · have hc : (decide (l < 0) || decide (24 ≤ l) || decide (wi < 1) || decide (16 < wi)) = true := by
      unfold fineE at hf
      simp only [Bool.or_eq_true, decide_eq_true_eq]
      omega
    have HF := hid hf
    clear hf
    go_enter Tryd.func57, Tryd.ntmps57
    go_upto_region 1 with fail
    rw [← HV.out, ← HRb.out]
    by_cases n1 : l < 0
    all_goals by_cases n2 : 24 ≤ l
    all_goals by_cases n3 : wi < 1
    all_goals by_cases n4 : 16 < wi
    all_goals first
      | (exfalso; omega)
      | (exfalso; simp [n1, n2, n3, n4] at hc; done)
      | skip
    all_goals clear hc
    all_goals go_wp2
    all_goals obtain ⟨V5, hV5, hX5, hb5⟩ := HK.out 0 0
    all_goals have q0 := hX5.cell 0
    all_goals have q1 := hX5.cell 1
    all_goals simp at q0 q1
    all_goals rw [← hV5]
    all_goals have HQ : Hid (EndQ l wi w (.returned (.tuple #[.agg #[.int .i64 0, .int .i64 0], .int .i64 210])) V5) := ⟨fun h => absurd h HF.out, fun _ => rfl, hb5⟩
    all_goals clear hV5 hX5 hb5
    all_goals exact bodyPost_ret (v := .tuple #[.agg #[.int .i64 0, .int .i64 0], .int .i64 210]) (by simp [results, Tryd.results57, go_sem, q0, q1]) rfl HQ.out
end Go.Proofs.YtgnamngnmbaeeaaDoor

namespace Go.Proofs.YtgnamngnmbaeeaaDoor
open Go.RowKit
open Go.ChangeMaps (setBlock)
set_option maxRecDepth 8000
def kyV (k : Int) : Value := .int .i64 k
def Ky (k : Int) : Prop := -9223372036854775808 ≤ k ∧ k ≤ 9223372036854775807
theorem kyLaw : Maps.Keyed Tryd.prog 3 := Maps.int_keyed Tryd.underlying3
theorem ky_key {k : Int} (h : Ky k) : ∃ l, keyOf Tryd.prog 3 (kyV k) = some l := by
  have hw : (Lit.int .i64 k).wf = true := by
    have h1 : IntKind.i64.min = -9223372036854775808 := rfl
    have h2 : IntKind.i64.max = 9223372036854775807 := rfl
    simp only [Lit.wf, h1, h2, Bool.and_eq_true, decide_eq_true_eq]
    exact h
  refine ⟨.int .i64 k, ?_⟩
  unfold keyOf
  rw [Tryd.underlying3]
  simp [kyV, mapKey, Tryd.underlying3, hw]
theorem ky_eq {a b : Int} (h : kyV a = kyV b) : a = b := by simpa [kyV] using h
/-- what the entries of a map tell: names and what stands at them -/
structure MpE (es : Array MapEntry) (clock : Nat) (E : List (Int × Value)) : Prop where
  st : MapKept.Stamped es clock
  eq : es.toList.map (fun e => (e.key, e.val)) = E.map (fun p => (kyV p.1, p.2))
  nm : ∀ p ∈ E, Ky p.1
/-- a map in memory -/
def MpI (w : World) (b : Nat) (E : List (Int × Value)) : Prop := ∃ es clock, w.heap[b]? = some (.map es clock) ∧ MpE es clock E
theorem MpI.lt {w : World} {b : Nat} {E : List (Int × Value)} (h : MpI w b E) : b < w.heap.size := by
  obtain ⟨es, c, h, _⟩ := h
  exact (Array.getElem?_eq_some_iff.1 h).1
theorem MpI.kept {w w' : World} {b : Nat} {E : List (Int × Value)} (h : MpI w b E) (hb : w'.heap[b]? = w.heap[b]?) : MpI w' b E := by
  obtain ⟨es, c, h, hE⟩ := h
  exact ⟨es, c, hb.trans h, hE⟩
theorem MpE.keys {es : Array MapEntry} {c : Nat} {E : List (Int × Value)} (h : MpE es c E) : ∀ e ∈ es.toList, ∃ l, keyOf Tryd.prog 3 e.key = some l := fun e he => by
  have h1 : (e.key, e.val) ∈ es.toList.map (fun e => (e.key, e.val)) := List.mem_map.2 ⟨e, he, rfl⟩
  rw [h.eq] at h1
  obtain ⟨p, hpm, hp⟩ := List.mem_map.1 h1
  rw [← (Prod.mk.inj hp).1]
  exact ky_key (h.nm p hpm)
theorem MpE.nodup {es : Array MapEntry} {c : Nat} {E : List (Int × Value)} (h : MpE es c E) : (E.map (·.1)).Nodup := by
  have h1 := h.st.2.2
  have h2 : es.toList.map (·.key) = E.map (fun p => kyV p.1) := by
    have := congrArg (List.map Prod.fst) h.eq
    simpa [List.map_map, Function.comp_def] using this
  rw [h2] at h1
  have h3 : (E.map (fun p => kyV p.1)) = (E.map (·.1)).map kyV := by simp [List.map_map, Function.comp_def]
  rw [h3] at h1
  exact (List.pairwise_map.1 h1).imp fun hne e => hne (congrArg kyV e)
theorem MpE.size {es : Array MapEntry} {c : Nat} {E : List (Int × Value)} (h : MpE es c E) : es.size = E.length := by
  have := congrArg List.length h.eq
  simpa using this
/-- what stands at a name -/
def lk (E : List (Int × Value)) (s : Int) : Option Value := (E.find? (fun p => decide (p.1 = s))).map (·.2)
theorem lk_none {E : List (Int × Value)} {s : Int} : lk E s = none ↔ ∀ p ∈ E, p.1 ≠ s := by
  simp [lk, List.find?_eq_none]
theorem lk_some {E : List (Int × Value)} (hn : (E.map (·.1)).Nodup) {s : Int} {v : Value} : lk E s = some v ↔ (s, v) ∈ E := by
  induction E with
  | nil => simp [lk]
  | cons p E ih =>
    simp only [List.map_cons, List.nodup_cons] at hn
    by_cases h : p.1 = s
    · simp only [lk, List.find?_cons, h, decide_true, Option.map_some, Option.some.injEq, List.mem_cons]
      constructor
      · intro e; left; rw [← h, ← e]
      · rintro (e | e)
        · rw [← e]
        · exact absurd (List.mem_map.2 ⟨(s, v), e, rfl⟩) (h ▸ hn.1)
    · have : lk (p :: E) s = lk E s := by simp [lk, h]
      rw [this, ih hn.2, List.mem_cons]
      constructor
      · exact .inr
      · rintro (e | e)
        · exact absurd (by rw [← e]) h
        · exact e
theorem MpE.find {es : Array MapEntry} {c : Nat} {E : List (Int × Value)} (h : MpE es c E) (w : World) {s : Int} (hs : Ky s) :
    ((Instr.findKey 3 (kyV s) es.toList).run Tryd.prog w = .ok none w ∧ (∀ e ∈ es.toList, e.key ≠ kyV s) ∧ lk E s = none) ∨
    ∃ j e0, (Instr.findKey 3 (kyV s) es.toList).run Tryd.prog w = .ok (some (j, e0.val)) w ∧ es.toList[j]? = some e0 ∧ e0.key = kyV s ∧ E[j]? = some (s, e0.val) ∧ lk E s = some e0.val := by
  obtain ⟨l, hl⟩ := ky_key hs
  rcases kyLaw.find w hl es.toList h.keys with ⟨h1, h2⟩ | ⟨j, e0, h1, h2, h3⟩
  · refine .inl ⟨h1, h2, lk_none.2 fun p hp e => ?_⟩
    have h4 : (kyV p.1, p.2) ∈ E.map (fun p => (kyV p.1, p.2)) := List.mem_map.2 ⟨p, hp, rfl⟩
    rw [← h.eq] at h4
    obtain ⟨x, hx, hxe⟩ := List.mem_map.1 h4
    exact h2 x hx (by rw [(Prod.mk.inj hxe).1, e])
  · have h4 : (es.toList.map (fun e => (e.key, e.val)))[j]? = some (kyV s, e0.val) := by rw [List.getElem?_map, h2, Option.map_some, h3]
    rw [h.eq, List.getElem?_map] at h4
    obtain ⟨p, hp, hpe⟩ := Option.map_eq_some_iff.1 h4
    have hpm := List.mem_of_getElem? hp
    have e1 : p.1 = s := ky_eq (Prod.mk.inj hpe).1
    have e2 : p = (s, e0.val) := Prod.ext e1 (Prod.mk.inj hpe).2
    exact .inr ⟨j, e0, h1, h2, h3, by rw [hp, e2], (lk_some h.nodup).2 (e2 ▸ hpm)⟩
theorem run_look {w : World} {b : Nat} {E : List (Int × Value)} (h : MpI w b E) {s : Int} (hs : Ky s) (c : Bool) :
    (Instr.lookup 104 (.map (some b)) (kyV s) c).run Tryd.prog w = .ok (if c = true then .tuple #[(lk E s).getD (.slice none 0 0), .bool (lk E s).isSome] else (lk E s).getD (.slice none 0 0)) w := by
  obtain ⟨es, ck, hb, hE⟩ := h
  obtain ⟨l, hl⟩ := ky_key hs
  rcases hE.find w hs with ⟨h1, _, h3⟩ | ⟨j, e0, h1, _, _, _, h3⟩
  · simp [Instr.lookup, run_underlying Tryd.underlying104, MapKept.run_getObj_map hb, kyLaw.check w _ hl, h1, Result.andThen, h3]
  · simp [Instr.lookup, run_underlying Tryd.underlying104, MapKept.run_getObj_map hb, kyLaw.check w _ hl, h1, Result.andThen, h3]
/-- what a change of one block leaves -/
theorem But.block1 {w : World} {b : Nat} (o : Obj) : But (fun k => k = b) w (setBlock w b o) := by
  refine ⟨rfl, rfl, rfl, by simp [setBlock], fun k _ hx => ?_⟩
  show (setBlock w b o).heap[k]? = _
  have hne : k ≠ b := hx
  simp only [setBlock]
  rw [Array.getElem?_setIfInBounds_ne (fun e => hne e.symm)]
theorem setBlock_at {w : World} {b : Nat} (o : Obj) (hb : b < w.heap.size) : (setBlock w b o).heap[b]? = some o := by
  simp [setBlock, hb]
/-- a name that was not there -/
theorem run_updNew {w : World} {b : Nat} {E : List (Int × Value)} (h : MpI w b E) {s : Int} (hs : Ky s) (v : Value) (hn : lk E s = none) :
    ∃ o, (Instr.mapUpdate 104 (.map (some b)) (kyV s) v).run Tryd.prog w = .ok () (setBlock w b o) ∧ MpI (setBlock w b o) b (E ++ [(s, v)]) := by
  have hlt := h.lt
  obtain ⟨es, ck, hb, hE⟩ := h
  obtain ⟨l, hl⟩ := ky_key hs
  rcases hE.find w hs with ⟨h1, h2, h3⟩ | ⟨j, e0, h1, _, _, _, h3⟩
  · refine ⟨.map (es.push ⟨kyV s, v, ck⟩) (ck + 1), ?_, es.push ⟨kyV s, v, ck⟩, ck + 1, setBlock_at _ hlt, MapKept.stamped_push hE.st h2, ?_, fun p hp => ?_⟩
    · simp [Instr.mapUpdate, run_underlying Tryd.underlying104, MapKept.run_getObj_map hb, kyLaw.check w false hl, h1, MapKept.run_setObj_map _ hb, Result.andThen, setBlock]
    · simp [hE.eq]
    · simp only [List.mem_append, List.mem_singleton] at hp
      rcases hp with hp | rfl
      · exact hE.nm p hp
      · exact hs
  · rw [hn] at h3; cases h3
/-- what was there already, laid again -/
theorem run_updSame {w : World} {b : Nat} {E : List (Int × Value)} (h : MpI w b E) {s : Int} (hs : Ky s) (v : Value) (hn : lk E s = some v) :
    ∃ o, (Instr.mapUpdate 104 (.map (some b)) (kyV s) v).run Tryd.prog w = .ok () (setBlock w b o) ∧ MpI (setBlock w b o) b E := by
  have hlt := h.lt
  obtain ⟨es, ck, hb, hE⟩ := h
  obtain ⟨l, hl⟩ := ky_key hs
  rcases hE.find w hs with ⟨h1, h2, h3⟩ | ⟨j, e0, h1, h2, h3, h4, h5⟩
  · rw [hn] at h3; cases h3
  · have hv : e0.val = v := by rw [hn] at h5; exact (Option.some.inj h5).symm
    have hj : es[j]? = some e0 := by simpa using h2
    have hid : (es.modify j fun e' => { e' with key := kyV s, val := v }) = es := by
      apply Array.ext_getElem?
      intro i
      rw [Array.getElem?_modify]
      by_cases hij : j = i
      · subst hij
        rw [if_pos rfl, hj, Option.map_some, ← h3, ← hv]
      · rw [if_neg hij]
    refine ⟨.map (es.modify j fun e' => { e' with key := kyV s, val := v }) ck, ?_, es, ck, ?_, hE⟩
    · simp [Instr.mapUpdate, run_underlying Tryd.underlying104, MapKept.run_getObj_map hb, kyLaw.check w false hl, h1, hj, h3, kyLaw.stays w hl, MapKept.run_setObj_map _ hb, Result.andThen, setBlock]
    · rw [hid]; exact setBlock_at _ hlt
theorem er_map2 {α β : Type} (f : α → β) : ∀ (l : List α) (i : Nat), (l.map f).eraseIdx i = (l.eraseIdx i).map f
  | [], _ => rfl
  | _ :: _, 0 => rfl
  | a :: l, i + 1 => by
    show f a :: (l.map f).eraseIdx i = f a :: (l.eraseIdx i).map f
    rw [er_map2 f l i]
theorem run_del {w : World} {b : Nat} {E : List (Int × Value)} (h : MpI w b E) {s : Int} (hs : Ky s) (ty : TypeId) :
    ∃ o, (Builtin.delete_ #[104, 3] ty #[.map (some b), kyV s]).run Tryd.prog w = .ok (.tuple #[]) (setBlock w b o) ∧ MpI (setBlock w b o) b (E.filter fun p => !decide (p.1 = s)) := by
  have hlt := h.lt
  obtain ⟨es, ck, hb, hE⟩ := h
  obtain ⟨l, hl⟩ := ky_key hs
  rcases hE.find w hs with ⟨h1, h2, h3⟩ | ⟨j, e0, h1, h2, h3, h4, h5⟩
  · refine ⟨.map es ck, ?_, es, ck, setBlock_at _ hlt, ?_⟩
    · simp [Builtin.delete_, run_underlying Tryd.underlying104, MapKept.run_getObj_map hb, kyLaw.check w _ hl, h1, MapKept.run_setObj_map _ hb, Result.andThen, setBlock]
    · have : (E.filter fun p => !decide (p.1 = s)) = E := List.filter_eq_self.2 fun p hp => by simpa using lk_none.1 h3 p hp
      rw [this]; exact hE
  · have hjl : j < es.toList.length := (List.getElem?_eq_some_iff.1 h2).1
    have hjs : j < es.size := by simpa using hjl
    have hsub : (es.eraseIdxIfInBounds j).toList = es.toList.eraseIdx j := by
      unfold Array.eraseIdxIfInBounds
      rw [dif_pos hjs]
      simp
    have hnd := hE.nodup
    have hfil : (E.filter fun p => !decide (p.1 = s)) = E.eraseIdx j := by
      clear h1 h2 h3 hjl hjs hsub
      have key : ∀ (E : List (Int × Value)) (j : Nat), (E.map (·.1)).Nodup → E[j]? = some (s, e0.val) → (E.filter fun p => !decide (p.1 = s)) = E.eraseIdx j := by
        intro E
        induction E with
        | nil => intro j _ h; simp at h
        | cons p E ih =>
          intro j hn hj
          simp only [List.map_cons, List.nodup_cons] at hn
          cases j with
          | zero =>
            simp only [List.getElem?_cons_zero, Option.some.injEq] at hj
            subst hj
            rw [List.filter_cons_of_neg (by simp), List.eraseIdx_cons_zero]
            refine List.filter_eq_self.2 fun p hp => ?_
            simp only [Bool.not_eq_true', decide_eq_false_iff_not]
            intro e
            exact hn.1 (List.mem_map.2 ⟨p, hp, e⟩)
          | succ j =>
            simp only [List.getElem?_cons_succ] at hj
            have hne : p.1 ≠ s := fun e => hn.1 (List.mem_map.2 ⟨(s, e0.val), List.mem_of_getElem? hj, e.symm⟩)
            rw [List.filter_cons_of_pos (by simpa using hne), List.eraseIdx_cons_succ, ih j hn.2 hj]
      exact key E j hnd h4
    refine ⟨.map (es.eraseIdxIfInBounds j) ck, ?_, es.eraseIdxIfInBounds j, ck, setBlock_at _ hlt, MapKept.stamped_erase hE.st j, ?_, fun p hp => hE.nm p (List.mem_filter.1 hp).1⟩
    · simp [Builtin.delete_, run_underlying Tryd.underlying104, MapKept.run_getObj_map hb, kyLaw.check w _ hl, h1, MapKept.run_setObj_map _ hb, Result.andThen, setBlock]
    · rw [hsub, hfil, ← er_map2, ← er_map2, hE.eq]
theorem run_mlen {w : World} {b : Nat} {E : List (Int × Value)} (h : MpI w b E) (ty : TypeId) : (Builtin.len_ #[104] ty #[.map (some b)]).run Tryd.prog w = .ok (.int .i64 (E.length : Int)) w := by
  obtain ⟨es, ck, hb, hE⟩ := h
  simp [Builtin.len_, run_underlying Tryd.underlying104, MapKept.run_getObj_map hb, Result.andThen, ← hE.size]
  rfl
end Go.Proofs.YtgnamngnmbaeeaaDoor
