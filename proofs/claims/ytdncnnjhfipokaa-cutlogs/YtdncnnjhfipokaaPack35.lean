import Derived.Test.YtdncnnjhfipokaaKkC
namespace Go.Proofs.Ytdncnnjhfipokaa
open Go.RowKit
set_option maxRecDepth 8000
theorem own_in {α : Type} {E : El α} {base : Nat} {w : World} {v : Value} {n : Nat} {g : Nat → α} {S : Nat → Prop} (own : w.ownsRow base E.ty E.size v n ((List.range n).flatMap fun j => E.cells (g j))) (hS : ∀ k, v.ownBlock = some k → S k) (each : ∀ j, j < n → E.In w S (g j)) (hnn : n ≤ 140737488355328) :
    ∃ p c, v = .slice p n c ∧ LT.In E w S ⟨p, n, c, g⟩ := by
  have hlt := own.lt
  have hce := @World.ownsRow.cells _ _ _ _ _ _ _ own
  obtain ⟨_, ⟨hv, h0⟩ | ⟨gb, cap, cur, hv, hbg, hh, hnc, hcm, hcs, htake⟩⟩ := id own
  · subst h0
    exact ⟨none, 0, hv, LT.In.none_ E w _ none 0 g (Nat.zero_le _) (fun _ => rfl)⟩
  · refine ⟨_, cap, hv, fun hn => ⟨gb, 0, rfl, hS gb (by rw [hv]; rfl), (hlt gb (by rw [hv]; rfl)).2, fun j hj r u hu => ?_⟩, each, hnc, hnn, hcm, fun h => by cases h⟩
    have hr : r < E.size := by
      rcases Nat.lt_or_ge r E.size with h1 | h1
      · exact h1
      · rw [List.getElem?_eq_none (by rw [E.len]; exact h1)] at hu; cases hu
    have := hce (g := gb) (by rw [hv]; rfl) (j * E.size + r) u (by rw [range_flat_get E g n j r hj hr]; exact hu)
    rw [Go.WideShapes.add_plain] at this
    rw [show (0 : Nat) + j * E.size + r = 0 + (j * E.size + r) by omega]
    exact this
theorem own_in' {α : Type} {E : El α} {base : Nat} {w : World} {l : LT α} {S : Nat → Prop} (own : w.ownsRow base E.ty E.size (.slice l.p l.n l.c) l.n ((List.range l.n).flatMap fun j => E.cells (l.item j))) (hS : ∀ k, (Value.slice l.p l.n l.c).ownBlock = some k → S k) (each : ∀ j, j < l.n → E.In w S (l.item j)) (hnn : l.n ≤ 140737488355328) : LT.In E w S l := by
  obtain ⟨p, c, e, h⟩ := own_in own hS each hnn
  obtain ⟨lp, ln, lc, li⟩ := l
  simp only [Value.slice.injEq, true_and] at e
  obtain ⟨rfl, rfl⟩ := e
  exact h
/-- the book's and the view's logs as lists -/
theorem LM.klog {w : World} {a b vb : Nat} {K : Bk} {V : Vw} (m : LM a w b vb K V) (h : BkI w b K) {p : Nat} (hp : p < 4) (hn : (K.lg p).n ≤ 140737488355328) : LT.In elRec w (fun k => k ≠ b) (K.lg p) :=
  own_in' (E := elRec) (h.own p hp) (fun _ hk e => h.ne p hp (e ▸ hk)) (fun j hj => (m.kl p hp j hj).mono fun _ hk _ e => hk.2.1 (.inl e)) hn
theorem LM.vlog {w : World} {a b vb : Nat} {K : Bk} {V : Vw} (m : LM a w b vb K V) (h : VwI w vb V) {p : Nat} (hp : p < 4) (hn : (V.lg p).n ≤ 140737488355328) : LT.In elRec w (fun _ => True) (V.lg p) :=
  own_in' (E := elRec) (h.own p hp) (fun _ _ => trivial) (fun j hj => (m.vl p hp j hj).mono fun _ _ _ => trivial) hn
/-- the logs that a part holds -/
theorem part_logs {w w' : World} {a b vb N : Nat} {K : Bk} {V : Vw} {p : Option Addr} {c : Nat} (m : LM a w b vb K V) (h : BkI w b K) (hb : But (fun k => k = b) w w') (ho : w'.ownsRow w.heap.size 37 1 (.slice p N c) N (K.lvs N)) (hN : N ≤ 4) (hn : ∀ p, p < 4 → (K.lg p).n ≤ 140737488355328) :
    LT.In elRecs w' (fun _ => True) ⟨p, N, c, K.lg⟩ := by
  have e : K.lvs N = (List.range N).flatMap fun j => elRecs.cells (K.lg j) := by
    unfold Bk.lvs Bk.lv
    exact List.map_eq_flatMap
  rw [e] at ho
  exact own_in' (E := elRecs) (l := ⟨p, N, c, K.lg⟩) ho (fun _ _ => trivial) (fun j hj => (((m.klog h (p := j) (by have : j < N := hj; omega) (hn j (by have : j < N := hj; omega))).kept hb.size fun k hk hl => hb.block k hl hk).mono fun _ _ _ => trivial : LT.In elRec w' _ _)) (by show N ≤ _; omega)
def Vw.hdSet (V : Vw) (x : Bool) : Vw := { V with hd := x }
theorem Vw.hdSame (V : Vw) : V.hdSet V.hd = V := by cases V; rfl
theorem VwI.hdSet {w w1 : World} {b : Nat} {V : Vw} (h : VwI w b V) (x : Bool) (hb : Below w.heap.size w w1) : VSet w b V (w1.setCell ⟨b, 13, none⟩ (.bool x)) (V.hdSet x) := by
  have h1 := h.below hb
  refine (VSet.same h hb).trans (h1.chg rfl ?_ ((But.one w1 b).setAt 13 _))
  have := h1.box.set 13 (.bool x)
  exact this
theorem Bk.lays_no {K : Bk} {x : Int} (h : ¬ K.tookE x = 0) : K.lays x = false := by
  unfold Bk.lays
  unfold Bk.tookE at h
  by_cases h1 : K.has x = false
  · rw [h1]; rfl
  · rw [if_neg h1] at h
    by_cases h2 : K.held x = true
    · rw [h2]; simp
    · rw [if_neg h2] at h; exact absurd rfl h
theorem Bk.has_took {K : Bk} {x : Int} (h : K.tookE x = 0) : K.has x = true := by
  rcases e : K.has x with _ | _
  · rw [Bk.tookE, if_pos e] at h; cases h
  · rfl
theorem Bk.has_ref {K : Bk} {x id : Int} (h : K.refE x id = 0) : K.has x = true := by
  rcases e : K.has x with _ | _
  · rw [Bk.refE, if_pos e] at h; cases h
  · rfl
theorem VLn.push {V : Vw} {N i : Nat} {p : Option Addr} {c : Nat} {u : RT} (h : VLn V N) : VLn (V.setLog i ((V.lg i).push p c u)) (N + 10000) := by
  intro j hj
  have := h j hj
  simp only [Vw.setLog]
  split
  · rename_i e; subst e; simp only [LT.push]; omega
  · omega
end Go.Proofs.Ytdncnnjhfipokaa

namespace Go.Proofs.Ytdncnnjhfipokaa
open Go.RowKit
set_option maxRecDepth 8000
theorem step_build1 {ops : Array Oper} {o : Oper} {a : Act} {w : World} {K : Act → World → Prop} {Q : Exit → Act → World → Prop} {E : Prop}
    (hgd : o.guard = none) (n : Nat) (hop : o.op = Op.buildSlice 37 1 #[(0, .tmp n)]) (u : RT) (hx : a.eval (.tmp n) = .agg #[.string u.key, .int .i64 u.v.kind, .int .i64 u.v.int, .string u.v.text, .slice u.v.p u.v.n u.v.c, .slice u.p u.n u.c])
    (hK : K (a.put o.dst (.slice (some ⟨w.heap.size, 0, none⟩) 1 1)) (w.alloc (.cells #[.string u.key, .int .i64 u.v.kind, .int .i64 u.v.int, .string u.v.text, .slice u.v.p u.v.n u.v.c, .slice u.p u.n u.c] 36))) :
    if Region.wanted o (yielded ops a.tmps) = true then Oper.wp Try.prog o a w K Q else E := by
  have hw : Region.wanted o (yielded ops a.tmps) = true := by simp [Region.wanted, hgd]
  rw [if_pos hw]
  obtain ⟨dst, op, ty, pos, after, guard⟩ := o
  simp only at hop hgd hK
  subst hop hgd
  have hx2 : a.tmps[n]?.getD undef = .agg #[.string u.key, .int .i64 u.v.kind, .int .i64 u.v.int, .string u.v.text, .slice u.v.p u.v.n u.v.c, .slice u.p u.n u.c] := by simpa [Act.eval, go_sem] using hx
  clear hw hx
  go_simp
  cases dst <;> exact hK
end Go.Proofs.Ytdncnnjhfipokaa
