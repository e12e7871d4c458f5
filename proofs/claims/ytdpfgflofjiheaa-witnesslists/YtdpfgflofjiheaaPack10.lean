import Derived.Test.YtdpfgflofjiheaaPack8
import Derived.Test.YtdpfgflofjiheaaPack9
import Derived.RangeFuncNested
import Derived.RangeFuncBox
import Derived.RangeFuncBound
import Derived.RangeFuncCalls
import Derived.RangeFuncLeaves
import Derived.Shelf.Abstract
import Derived.Shelf.RegionOpen
import Derived.WalkKit
import Derived.OwnWalkIn
import Derived.TacticsInMore
import Derived.LoopNIn
import Derived.LoopIn
import Derived.Test.YtdpfgflofjiheaaPack6
namespace Go.Proofs.Ytdpfgflofjiheaa
open Go.RowKit
set_option maxRecDepth 8000
/-- ahead of its task's copy, or behind it -/
def befP (f : Nat → TR) (m : Nat → Nat) (first : Bool) (q : Nat) : Bool := decide (q < m (f q).task.toNat) == first
/-- what Split answers: the error, the events before, the events after -/
def SplitS (l : LT TR) (n i : Int) (err : Int) (xs ys : List EV) : Prop :=
  (¬ CanL n l ∧ err = 181 ∧ xs = [] ∧ ys = []) ∨ (CanL n l ∧ NoLife l.item l.n i ∧ err = 180 ∧ xs = [] ∧ ys = []) ∨
  (CanL n l ∧ ∃ a b, LifeAt l.item l.n i a b ∧ ¬ AllCp l.item a b i n.toNat ∧ err = 181 ∧ xs = [] ∧ ys = []) ∨
  (CanL n l ∧ ∃ a b m, LifeAt l.item l.n i a b ∧ (∀ k : Nat, k < n.toNat → OneCp l.item a b i (k : Int) (m k)) ∧ err = 0 ∧ xs = evsF l.item (befP l.item m true) a (b - a) ∧ ys = evsF l.item (befP l.item m false) a (b - a))
theorem evs_same {f : Nat → TR} {n i : Int} {a b N : Nat} {m m' : Nat → Nat} {first : Bool} (hc : ∀ q, q < N → Can n (f q)) (hb : b ≤ N) (h : ∀ k : Nat, k < n.toNat → OneCp f a b i (k : Int) (m k)) (g : ∀ k : Nat, k < n.toNat → OneCp f a b i (k : Int) (m' k)) : evsF f (befP f m first) a (b - a) = evsF f (befP f m' first) a (b - a) := by
  refine evsF_congr fun q h1 h2 h3 => ?_
  have hq := hc q (by omega)
  have hk : (f q).task.toNat < n.toNat := by have := hq.1; have := hq.2.1; omega
  unfold befP
  rw [(h _ hk).uniq (g _ hk)]
theorem SplitS.uniq {l : LT TR} {n i e e' : Int} {xs ys xs' ys' : List EV} (h : SplitS l n i e xs ys) (g : SplitS l n i e' xs' ys') : e = e' ∧ xs = xs' ∧ ys = ys' := by
  have key : ∀ {a b a' b' : Nat} {m : Nat → Nat}, LifeAt l.item l.n i a b → LifeAt l.item l.n i a' b' → ¬ AllCp l.item a b i n.toNat → (∀ k : Nat, k < n.toNat → OneCp l.item a' b' i (k : Int) (m k)) → False := by
    intro a b a' b' m h1 h2 h3 h4
    obtain ⟨rfl, rfl⟩ := h1.uniq h2
    exact h3 fun k hk => ⟨m k, h4 k hk⟩
  rcases h with ⟨c, rfl, rfl, rfl⟩ | ⟨c, d, rfl, rfl, rfl⟩ | ⟨c, a, b, d, o, rfl, rfl, rfl⟩ | ⟨c, a, b, m, d, o, rfl, rfl, rfl⟩ <;>
    rcases g with ⟨c', rfl, rfl, rfl⟩ | ⟨c', d', rfl, rfl, rfl⟩ | ⟨c', a', b', d', o', rfl, rfl, rfl⟩ | ⟨c', a', b', m', d', o', rfl, rfl, rfl⟩ <;>
    first
    | exact ⟨rfl, rfl, rfl⟩
    | exact (c c').elim
    | exact (c' c).elim
    | exact (d'.not d).elim
    | exact (d.not d').elim
    | exact (key d d' o o').elim
    | exact (key d' d o' o).elim
    | (obtain ⟨rfl, rfl⟩ := d.uniq d'
       exact ⟨rfl, evs_same c.2.2 (by have := d.bn; omega) o o', evs_same c.2.2 (by have := d.bn; omega) o o'⟩)
/-- what a Split answers, in memory: two rows in memory of their own -/
def SplitQ (l : LT TR) (n i : Int) (w : World) (e : Ending) (w' : World) : Prop := ∃ (v1 v2 : Value) (err : Int) (xs ys : List EV), SplitS l n i err xs ys ∧ e = .returned (.tuple #[v1, v2, .int .i64 err]) ∧ EvRow w.heap.size w' v1 xs ∧ EvRow w.heap.size w' v2 ys ∧ Below w.heap.size w w'
set_option maxHeartbeats 8000000 in
theorem rsplit_any (l : LT TR) (i n : Int) (w : World) (S : Nat → Prop) (hl : LT.In elTr w S l) (h47 : l.n * 32 ≤ 140737488355328) :
    Calls Try.prog 19 #[.slice l.p l.n l.c, .int .i64 i, .int .i64 n] w fun e w' => SplitQ l n i w e w' := by
  have hnn := hl.nn
  have H := hid hl
  have H47 := hid h47
  have HCan := hid (rcan_any l n w S hl)
  clear hl h47
  go_enter Try.func19, Try.ntmps19
  go_wp2_with fail
  refine HCan.out.mono ?_
  rintro e w1 ⟨r, rfl, hr, hb1⟩
  have HB1 := hid hb1
  have H1 := hid (H.out.below hb1)
  clear hb1 HCan
  cases r with
  | false =>
    have HC : Hid (¬ CanL n l) := fun h => by have := hr.2 h; cases this
    clear hr
    go_wp2
    exact bodyPost_ret (v := .tuple #[.slice none 0 0, .slice none 0 0, .int .i64 181]) (by simp [results, Try.results19, go_sem]) rfl ⟨_, _, 181, [], [], .inl ⟨HC.out, rfl, rfl, rfl⟩, rfl, EvRow.nil _ _, EvRow.nil _ _, HB1.out⟩
  | true =>
    have HC : Hid (CanL n l) := hr.1 rfl
    clear hr
    obtain ⟨T, hT⟩ : ∃ T : Nat, n = (T : Int) := ⟨n.toNat, by have := HC.out.1; omega⟩
    have HT := hid hT
    have hT1 : 1 ≤ T := by have := HC.out.1; omega
    have hT12 : T ≤ 12 := by have := HC.out.2.1; omega
    rw [hT]
    rw [hT] at HC
    clear hT
    have HL := hid (rlifeOf_any l l.n i w1 S H1.out (Nat.le_refl _))
    go_wp2_with fail
    refine HL.out.mono ?_
    rintro e w2 ⟨hq, rfl⟩
    clear HL
    rcases hq with ⟨hno, rfl⟩ | ⟨a, b, hlf, rfl⟩
    · have HNo := hid hno
      clear hno
      go_wp2
      exact bodyPost_ret (v := .tuple #[.slice none 0 0, .slice none 0 0, .int .i64 180]) (by simp [results, Try.results19, go_sem]) rfl ⟨_, _, 180, [], [], .inr (.inl ⟨by rw [HT.out]; exact HC.out, HNo.out, rfl, rfl, rfl⟩), rfl, EvRow.nil _ _, EvRow.nil _ _, HB1.out⟩
    · have hab := hlf.ab
      have hbn := hlf.bn
      have ha0 : ¬ (a : Int) < 0 := by omega
      have HLf := hid hlf
      have HCp := hid (copies_any l a b i T w2 S H1.out hab (by omega) hT12)
      clear hlf
      go_wp2_with fail
      refine HCp.out.mono ?_
      rintro e w3 ⟨hb3, hq⟩
      have HB3 := hid hb3
      have H3 := hid (H1.out.below hb3)
      clear hb3 HCp
      rcases hq with ⟨m, v, rfl, hrow, hone⟩ | ⟨hno, rfl⟩
      · have HOne := hid hone
        obtain ⟨g, c, rfl, hg1, hg2, _, hgc⟩ := hrow.at_ (by simp; omega)
        have hlen : ((List.range T).map fun k => (m k : Int)).length = T := by simp
        rw [hlen]
        have hcell : ∀ t, t < T → w3.cell? ⟨g, t, none⟩ = some (.int .i64 (m t : Int)) := fun t ht => (hgc t _ (by simp [ht])).1
        have hk1 : ∀ q, a ≤ q → q < b → (l.item q).kind = 1 → 0 ≤ (l.item q).task ∧ (l.item q).task < (T : Int) := fun q _ h2 _ => by
          have := HC.out.2.2 q (by omega)
          exact ⟨this.1, this.2.1⟩
        have hm : ∀ t, t < T → m t ≤ l.n := fun t ht => by have := (hone t ht).2.1; omega
        have HS1 := hid (sides_any l a b T g c m true w3 S H3.out H47.out hab (by omega) hT12 hg2 hcell hm hk1)
        have HS2 := fun (w4 : World) (h4 : Below w3.heap.size w3 w4) => hid (sides_any l a b T g c m false w4 S (H3.out.below h4) H47.out hab (by omega) hT12 (Nat.lt_of_lt_of_le hg2 h4.size) (fun t ht => (World.cell?_of_block (a := ⟨g, t, none⟩) (h4.block g hg2)).trans (hcell t ht)) hm hk1)
        clear hone hrow hgc hlen hcell hk1 hm
        go_wp2_with fail
        refine HS1.out.mono ?_
        rintro e w4 ⟨v1, rfl, hr1, hb4⟩
        have HS2' := HS2 w4 hb4
        have HR1 := hid hr1
        have HB4 := hid hb4
        clear hr1 hb4 HS2 HS1
        go_wp2_with fail
        refine HS2'.out.mono ?_
        rintro e w5 ⟨v2, rfl, hr2, hb5⟩
        have HR2 := hid hr2
        have HB5 := hid hb5
        clear hr2 hb5 HS2'
        go_wp2
        have e1 : n.toNat = T := by have := HT.out; omega
        have s3 : w.heap.size ≤ w3.heap.size := Nat.le_trans HB1.out.size HB3.out.size
        have s4 : w.heap.size ≤ w4.heap.size := Nat.le_trans s3 HB4.out.size
        refine bodyPost_ret (v := .tuple #[v1, v2, .int .i64 0]) (by simp [results, Try.results19, go_sem]) rfl ⟨v1, v2, 0, _, _, .inr (.inr (.inr ⟨?_, a, b, m, HLf.out, ?_, rfl, rfl, rfl⟩)), rfl, ?_, ?_, ?_⟩
        · rw [HT.out]; exact HC.out
        · rw [e1]; exact HOne.out
        · exact (HR1.out.below HB5.out).mono s3
        · exact HR2.out.mono s4
        · exact ((HB1.out.trans (HB3.out.mono HB1.out.size)).trans (HB4.out.mono s3)).trans (HB5.out.mono s4)
      · have HNo := hid hno
        clear hno
        go_wp2
        have e1 : n.toNat = T := by have := HT.out; omega
        refine bodyPost_ret (v := .tuple #[.slice none 0 0, .slice none 0 0, .int .i64 181]) (by simp [results, Try.results19, go_sem]) rfl ⟨_, _, 181, [], [], .inr (.inr (.inl ⟨?_, a, b, HLf.out, ?_, rfl, rfl, rfl⟩)), rfl, EvRow.nil _ _, EvRow.nil _ _, HB1.out.trans (HB3.out.mono HB1.out.size)⟩
        · rw [HT.out]; exact HC.out
        · rw [e1]; exact HNo.out
end Go.Proofs.Ytdpfgflofjiheaa

namespace Go.Proofs.Ytdpfgflofjiheaa
open Go.RowKit Go.Shelf
set_option maxRecDepth 8000
attribute [local go_sem] Oper.semAt_some
/-- what has come when k rounds are over: the last k places, from the last on -/
def backs (n : Nat) : Nat → List (Fin n)
  | 0 => []
  | k + 1 => if h : n - 1 - k < n then backs n k ++ [⟨n - 1 - k, h⟩] else backs n k
theorem backs_succ {n k : Nat} (h : k < n) : backs n (k + 1) = backs n k ++ [⟨n - 1 - k, by omega⟩] := by
  rw [backs, dif_pos (by omega)]
theorem backs_len {n : Nat} : ∀ {k : Nat}, k ≤ n → (backs n k).length = k := by
  intro k
  induction k with
  | zero => intro _; rfl
  | succ k ih => intro h; rw [backs_succ h, List.length_append, ih (by omega)]; rfl
theorem backs_mem {n : Nat} {x : Fin n} : ∀ {k : Nat}, k ≤ n → (x ∈ backs n k ↔ n - k ≤ x.val) := by
  intro k
  induction k with
  | zero => intro _; simp [backs]
  | succ k ih =>
    intro h
    rw [backs_succ h, List.mem_append, ih (by omega)]
    simp only [List.mem_singleton]
    constructor
    · rintro (h1 | rfl)
      · omega
      · show n - (k + 1) ≤ n - 1 - k
        omega
    · intro h1
      by_cases h2 : n - k ≤ x.val
      · exact .inl h2
      · exact .inr (Fin.ext (by show x.val = n - 1 - k; omega))
def trV (t : TR) : Value := .agg #[.int .i64 t.kind, .int .i64 t.task, .int .i64 t.port, .int .i64 t.id]
set_option maxHeartbeats 4000000 in
/-- slices.Backward's closure -/
theorem back1_in (n : Nat) (F : Fence) (h50 : F.fn 50) (hro : F.round = none) (hn : 1 ≤ n) (l Bs n₀ : Nat) (L : LT TR) (hnn : L.n ≤ 140737488355328) (J Jx : List (Fin L.n) → World → Prop)
    (hY : ∀ pre x W, J pre W → pre.length < L.n → YieldAt F (n - 1) Try.prog l #[.int .i64 (x.val : Int), trV (L.item x.val)] W fun e W' =>
      (e = .returned (.bool true) ∧ J (pre ++ [x]) W' ∧ Below n₀ W W') ∨ (e = .returned (.bool false) ∧ Jx (pre ++ [x]) W'))
    (W : World) (hBs : W.cell? ⟨Bs, 0, none⟩ = some (.slice L.p L.n L.c)) (hB0 : Bs < n₀) (hL : LT.In elTr W (fun b => b < n₀) L) (h0 : J [] W) :
    CallsIn F n Try.prog 50 #[.func (.yield l) #[] #[], .pointer (some ⟨Bs, 0, none⟩)] W fun e W' => (∃ v, e = .returned v) ∧
      ((∃ ys, ys = backs L.n L.n ∧ J ys W') ∨ (∃ pre, (∃ k, k ≤ L.n ∧ pre = backs L.n k) ∧ Jx pre W')) := by
  have H := hid hL
  clear hL
  refine callsIn_of_wp Try.func50 rfl h50 ?_ hro
  simp only [Try.ntmps50, List.size_toArray, List.length_cons, List.length_nil, Nat.reduceAdd, Nat.reduceSub, Array.replicate_succ, Array.replicate_zero, List.push_toArray, List.append_toArray, List.nil_append, List.cons_append]
  gi_wp2
  gi_loopw [3] (fun i wr => ∃ k : Nat, k ≤ L.n ∧ i = .int .i64 ((L.n : Int) - 1 - (k : Int)) ∧ J (backs L.n k) wr ∧ Below n₀ W wr)
    (fun i _ => ((intOf i) + 1).toNat)
  case atStart => exact ⟨0, Nat.zero_le _, by go_num, h0, Below.refl _ _⟩
  case round =>
    obtain ⟨k, hk, rfl, hJs, hnx⟩ := hrel
    have hBs' := (hnx.cell (p := ⟨Bs, 0, none⟩) hB0).trans hBs
    by_cases hlt : k < L.n
    · obtain ⟨j, hj⟩ : ∃ j : Nat, j = L.n - 1 - k := ⟨_, rfl⟩
      have hjn : j < L.n := by omega
      have hjn' : (j : Int) < (L.n : Int) := by omega
      have e1 : (L.n : Int) - 1 - (k : Int) = (j : Int) := by omega
      rw [e1]
      obtain ⟨b1, o1, hp, hS, hl1, ha⟩ := H.out.tr (by omega)
      obtain ⟨a0, a1, a2, a3⟩ := ha j hjn
      rw [hp] at hBs'
      have c0 := (hnx.cell (p := ⟨b1, o1 + j * 4, none⟩) hS).trans a0
      have c1 := (hnx.cell (p := ⟨b1, o1 + j * 4 + 1, none⟩) hS).trans a1
      have c2 := (hnx.cell (p := ⟨b1, o1 + j * 4 + 2, none⟩) hS).trans a2
      have c3 := (hnx.cell (p := ⟨b1, o1 + j * 4 + 3, none⟩) hS).trans a3
      have HJ : Hid (backs L.n (k + 1) = backs L.n k ++ [⟨j, hjn⟩]) := by
        show _ = _
        rw [backs_succ hlt]
        simp only [hj]
      obtain ⟨fn, tmps, assign, body, hy, hR⟩ := hY _ ⟨j, hjn⟩ wr hJs (by rw [backs_len hk]; exact hlt)
      dsimp only [trV] at hy
      have HE1 := hid e1
      have HJd := hid hj
      clear e1 hj ha hp a0 a1 a2 a3
      gi_wp2
      refine hR.mono ?_
      rintro e W3 (⟨rfl, hJ3, hk3⟩ | ⟨rfl, hJx3⟩)
      · gi_wp2
        go_roundw
        case rel => exact ⟨k + 1, by omega, by have := HE1.out; have := HJd.out; go_num; try omega, by rw [HJ.out]; exact hJ3, hnx.trans hk3⟩
        case measure => simp [intOf]
      · gi_wp2
        refine bodyPost_ret (results_none rfl _ _ _) rfl ?_
        exact ⟨⟨_, rfl⟩, .inr ⟨_, ⟨k + 1, by omega, HJ.out.symm⟩, hJx3⟩⟩
    · obtain rfl : k = L.n := by omega
      have e1 : (L.n : Int) - 1 - (L.n : Int) = -1 := by omega
      rw [e1]
      gi_wp2
      go_end0
      exact ⟨⟨_, rfl⟩, .inl ⟨_, rfl, hJs⟩⟩
/-- slices.Backward -/
theorem back_in (F : Fence) (n : Nat) (h : F.fn 43) (hro : F.round = none) (p : Option Addr) (m c : Nat) (w : World) :
    CallsIn F n Try.prog 43 #[.slice p m c] w fun e w' => e = .returned (.func (.func 50) #[] #[.pointer (some ⟨w.heap.size, 0, none⟩)]) ∧ w' = w.alloc (.cells #[.slice p m c] 22) := by
  refine callsIn_of_wp Try.func43 rfl h ?_ hro
  simp only [Try.ntmps43, List.size_toArray, List.length_cons, List.length_nil, Nat.reduceAdd, Nat.reduceSub, Array.replicate_succ, Array.replicate_zero, List.push_toArray, List.append_toArray, List.nil_append, List.cons_append]
  gi_wp2
  go_ret
  exact ⟨rfl, rfl⟩
theorem back_stops (F : Fence) (n : Nat) (h50 : F.fn 50) (hro : F.round = none) (hn : 1 ≤ n) (Bs n₀ : Nat) (L : LT TR) (w : World) (hBs : Bs < n₀) (hn₀ : n₀ ≤ w.heap.size)
    (hc : w.cell? ⟨Bs, 0, none⟩ = some (.slice L.p L.n L.c)) (hL : LT.In elTr w (fun b => b < n₀) L) :
    SeqStopsK F n Try.prog 50 #[.pointer (some ⟨Bs, 0, none⟩)] (fun x : Fin L.n => #[Value.int .i64 (x.val : Int), trV (L.item x.val)]) (Below n₀) (fun ys => ys = backs L.n L.n) (fun pre => ∃ k, k ≤ L.n ∧ pre = backs L.n k) L.n w := fun l J Jx W hW _ _ hY h0 => by
  exact back1_in n F h50 hro hn l Bs n₀ L hL.nn J Jx hY W ((hW.cell (p := ⟨Bs, 0, none⟩) (Nat.lt_of_lt_of_le hBs hn₀)).trans hc) hBs (hL.kept hW.size fun b hb _ => hW.block b (Nat.lt_of_lt_of_le hb hn₀)) h0
end Go.Proofs.Ytdpfgflofjiheaa
