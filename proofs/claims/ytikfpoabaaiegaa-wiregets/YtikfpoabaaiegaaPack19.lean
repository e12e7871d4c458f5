import Derived.Test.YtikfpoabaaiegaaPack18
import Derived.Test.YtikfpoabaaiegaaPack9
import Derived.Test.YtikfpoabaaiegaaPack7
import Derived.Deep.RegionLaw
import Derived.Deep.DeepCutAuto
import Derived.Test.YtikfpoabaaiegaaPack15
import Derived.Test.YtikfpoabaaiegaaPack4
import Derived.Orders
import Derived.Still
namespace Go.Proofs.Ytikfpoabaaiegaa
open Go.RowKit
set_option maxRecDepth 8000
theorem grown_but {w w3 w4 : World} {c c' : Value} {g : Nat} (hg : w.grownBy w3 c.ownBlock) (hn : Near w c c') (hc : c'.ownBlock = some g) (hs : But (fun x => x = g) w3 w4) : w.grownBy w4 c.ownBlock := by
  refine ⟨hs.os.trans hg.os, hs.tape.trans hg.tape, hs.output.trans hg.output, Nat.le_trans hg.size hs.size, fun k hk hne => (hs.block k (Nat.lt_of_lt_of_le hk hg.size) fun e => ?_).trans (hg.block k hk hne)⟩
  subst e
  rcases hn with h1 | h1
  · exact hne (by rw [← h1, hc])
  · have := h1 k hc; omega
theorem stored4 {w : World} {base g cap n : Nat} {e : TypeId} {xs : List Value} {z0 z1 z2 z3 : Value} (h : w.ownsRow base e 4 (.slice (some ⟨g, 0, none⟩) (n + 1) cap) (n + 1) (xs ++ [z0, z1, z2, z3])) (hx : xs.length = n * 4) (u0 u1 u2 u3 : Value) :
    ((((w.setCell ⟨g, n * 4, none⟩ u0).setCell ⟨g, n * 4 + 1, none⟩ u1).setCell ⟨g, n * 4 + 2, none⟩ u2).setCell ⟨g, n * 4 + 3, none⟩ u3).ownsRow base e 4 (.slice (some ⟨g, 0, none⟩) (n + 1) cap) (n + 1) (xs ++ [u0, u1, u2, u3]) := by
  have h4 := ((((h.stored (n * 4) u0).1.stored (n * 4 + 1) u1).1.stored (n * 4 + 2) u2).1.stored (n * 4 + 3) u3).1
  have e4 : ((((xs ++ [z0, z1, z2, z3]).set (n * 4) u0).set (n * 4 + 1) u1).set (n * 4 + 2) u2).set (n * 4 + 3) u3 = xs ++ [u0, u1, u2, u3] := by
    rw [← hx]
    simp
  rw [e4] at h4
  exact h4
theorem last4 {w : World} {base g cap n : Nat} {e : TypeId} {xs ys : List Value} (h : w.ownsRow base e 4 (.slice (some ⟨g, 0, none⟩) (n + 1) cap) (n + 1) (xs ++ ys)) (hx : xs.length = n * 4) (r : Nat) (u : Value) (hu : ys[r]? = some u) : w.cell? ⟨g, n * 4 + r, none⟩ = some u := by
  have := h.cells (g := g) rfl (n * 4 + r) u (by rw [List.getElem?_append_right (by omega), hx, show n * 4 + r - n * 4 = r by omega]; exact hu)
  rw [Go.WideShapes.add_plain, Nat.zero_add] at this
  exact this
theorem valC_len (V : List VT) : (valC V).length = V.length * 4 := by
  induction V with
  | nil => rfl
  | cons q V ih => rw [show valC (q :: V) = q.cells ++ valC V by simp [valC], List.length_append, ih]; simp [VT.cells]; omega
theorem one_zero : ∀ u ∈ [Value.int .i64 0, .int .i64 0, .string ⟨#[]⟩, .slice none 0 0], u.oneCell' = true := by
  intro u hu
  simp at hu
  rcases hu with rfl | rfl | rfl <;> rfl
theorem setCell_comm (w : World) {g r i j : Nat} (h : g ≠ r) (u v : Value) : (w.setCell ⟨r, j, none⟩ v).setCell ⟨g, i, none⟩ u = (w.setCell ⟨g, i, none⟩ u).setCell ⟨r, j, none⟩ v := by
  unfold World.setCell
  simp only
  congr 1
  apply Array.ext
  · simp
  · intro k h1 h2
    simp only [Array.getElem_modify]
    by_cases h3 : r = k
    · subst h3
      rw [if_neg h, if_pos rfl, if_pos rfl, if_neg h]
    · by_cases h4 : g = k
      · subst h4
        simp [h3]
      · simp [h3, h4]
theorem head_first (w : World) {g r i j : Nat} (h : g ≠ r) (v u0 u1 u2 u3 : Value) : ((((w.setCell ⟨r, j, none⟩ v).setCell ⟨g, i, none⟩ u0).setCell ⟨g, i + 1, none⟩ u1).setCell ⟨g, i + 2, none⟩ u2).setCell ⟨g, i + 3, none⟩ u3 = ((((w.setCell ⟨g, i, none⟩ u0).setCell ⟨g, i + 1, none⟩ u1).setCell ⟨g, i + 2, none⟩ u2).setCell ⟨g, i + 3, none⟩ u3).setCell ⟨r, j, none⟩ v := by
  rw [setCell_comm w h, setCell_comm _ h, setCell_comm _ h, setCell_comm _ h]
theorem But.setFour (w : World) (g i : Nat) (u0 u1 u2 u3 : Value) : But (fun x => x = g) w ((((w.setCell ⟨g, i, none⟩ u0).setCell ⟨g, i + 1, none⟩ u1).setCell ⟨g, i + 2, none⟩ u2).setCell ⟨g, i + 3, none⟩ u3) := ((((But.one w g).setAt _ _).setAt _ _).setAt _ _).setAt _ _
theorem near_ne {w : World} {v v' : Value} {q : Nat} (hn : Near w v v') (h : v.ownBlock ≠ some q) (hq : q < w.heap.size) : v'.ownBlock ≠ some q := fun e => by
  rcases hn with h1 | h1
  · exact h (h1 ▸ e)
  · have := h1 q e; omega
end Go.Proofs.Ytikfpoabaaiegaa

namespace Go.Proofs.Ytikfpoabaaiegaa
open Go.RowKit
set_option maxRecDepth 8000
def mS : Nat → List Nat → Option Nat
  | _, [] => none
  | d, c :: cs => if c = 91 ∨ c = 60 then (mS (d + 1) cs).map (· + 1) else if c = 93 ∨ c = 62 then (if d = 0 then none else if d = 1 then some 0 else (mS (d - 1) cs).map (· + 1)) else (mS d cs).map (· + 1)
structure Bg where
  N : List Int
  K : List ByteArray
  V : List VT
end Go.Proofs.Ytikfpoabaaiegaa

namespace Go.Proofs.Ytikfpoabaaiegaa
open Go.RowKit
set_option maxRecDepth 8000

def unl : List Bool → Nat
  | [] => 0
  | b :: r => (if b then 0 else 1) + unl r
theorem unl_set : ∀ (l : List Bool) (i : Nat), l[i]? = some false → unl (l.set i true) + 1 = unl l
  | [], i, h => by simp at h
  | b :: r, 0, h => by
    simp at h
    subst h
    simp [unl]
    omega
  | b :: r, i + 1, h => by
    have := unl_set r i (by simpa using h)
    simp only [List.set_cons_succ, unl]
    omega
theorem unl_zero : ∀ (l : List Bool), unl l = 0 → ∀ (i : Nat) (b : Bool), l[i]? = some b → b = true
  | [], _, i, b, h => by simp at h
  | c :: r, hu, 0, b, h => by
    simp at h
    subst h
    cases c with
    | true => rfl
    | false => simp [unl] at hu
  | c :: r, hu, i + 1, b, h => by
    refine unl_zero r ?_ i b (by simpa using h)
    simp only [unl] at hu
    omega

theorem wpAny_inv {P : Program} {ops : Array Oper} {Q : Exit → Act → World → Prop} (I : (Nat → Prop) → Act → World → Prop)
    (hext : ∀ D D' a w, (∀ j, D j ↔ D' j) → I D a w → I D' a w)
    (hac : ∀ (i : Nat) (o : Oper), ops[i]? = some o → ∀ e ∈ o.after, Region.binds .any e = true → e.on < i)
    (hstep : ∀ D a w, I D a w → ∀ (i : Nat) (o : Oper), ops[i]? = some o → ¬ D i → (∀ e ∈ o.after, Region.binds .any e = true → D e.on) → wpOp P ops Q i (I fun j => D j ∨ j = i) a w)
    (hend : ∀ D a w, I D a w → (∀ i, i < ops.size → D i) → Q .normal a w) :
    ∀ (fuel : Nat) (listed : Array Bool) (a : Act) (w : World), listed.size = ops.size → unl listed.toList ≤ fuel → I (fun j => listed[j]? = some true) a w → wpAny P .any ops Q fuel listed a w := by
  have hall : ∀ (listed : Array Bool), listed.size = ops.size → Region.ready .any ops listed = [] → ∀ i, i < ops.size → listed[i]? = some true := by
    intro listed hs hr i
    induction i using Nat.strongRecOn with
    | _ i ih =>
      intro hi
      cases hb : listed[i]? with
      | none => rw [Array.getElem?_eq_none_iff] at hb; omega
      | some b =>
        cases b with
        | true => rfl
        | false =>
          exfalso
          have hm : i ∈ Region.ready .any ops listed := by
            rw [mem_ready]
            refine ⟨by simp [Array.getD_eq_getD_getElem?, hb], ops[i], by simp [hi], fun e he hbd => ?_⟩
            have hlt := hac i ops[i] (by simp [hi]) e he hbd
            have := ih e.on hlt (by omega)
            simp [Array.getD_eq_getD_getElem?, this]
          rw [hr] at hm
          cases hm
  intro fuel
  induction fuel with
  | zero =>
    intro listed a w hs hu hI
    have hl : ∀ i, i < ops.size → listed[i]? = some true := by
      intro i hi
      cases hb : listed[i]? with
      | none => rw [Array.getElem?_eq_none_iff] at hb; omega
      | some b => rw [unl_zero listed.toList (by omega) i b (by simpa using hb)]
    refine ⟨?_, hend _ a w hI hl⟩
    cases hr : Region.ready .any ops listed with
    | nil => rfl
    | cons j r =>
      have hj : j ∈ Region.ready .any ops listed := by rw [hr]; simp
      rw [mem_ready] at hj
      obtain ⟨h0, o, ho, _⟩ := hj
      have hlt : j < ops.size := (Array.getElem?_eq_some_iff.1 ho).1
      rw [Array.getD_eq_getD_getElem?, hl j hlt] at h0
      cases h0
  | succ fuel ih =>
    intro listed a w hs hu hI
    refine ⟨fun hr => hend _ a w hI (hall listed hs hr), fun i hi => ?_⟩
    rw [mem_ready] at hi
    obtain ⟨h0, o, ho, hdep⟩ := hi
    have hlt : i < ops.size := (Array.getElem?_eq_some_iff.1 ho).1
    have hli : listed[i]? = some false := by
      cases hb : listed[i]? with
      | none => rw [Array.getElem?_eq_none_iff] at hb; omega
      | some b => rw [Array.getD_eq_getD_getElem?, hb] at h0; simp at h0; rw [h0]
    refine wpOp_mono ?_ (hstep _ a w hI i o ho (by rw [hli]; simp) (fun e he hb => ?_))
    · intro a' w' h'
      refine ih _ a' w' (by simpa using hs) ?_ (hext _ _ _ _ ?_ h')
      · have := unl_set listed.toList i (by simpa using hli)
        rw [Array.toList_setIfInBounds]
        omega
      · intro j
        by_cases hji : j = i
        · subst hji
          simp [hs, hlt]
        · simp [hji, Ne.symm hji]
    · have := hdep e he hb
      rw [Array.getD_eq_getD_getElem?] at this
      cases hb2 : listed[e.on]? with
      | none => rw [hb2] at this; simp at this
      | some b => rw [hb2] at this; simp at this; rw [this]

theorem unl_replicate : ∀ n, unl (List.replicate n false) = n
  | 0 => rfl
  | n + 1 => by
    have := unl_replicate n
    simp only [List.replicate_succ, unl]
    simp
    omega

def acB (ops : Array Oper) : Bool := (List.range ops.size).all fun i => match ops[i]? with
  | none => true
  | some o => o.after.all fun e => !(Region.binds .any e) || decide (e.on < i)
theorem acB_spec {ops : Array Oper} (h : acB ops = true) : ∀ (i : Nat) (o : Oper), ops[i]? = some o → ∀ e ∈ o.after, Region.binds .any e = true → e.on < i := by
  intro i o ho e he hb
  have hlt : i < ops.size := (Array.getElem?_eq_some_iff.1 ho).1
  have h1 := List.all_eq_true.1 h i (List.mem_range.2 hlt)
  simp only [ho] at h1
  have h2 := Array.all_eq_true_iff_forall_mem.1 h1 e he
  rw [hb] at h2
  simpa using h2

theorem wp_region_inv {P : Program} {ops : Array Oper} {Q : Exit → Act → World → Prop} {id : Nat} {a : Act} {w : World} (hm : P.follows .mixedOrders = true) (I : (Nat → Prop) → Act → World → Prop)
    (hext : ∀ D D' a w, (∀ j, D j ↔ D' j) → I D a w → I D' a w)
    (hac : acB ops = true)
    (h0 : ∀ D, (∀ j, ¬ D j) → I D a w.drew)
    (hstep : ∀ D a w, I D a w → ∀ (i : Nat) (o : Oper), ops[i]? = some o → ¬ D i → (∀ e ∈ o.after, Region.binds .any e = true → D e.on) → wpOp P ops Q i (I fun j => D j ∨ j = i) a w)
    (hend : ∀ D a w, I D a w → (∀ i, i < ops.size → D i) → Q .normal a w) : (Code.region id ops true).wp P Q a w := by
  refine wp_region_any hm (wpAny_inv I hext (acB_spec hac) hstep hend ops.size _ a _ (by simp) ?_ (h0 _ ?_))
  · rw [Array.toList_replicate, unl_replicate]
    exact Nat.le_refl _
  · intro j h
    rw [Array.getElem?_replicate] at h
    split at h <;> simp at h
end Go.Proofs.Ytikfpoabaaiegaa

namespace Go.Proofs.Ytikfpoabaaiegaa
open Go.RowKit
set_option maxRecDepth 8000

def cls (C : World → Prop) (b : Bool) : World → Prop := fun w => b = true ∨ C w
def Yld (P : Program) (ops : Array Oper) (C : World → Prop) (o : Oper) (v : Value) (a : Act) : Prop :=
  (Region.wanted o (yielded ops a.tmps) = true ∧ ∀ w, C w → (execOp a.eval o).run P w = .ok (.value v) w) ∨ (Region.wanted o (yielded ops a.tmps) = false ∧ v = undef)
def wpPre (P : Program) (ops : Array Oper) (C : World → Prop) : List (Nat × Bool) → (Act → Prop) → Act → Prop
  | [], K, a => K a
  | (i, b) :: r, K, a => ∃ o v, ops[i]? = some o ∧ Yld P ops (cls C b) o v a ∧ wpPre P ops C r K (a.put o.dst v)
def Qn (Q : Exit → Act → World → Prop) : Exit → Act → World → Prop := fun e a w => e = .normal ∧ Q .normal a w
def wpSeq (P : Program) (ops : Array Oper) (Q : Exit → Act → World → Prop) (C : World → Prop) : List (Nat × Bool) → Act → World → Prop
  | [], a, w => Q .normal a w
  | (m, b) :: r, a, w => wpOp P ops (Qn Q) m (fun a w => (b = true → C w) ∧ wpSeq P ops Q C r a w) a w

section
variable {P : Program} {ops : Array Oper} {Q : Exit → Act → World → Prop} {C : World → Prop}
theorem Qn_out : ¬ LetsOut (Qn Q) := fun ⟨_, _, h, _⟩ => by cases h
theorem Yld.put {oi : Oper} {dj : Option Tmp} {v : Value} {a : Act} {C : World → Prop} (hs : ∀ cs b, oi.op ≠ .select cs b) (h3 : ∀ d, dj = some d → d ∉ oi.looksAt ops) (hy : Yld P ops C oi v a) (u : Value) : Yld P ops C oi v (a.put dj u) := by
  unfold Yld at *
  rw [execOp_put oi hs a dj u h3, wanted_put oi a dj u h3]
  exact hy
theorem Yld.unput {oi : Oper} {dj : Option Tmp} {v u : Value} {a : Act} {C : World → Prop} (hs : ∀ cs b, oi.op ≠ .select cs b) (h3 : ∀ d, dj = some d → d ∉ oi.looksAt ops) (hy : Yld P ops C oi v (a.put dj u)) : Yld P ops C oi v a := by
  unfold Yld at *
  rw [execOp_put oi hs a dj u h3, wanted_put oi a dj u h3] at hy
  exact hy

def apB (ops : Array Oper) (i j : Nat) : Bool := match ops[i]?, ops[j]? with
  | some a, some b => a.apart ops b
  | _, _ => false
theorem apB_spec {i j : Nat} {a b : Oper} (h : apB ops i j = true) (ha : ops[i]? = some a) (hb : ops[j]? = some b) : a.apart ops b = true := by
  unfold apB at h
  rw [ha, hb] at h
  exact h

theorem wpPre_move (hsel : Region.noSelect ops = true) (i : Nat) (b : Bool) (l2 : List (Nat × Bool)) (K : Act → Prop) : ∀ (l1 : List (Nat × Bool)) (a : Act), (∀ x ∈ l1, apB ops x.1 i = true) →
    wpPre P ops C (l1 ++ (i, b) :: l2) K a → wpPre P ops C ((i, b) :: (l1 ++ l2)) K a
  | [], _, _, h => h
  | x :: l1, a, hap, h => by
    obtain ⟨ox, u, hox, hyx, h⟩ := h
    obtain ⟨oi, v, hoi, hyi, h'⟩ := wpPre_move hsel i b l2 K l1 _ (fun y hy => hap y (by simp [hy])) h
    obtain ⟨h1, h2, h3⟩ := Oper.apart_spec (apB_spec (hap x (by simp)) hox hoi)
    refine ⟨oi, v, hoi, hyi.unput (fun cs b => Region.noSelect_spec hsel i oi cs b hoi) h1, ox, u, hox, hyx.put (fun cs b => Region.noSelect_spec hsel _ ox cs b hox) h3 v, ?_⟩
    rw [← Act.put_comm a u v h2]
    exact h'

theorem wpOp_put {x i : Nat} {ox oi : Oper} {u : Value} {a : Act} {w : World} {C : World → Prop} (hsel : Region.noSelect ops = true) (hox : ops[x]? = some ox) (hoi : ops[i]? = some oi) (hap : ox.apart ops oi = true) {K : Act → World → Prop}
    (hy : Yld P ops C ox u a) (h : wpOp P ops (Qn Q) i K (a.put ox.dst u) w) : wpOp P ops (Qn Q) i (fun a' w' => Yld P ops C ox u a' ∧ K (a'.put ox.dst u) w') a w := by
  obtain ⟨h1, h2, h3⟩ := Oper.apart_spec hap
  have hsi := fun cs b => Region.noSelect_spec hsel i oi cs b hoi
  have keep : ∀ a0, Yld P ops C ox u a0 → ∀ v, Yld P ops C ox u (a0.put oi.dst v) := fun a0 h0 v => h0.put (fun cs b => Region.noSelect_spec hsel _ ox cs b hox) h3 v
  unfold wpOp at *
  simp only [hoi] at *
  rw [wanted_put oi a ox.dst u h1] at h
  split
  · rename_i hw
    simp only [hw, if_true] at h
    rcases h with h | ⟨_, hl⟩
    · left
      unfold Oper.wp at *
      rw [execOp_put oi hsi a ox.dst u h1] at h
      generalize (execOp a.eval oi).run P w = r at *
      cases r with
      | ok n w' =>
        cases n <;> simp only [Oper.upon] at h ⊢
        case value v => exact ⟨keep a hy v, by rw [← Act.put_comm a u v h2]; exact h⟩
        case skip => exact ⟨keep a hy _, by rw [← Act.put_comm a u undef h2]; exact h⟩
        case defer d =>
          refine ⟨keep { a with defers := d :: a.defers } hy _, ?_⟩
          rw [← Act.put_comm { a with defers := d :: a.defers } u undef h2]
          have e : ({ a with defers := d :: a.defers } : Act).put ox.dst u = { a.put ox.dst u with defers := d :: (a.put ox.dst u).defers } := by cases ox.dst <;> rfl
          rw [e]
          exact h
        case enter f args =>
          refine Calls.mono h fun e w'' he => ?_
          cases e with
          | returned v => exact ⟨keep a hy v, by rw [← Act.put_comm a u v h2]; exact he⟩
          | panicked c => exact absurd he.1 (by simp)
          | outgrown => exact absurd he Qn_out
        case row row args => exact Rows.mono h fun v w'' he => ⟨keep a hy v, by rw [← Act.put_comm a u v h2]; exact he⟩
      | halt x w' =>
        cases x <;> simp only [Oper.upon] at h ⊢
        exact absurd h.1 (by simp)
    · exact absurd hl Qn_out
  · rename_i hw
    simp only [hw] at h
    exact ⟨keep a hy _, by rw [← Act.put_comm a u undef h2]; exact h⟩

theorem wpPre_past {w : World} {i : Nat} {oi : Oper} (hsel : Region.noSelect ops = true) (hoi : ops[i]? = some oi) (K : Act → World → Prop) : ∀ (pre : List (Nat × Bool)) (a : Act), (∀ x ∈ pre, apB ops x.1 i = true) →
    wpPre P ops C pre (fun a => wpOp P ops (Qn Q) i K a w) a → wpOp P ops (Qn Q) i (fun a' w' => wpPre P ops C pre (fun a => K a w') a') a w
  | [], _, _, h => h
  | x :: r, a, hap, h => by
    obtain ⟨ox, u, hox, hyx, h⟩ := h
    have h1 := wpPre_past hsel hoi K r _ (fun y hy => hap y (by simp [hy])) h
    exact wpOp_mono (fun a' w' h2 => ⟨ox, u, hox, h2.1, h2.2⟩) (wpOp_put hsel hox hoi (apB_spec (hap x (by simp)) hox hoi) hyx h1)

theorem wpOp_Qn {i : Nat} {K : Act → World → Prop} {a : Act} {w : World} (h : wpOp P ops (Qn Q) i K a w) : wpOp P ops Q i K a w := by
  unfold wpOp at *
  split
  · rename_i ho
    rw [ho] at h
    exact h
  · rename_i o ho
    simp only [ho] at h
    split
    · rename_i hw
      simp only [hw, if_true] at h
      rcases h with h | ⟨_, hl⟩
      · left
        unfold Oper.wp at *
        generalize (execOp a.eval o).run P w = r at *
        cases r with
        | ok n w' =>
          cases n <;> simp only [Oper.upon] at h ⊢
          case enter f args =>
            refine Calls.mono h fun e w'' he => ?_
            cases e with
            | returned v => exact he
            | panicked c => exact absurd he.1 (by simp)
            | outgrown => exact absurd he Qn_out
          all_goals exact h
        | halt x w' =>
          cases x <;> simp only [Oper.upon] at h ⊢
          exact absurd h.1 (by simp)
      · exact absurd hl Qn_out
    · rename_i hw
      simp only [hw] at h
      exact h

def reachB (ops : Array Oper) : Nat → Nat → Nat → Bool
  | 0, _, _ => false
  | f + 1, j, i => match ops[j]? with
    | none => false
    | some o => o.after.any fun e => Region.binds .any e && (e.on == i || reachB ops f e.on i)
theorem reach_done {D : Nat → Prop} (hcl : ∀ (j : Nat) (o : Oper), ops[j]? = some o → D j → ∀ e ∈ o.after, Region.binds .any e = true → D e.on) :
    ∀ (f j i : Nat), reachB ops f j i = true → (∀ o, ops[j]? = some o → ∀ e ∈ o.after, Region.binds .any e = true → D e.on) → D i
  | 0, _, _, h, _ => by cases h
  | f + 1, j, i, h, hd => by
    unfold reachB at h
    split at h
    · cases h
    · rename_i o ho
      obtain ⟨e, he, hb⟩ := Array.any_eq_true'.1 h
      simp only [Bool.and_eq_true, Bool.or_eq_true, beq_iff_eq] at hb
      have hon := hd o ho e he hb.1
      rcases hb.2 with h1 | h1
      · rw [← h1]; exact hon
      · exact reach_done hcl f e.on i h1 (fun o' ho' => hcl e.on o' ho' hon)

def pairsB (R : Nat → Nat → Bool) : List Nat → Bool
  | [] => true
  | x :: l => l.all (R x) && pairsB R l
theorem pairsB_spec {R : Nat → Nat → Bool} : ∀ {l : List Nat}, pairsB R l = true → l.Pairwise (fun x y => R x y = true)
  | [], _ => .nil
  | x :: l, h => by
    simp only [pairsB, Bool.and_eq_true, List.all_eq_true] at h
    exact .cons h.1 (pairsB_spec h.2)

def calmB (ops : Array Oper) (f : Nat) (pre sq : List (Nat × Bool)) : Bool :=
  Region.noSelect ops && acB ops && pairsB (fun i j => i != j) (pre.map (·.1) ++ sq.map (·.1)) &&
  (List.range ops.size).all (fun j => (pre.map (·.1) ++ sq.map (·.1)).contains j) && (pre.map (·.1) ++ sq.map (·.1)).all (fun j => decide (j < ops.size)) &&
  pairsB (fun i j => apB ops i j || reachB ops f j i) (pre.map (·.1)) &&
  pre.all (fun x => sq.all fun y => (apB ops x.1 y.1 && (x.2 || y.2)) || reachB ops f y.1 x.1) &&
  pairsB (fun i j => reachB ops f j i) (sq.map (·.1))

structure Calm (P : Program) (ops : Array Oper) (Q : Exit → Act → World → Prop) (C : World → Prop) (pre sq : List (Nat × Bool)) (D : Nat → Prop) (a : Act) (w : World) (pre' sq' : List (Nat × Bool)) : Prop where
  sp : pre'.Sublist pre
  ss : sq'.Sublist sq
  mem : ∀ j, (j ∈ pre'.map (·.1) ∨ j ∈ sq'.map (·.1)) ↔ (j < ops.size ∧ ¬ D j)
  wc : C w ∨ ∀ x ∈ pre', x.2 = true
  cl : ∀ (j : Nat) (o : Oper), ops[j]? = some o → D j → ∀ e ∈ o.after, Region.binds .any e = true → D e.on
  wp : wpPre P ops C pre' (fun a => wpSeq P ops Q C sq' a w) a

theorem wp_region_calm {rid : Nat} {a : Act} {w : World} (f : Nat) (C : World → Prop) (pre sq : List (Nat × Bool)) (hm : P.follows .mixedOrders = true) (hB : calmB ops f pre sq = true) (hC : C w.drew)
    (h : wpPre P ops C pre (fun a => wpSeq P ops Q C sq a w.drew) a) : (Code.region rid ops true).wp P Q a w := by
  simp only [calmB, Bool.and_eq_true] at hB
  obtain ⟨⟨⟨⟨⟨⟨⟨hsel, hac⟩, hnd⟩, hcov⟩, hlt⟩, hpp⟩, hps⟩, hss⟩ := hB
  have hnd := pairsB_spec hnd
  have hpp := pairsB_spec hpp
  have hss := pairsB_spec hss
  simp only [List.all_eq_true] at hcov hlt hps
  refine wp_region_inv hm (fun D a w => ∃ pre' sq', Calm P ops Q C pre sq D a w pre' sq') ?_ hac ?_ ?_ ?_
  · rintro D D' a w hD ⟨p, s, hk⟩
    have e : D = D' := funext fun j => propext (hD j)
    subst e
    exact ⟨p, s, hk⟩
  · intro D hD
    refine ⟨pre, sq, .refl _, .refl _, fun j => ⟨fun hj => ⟨?_, hD j⟩, fun hj => ?_⟩, .inl hC, fun j o _ hj => absurd hj (hD j), h⟩
    · exact of_decide_eq_true (hlt j (List.mem_append.2 hj))
    · exact List.mem_append.1 (List.contains_iff_mem.1 (hcov j (List.mem_range.2 hj.1)))
  · rintro D a w ⟨p, s, hk⟩ i o ho hnD hdep
    have hil : i < ops.size := (Array.getElem?_eq_some_iff.1 ho).1
    have hnot : ∀ x, (x ∈ p.map (·.1) ∨ x ∈ s.map (·.1)) → reachB ops f i x = true → False := fun x hx hr =>
      ((hk.mem x).1 hx).2 (reach_done hk.cl f i x hr (fun o' ho' => by obtain rfl := Option.some.inj (ho.symm.trans ho'); exact hdep))
    have hcl' : ∀ (j : Nat) (o : Oper), ops[j]? = some o → (D j ∨ j = i) → ∀ e ∈ o.after, Region.binds .any e = true → (D e.on ∨ e.on = i) := by
      intro j o' ho' hj e he hb
      rcases hj with hj | rfl
      · exact .inl (hk.cl j o' ho' hj e he hb)
      · obtain rfl := Option.some.inj (ho.symm.trans ho')
        exact .inl (hdep e he hb)
    have hnd' : (p.map (·.1) ++ s.map (·.1)).Pairwise (fun i j => (i != j) = true) := hnd.sublist ((hk.sp.map _).append (hk.ss.map _))
    rcases (hk.mem i).2 ⟨hil, hnD⟩ with hi | hi
    · obtain ⟨⟨i0, b⟩, hx, hx0⟩ := List.mem_map.1 hi
      obtain rfl : i0 = i := hx0
      obtain ⟨l1, l2, rfl⟩ := List.append_of_mem hx
      have hap : ∀ x ∈ l1, apB ops x.1 i0 = true := by
        intro x hx
        have h1 := hpp.sublist (hk.sp.map (·.1))
        rw [List.map_append, List.map_cons, List.pairwise_append] at h1
        have h2 := h1.2.2 x.1 (List.mem_map_of_mem hx) i0 (by simp)
        simp only [Bool.or_eq_true] at h2
        rcases h2 with h2 | h2
        · exact h2
        · exact (hnot x.1 (.inl (by rw [List.map_append, List.mem_append]; exact .inl (List.mem_map_of_mem hx))) h2).elim
      obtain ⟨oi, v, hoi, hy, h'⟩ := wpPre_move hsel i0 b l2 _ l1 a hap hk.wp
      obtain rfl := Option.some.inj (ho.symm.trans hoi)
      have hcw : cls C b w := by
        rcases hk.wc with h1 | h1
        · exact .inr h1
        · exact .inl (h1 (i0, b) (by simp))
      have hni : ∀ j, j ∈ (l1 ++ l2).map (·.1) ∨ j ∈ s.map (·.1) → j ≠ i0 := by
        intro j hj
        rw [List.map_append, List.map_cons, List.append_assoc, List.pairwise_append] at hnd'
        obtain ⟨-, h2, h3⟩ := hnd'
        rw [List.cons_append, List.pairwise_cons] at h2
        rw [List.map_append, List.mem_append] at hj
        rcases hj with (hj | hj) | hj
        · have := h3 j hj i0 (by simp); simpa using this
        · have := h2.1 j (by simp; exact .inl (by simpa using hj)); exact fun e => by subst e; simp at this
        · have := h2.1 j (by simp; exact .inr (by simpa using hj)); exact fun e => by subst e; simp at this
      have hnew : Calm P ops Q C pre sq (fun j => D j ∨ j = i0) (a.put o.dst v) w (l1 ++ l2) s := by
        refine ⟨(List.Sublist.append_left (List.sublist_cons_self _ _) l1).trans hk.sp, hk.ss, fun j => ?_, hk.wc.imp id (fun h1 x hx => h1 x (by simp at hx ⊢; rcases hx with hx | hx; exact .inl hx; exact .inr (.inr hx))), hcl', h'⟩
        constructor
        · intro hj
          have h1 := (hk.mem j).1 (by rcases hj with hj | hj; · left; rw [List.map_append, List.mem_append] at hj ⊢; rw [List.map_cons]; exact hj.imp id (List.mem_cons_of_mem _)
                                      · exact .inr hj)
          exact ⟨h1.1, fun h2 => h2.elim h1.2 (hni j hj)⟩
        · rintro ⟨h1, h2⟩
          have h3 := (hk.mem j).2 ⟨h1, fun h4 => h2 (.inl h4)⟩
          rcases h3 with h3 | h3
          · left
            rw [List.map_append, List.mem_append] at h3 ⊢
            rw [List.map_cons, List.mem_cons] at h3
            rcases h3 with h3 | h3 | h3
            · exact .inl h3
            · exact absurd (.inr h3) h2
            · exact .inr h3
          · exact .inr h3
      unfold wpOp
      simp only [ho]
      rcases hy with ⟨hw, hv⟩ | ⟨hw, rfl⟩
      · rw [if_pos hw]
        left
        unfold Oper.wp
        rw [hv w hcw]
        exact ⟨_, _, hnew⟩
      · rw [if_neg (by rw [hw]; simp)]
        exact ⟨_, _, hnew⟩
    · obtain ⟨⟨i0, b⟩, hx, hx0⟩ := List.mem_map.1 hi
      obtain rfl : i0 = i := hx0
      cases s with
      | nil => cases hx
      | cons y r =>
        have hyi : y = (i0, b) := by
          rcases List.mem_cons.1 hx with h1 | h1
          · exact h1.symm
          · exfalso
            have h2 := hss.sublist (hk.ss.map (·.1))
            rw [List.map_cons, List.pairwise_cons] at h2
            exact hnot y.1 (.inr (by simp)) (h2.1 i0 (List.mem_map.2 ⟨_, h1, rfl⟩))
        subst hyi
        have hboth : ∀ x ∈ p, apB ops x.1 i0 = true ∧ (x.2 = true ∨ b = true) := by
          intro x hx
          have h1 := hps x (hk.sp.subset hx) (i0, b) (hk.ss.subset (by simp))
          simp only [Bool.or_eq_true, Bool.and_eq_true] at h1
          rcases h1 with h1 | h1
          · exact h1
          · exact (hnot x.1 (.inl (List.mem_map_of_mem hx)) h1).elim
        have h1 := wpOp_Qn (wpPre_past (w := w) (Q := Q) hsel ho _ p a (fun x hx => (hboth x hx).1) hk.wp)
        refine wpOp_mono (fun a' w' h2 => ?_) h1
        have hni : ∀ j, j ∈ p.map (·.1) ∨ j ∈ r.map (·.1) → j ≠ i0 := by
          intro j hj
          rw [List.map_cons, List.pairwise_append] at hnd'
          obtain ⟨-, h2, h3⟩ := hnd'
          rw [List.pairwise_cons] at h2
          rcases hj with hj | hj
          · have := h3 j hj i0 (by simp); simpa using this
          · have := h2.1 j hj; exact fun e => by subst e; simp at this
        have hsplit : (∀ x ∈ p, x.2 = true) ∨ (b = true) := by
          by_cases hb : b = true
          · exact .inr hb
          · exact .inl fun x hx => (hboth x hx).2.elim id (fun h => absurd h hb)
        -- the class at the new world
        have hcw : (C w' ∨ ∀ x ∈ p, x.2 = true) ∧ wpPre P ops C p (fun a => wpSeq P ops Q C r a w') a' := by
          constructor
          · rcases hsplit with h3 | h3
            · exact .inr h3
            · have : ∀ (p : List (Nat × Bool)) (a : Act), wpPre P ops C p (fun a => (b = true → C w') ∧ wpSeq P ops Q C r a w') a → C w' := by
                intro p
                induction p with
                | nil => intro a h4; exact h4.1 h3
                | cons x p ih => rintro a ⟨_, _, _, _, h4⟩; exact ih _ h4
              exact .inl (this p a' h2)
          · have : ∀ (p : List (Nat × Bool)) (a : Act), wpPre P ops C p (fun a => (b = true → C w') ∧ wpSeq P ops Q C r a w') a → wpPre P ops C p (fun a => wpSeq P ops Q C r a w') a := by
              intro p
              induction p with
              | nil => intro a h4; exact h4.2
              | cons x p ih => rintro a ⟨o1, v1, ho1, hy1, h4⟩; exact ⟨o1, v1, ho1, hy1, ih _ h4⟩
            exact this p a' h2
        refine ⟨p, r, hk.sp, (List.sublist_cons_self _ _).trans hk.ss, fun j => ?_, hcw.1, hcl', hcw.2⟩
        constructor
        · intro hj
          have h3 := (hk.mem j).1 (hj.imp id (fun h => by simp; exact .inr (by simpa using h)))
          exact ⟨h3.1, fun h4 => h4.elim h3.2 (hni j hj)⟩
        · rintro ⟨h3, h4⟩
          have h5 := (hk.mem j).2 ⟨h3, fun h6 => h4 (.inl h6)⟩
          rcases h5 with h5 | h5
          · exact .inl h5
          · rw [List.map_cons, List.mem_cons] at h5
            rcases h5 with h5 | h5
            · exact absurd (.inr h5) h4
            · exact .inr h5
  · rintro D a w ⟨p, s, hk⟩ hall
    have hp : p = [] := by
      cases p with
      | nil => rfl
      | cons x p => have h1 := (hk.mem x.1).1 (.inl (by simp)); exact absurd (hall _ h1.1) h1.2
    have hs : s = [] := by
      cases s with
      | nil => rfl
      | cons x s => have h1 := (hk.mem x.1).1 (.inr (by simp)); exact absurd (hall _ h1.1) h1.2
    subst hp
    subst hs
    exact hk.wp

theorem wpPre_e {i : Nat} {b : Bool} {r : List (Nat × Bool)} {K : Act → Prop} {a : Act} {o : Oper} (ho : ops[i]? = some o) (hg : o.guard = none)
    (h : ∀ K' : Act → Prop, (∀ a, wpPre P ops C r K a → K' a) → ∃ v, (∀ w, cls C b w → (execOp a.eval o).run P w = .ok (.value v) w) ∧ K' (a.put o.dst v)) : wpPre P ops C ((i, b) :: r) K a := by
  obtain ⟨v, hy, hk⟩ := h _ (fun _ h => h)
  exact ⟨o, v, ho, .inl ⟨by simp [Region.wanted, hg], hy⟩, hk⟩
theorem wpPre_nil {K : Act → Prop} {a : Act} (h : K a) : wpPre P ops C [] K a := h
theorem wpSeq_nil {a : Act} {w : World} (h : Q .normal a w) : wpSeq P ops Q C [] a w := h
theorem below_fact {w w' : World} {b : Bool} {a : Addr} {v : Value} (h : cls (fun x => Below w.heap.size w x) b w') (hb : b = false) (hc : w.cell? a = some v) : w'.cell? a = some v := by
  have h1 : Below w.heap.size w w' := h.resolve_left (by simp [hb])
  rw [h1.cell (block_lt_of_cell hc)]
  exact hc
end
end Go.Proofs.Ytikfpoabaaiegaa

namespace Go.Proofs.Ytikfpoabaaiegaa
open Go.RowKit
set_option maxRecDepth 8000
def VB (rb : Nat) (a b c : Value) : Nat → Prop := fun q => rb < q ∧ a.ownBlock ≠ some q ∧ b.ownBlock ≠ some q ∧ c.ownBlock ≠ some q
structure GM (w0 : World) (rb : Nat) (w : World) (bv : Value) (pa ea : Int) (a b c : Value) (N : List Int) (K : List ByteArray) (V : List VT) : Prop where
  oN : w.ownsRow (rb + 1) 3 1 a N.length (intC N)
  oK : w.ownsRow (rb + 1) 9 1 b K.length (strC K)
  oV : w.ownsRow (rb + 1) 24 4 c V.length (valC V)
  ab : ∀ g, a.ownBlock = some g → b.ownBlock ≠ some g
  ac : ∀ g, a.ownBlock = some g → c.ownBlock ≠ some g
  bc : ∀ g, b.ownBlock = some g → c.ownBlock ≠ some g
  box : Box w rb #[bv, .int .i64 pa, .int .i64 ea, a, b, c, .int .i64 0, .int .i64 0, .int .i64 0] 133
  vin : ∀ x ∈ V, VT.In w (VB rb a b c) x
  below : Below rb w0 w
theorem GM.kept {w0 : World} {rb : Nat} {w w2 : World} {bv : Value} {pa ea : Int} {a b c : Value} {N : List Int} {K : List ByteArray} {V : List VT} (h : GM w0 rb w bv pa ea a b c N K V) (hb : Below w.heap.size w w2) : GM w0 rb w2 bv pa ea a b c N K V :=
  ⟨ownsRow_keep h.oN (fun k _ hl => hb.block k hl), ownsRow_keep h.oK (fun k _ hl => hb.block k hl), ownsRow_keep h.oV (fun k _ hl => hb.block k hl), h.ab, h.ac, h.bc, h.box.below hb, fun x hx => (h.vin x hx).below hb, h.below.trans (hb.mono (by have := h.box.lt; omega))⟩
theorem GM.nums {w0 : World} {rb : Nat} {w w3 : World} {bv : Value} {pa ea : Int} {a a' b c : Value} {N M : List Int} {K : List ByteArray} {V : List VT} (h : GM w0 rb w bv pa ea a b c N K V)
    (ho : w3.ownsRow (rb + 1) 3 1 a' (N.length + M.length) (intC N ++ intC M)) (hg : w.grownBy w3 a.ownBlock) (hn : Near w a a') : GM w0 rb (w3.setCell ⟨rb, 3, none⟩ a') bv pa ea a' b c (N ++ M) K V := by
  have hbl := h.box.lt
  have k1 : ∀ g, b.ownBlock = some g → g < w.heap.size → w3.heap[g]? = w.heap[g]? := fun g hg6 hl => hg.block g hl fun e => h.ab g e.symm hg6
  have k2 : ∀ g, c.ownBlock = some g → g < w.heap.size → w3.heap[g]? = w.heap[g]? := fun g hg6 hl => hg.block g hl fun e => h.ac g e.symm hg6
  have hx3 : Box w3 rb _ _ := h.box.kept (hg.block _ h.box.lt fun e => by have := (h.oN.lt _ e.symm).1; omega)
  have hx4 := hx3.set 3 a'
  simp at hx4
  have hb : But (fun x => x = rb) w3 (w3.setCell ⟨rb, 3, none⟩ a') := (But.one w3 rb).setAt 3 _
  have hs3 := hg.size
  have hK := ownsRow_keep h.oK k1
  have hV := ownsRow_keep h.oV k2
  refine ⟨?_, ownsRow_keep hK (fun k hk2 hl => hb.block k hl (by have := (hK.lt k hk2).1; omega)), ownsRow_keep hV (fun k hk2 hl => hb.block k hl (by have := (hV.lt k hk2).1; omega)), apart_near hn h.oK h.ab, apart_near hn h.oV h.ac, h.bc, hx4, fun x hx => ?_, (h.below.grown hg (by omega) fun k hk => (by have := (h.oN.lt k hk).1; omega)).trans (hb.below (by omega) (fun x hx => by omega))⟩
  · rw [List.length_append, intC_app]
    exact ownsRow_keep ho (fun k hk2 hl => hb.block k hl (by have := (ho.lt k hk2).1; omega))
  · have h1 := (h.vin x hx).kept hg.size (fun q hq hl => hg.block q hl fun e => hq.2.1 e.symm)
    have h2 := (h.vin x hx).mono (S' := fun q => VB rb a b c q ∧ q < w.heap.size) (fun q hq hl => ⟨hq, hl⟩)
    have h3 := (h2.kept hg.size (fun q hq hl => hg.block q hl fun e => hq.1.2.1 e.symm)).kept hb.size (fun q hq hl => hb.block q hl (by have := hq.1.1; omega))
    exact h3.mono fun q hq _ => ⟨hq.1.1, near_ne hn hq.1.2.1 hq.2, hq.1.2.2.1, hq.1.2.2.2⟩
theorem GM.keys {w0 : World} {rb : Nat} {w w3 : World} {bv : Value} {pa ea : Int} {a b b' c : Value} {N : List Int} {K M : List ByteArray} {V : List VT} (h : GM w0 rb w bv pa ea a b c N K V)
    (ho : w3.ownsRow (rb + 1) 9 1 b' (K.length + M.length) (strC K ++ strC M)) (hg : w.grownBy w3 b.ownBlock) (hn : Near w b b') : GM w0 rb (w3.setCell ⟨rb, 4, none⟩ b') bv pa ea a b' c N (K ++ M) V := by
  have hbl := h.box.lt
  have k1 : ∀ g, a.ownBlock = some g → g < w.heap.size → w3.heap[g]? = w.heap[g]? := fun g hg6 hl => hg.block g hl fun e => h.ab g hg6 e.symm
  have k2 : ∀ g, c.ownBlock = some g → g < w.heap.size → w3.heap[g]? = w.heap[g]? := fun g hg6 hl => hg.block g hl fun e => h.bc g e.symm hg6
  have hx3 : Box w3 rb _ _ := h.box.kept (hg.block _ h.box.lt fun e => by have := (h.oK.lt _ e.symm).1; omega)
  have hx4 := hx3.set 4 b'
  simp at hx4
  have hb : But (fun x => x = rb) w3 (w3.setCell ⟨rb, 4, none⟩ b') := (But.one w3 rb).setAt 4 _
  have hs3 := hg.size
  have hN := ownsRow_keep h.oN k1
  have hV := ownsRow_keep h.oV k2
  refine ⟨ownsRow_keep hN (fun k hk2 hl => hb.block k hl (by have := (hN.lt k hk2).1; omega)), ?_, ownsRow_keep hV (fun k hk2 hl => hb.block k hl (by have := (hV.lt k hk2).1; omega)), apart_symm (apart_near hn h.oN (apart_symm h.ab)), h.ac, apart_near hn h.oV h.bc, hx4, fun x hx => ?_, (h.below.grown hg (by omega) fun k hk => (by have := (h.oK.lt k hk).1; omega)).trans (hb.below (by omega) (fun x hx => by omega))⟩
  · rw [List.length_append, strC_app]
    exact ownsRow_keep ho (fun k hk2 hl => hb.block k hl (by have := (ho.lt k hk2).1; omega))
  · have h2 := (h.vin x hx).mono (S' := fun q => VB rb a b c q ∧ q < w.heap.size) (fun q hq hl => ⟨hq, hl⟩)
    have h3 := (h2.kept hg.size (fun q hq hl => hg.block q hl fun e => hq.1.2.2.1 e.symm)).kept hb.size (fun q hq hl => hb.block q hl (by have := hq.1.1; omega))
    exact h3.mono fun q hq _ => ⟨hq.1.1, hq.1.2.1, near_ne hn hq.1.2.2.1 hq.2, hq.1.2.2.2⟩
theorem GM.vals {w0 : World} {rb : Nat} {w w3 : World} {bv : Value} {pa ea : Int} {a b c c' : Value} {N : List Int} {K : List ByteArray} {V M : List VT} (h : GM w0 rb w bv pa ea a b c N K V) (hM : ∀ x ∈ M, VT.In w (VB rb a b c) x)
    (ho : w3.ownsRow (rb + 1) 24 4 c' (V.length + M.length) (valC V ++ valC M)) (hg : w.grownBy w3 c.ownBlock) (hn : Near w c c') : GM w0 rb (w3.setCell ⟨rb, 5, none⟩ c') bv pa ea a b c' N K (V ++ M) := by
  have hbl := h.box.lt
  have k1 : ∀ g, a.ownBlock = some g → g < w.heap.size → w3.heap[g]? = w.heap[g]? := fun g hg6 hl => hg.block g hl fun e => h.ac g hg6 e.symm
  have k2 : ∀ g, b.ownBlock = some g → g < w.heap.size → w3.heap[g]? = w.heap[g]? := fun g hg6 hl => hg.block g hl fun e => h.bc g hg6 e.symm
  have hx3 : Box w3 rb _ _ := h.box.kept (hg.block _ h.box.lt fun e => by have := (h.oV.lt _ e.symm).1; omega)
  have hx4 := hx3.set 5 c'
  simp at hx4
  have hb : But (fun x => x = rb) w3 (w3.setCell ⟨rb, 5, none⟩ c') := (But.one w3 rb).setAt 5 _
  have hs3 := hg.size
  have hN := ownsRow_keep h.oN k1
  have hK := ownsRow_keep h.oK k2
  refine ⟨ownsRow_keep hN (fun k hk2 hl => hb.block k hl (by have := (hN.lt k hk2).1; omega)), ownsRow_keep hK (fun k hk2 hl => hb.block k hl (by have := (hK.lt k hk2).1; omega)), ?_, h.ab, apart_symm (apart_near hn h.oN (apart_symm h.ac)), apart_symm (apart_near hn h.oK (apart_symm h.bc)), hx4, fun x hx => ?_, (h.below.grown hg (by omega) fun k hk => (by have := (h.oV.lt k hk).1; omega)).trans (hb.below (by omega) (fun x hx => by omega))⟩
  · rw [List.length_append, valC_app]
    exact ownsRow_keep ho (fun k hk2 hl => hb.block k hl (by have := (ho.lt k hk2).1; omega))
  · have h0 : VT.In w (VB rb a b c) x := (List.mem_append.1 hx).elim (h.vin x) (hM x)
    have h2 := h0.mono (S' := fun q => VB rb a b c q ∧ q < w.heap.size) (fun q hq hl => ⟨hq, hl⟩)
    have h3 := (h2.kept hg.size (fun q hq hl => hg.block q hl fun e => hq.1.2.2.2 e.symm)).kept hb.size (fun q hq hl => hb.block q hl (by have := hq.1.1; omega))
    exact h3.mono fun q hq _ => ⟨hq.1.1, hq.1.2.1, hq.1.2.2.1, near_ne hn hq.1.2.2.2 hq.2⟩
theorem GM.boxN {w0 : World} {rb : Nat} {w w3 : World} {bv : Value} {pa ea : Int} {a b c : Value} {N : List Int} {K : List ByteArray} {V : List VT} (h : GM w0 rb w bv pa ea a b c N K V) (hg : w.grownBy w3 a.ownBlock) : Box w3 rb #[bv, .int .i64 pa, .int .i64 ea, a, b, c, .int .i64 0, .int .i64 0, .int .i64 0] 133 :=
  h.box.kept (hg.block _ h.box.lt fun e => by have := (h.oN.lt _ e.symm).1; omega)
theorem GM.boxK {w0 : World} {rb : Nat} {w w3 : World} {bv : Value} {pa ea : Int} {a b c : Value} {N : List Int} {K : List ByteArray} {V : List VT} (h : GM w0 rb w bv pa ea a b c N K V) (hg : w.grownBy w3 b.ownBlock) : Box w3 rb #[bv, .int .i64 pa, .int .i64 ea, a, b, c, .int .i64 0, .int .i64 0, .int .i64 0] 133 :=
  h.box.kept (hg.block _ h.box.lt fun e => by have := (h.oK.lt _ e.symm).1; omega)
theorem GM.boxV {w0 : World} {rb : Nat} {w w3 : World} {bv : Value} {pa ea : Int} {a b c : Value} {N : List Int} {K : List ByteArray} {V : List VT} (h : GM w0 rb w bv pa ea a b c N K V) (hg : w.grownBy w3 c.ownBlock) : Box w3 rb #[bv, .int .i64 pa, .int .i64 ea, a, b, c, .int .i64 0, .int .i64 0, .int .i64 0] 133 :=
  h.box.kept (hg.block _ h.box.lt fun e => by have := (h.oV.lt _ e.symm).1; omega)
theorem GM.but {w0 : World} {rb : Nat} {w w2 : World} {bv : Value} {pa ea pa' ea' : Int} {a b c : Value} {N : List Int} {K : List ByteArray} {V : List VT} (h : GM w0 rb w bv pa ea a b c N K V) (hb : But (fun x => x = rb) w w2) (hx : Box w2 rb #[bv, .int .i64 pa', .int .i64 ea', a, b, c, .int .i64 0, .int .i64 0, .int .i64 0] 133) : GM w0 rb w2 bv pa' ea' a b c N K V := by
  have hbl := h.box.lt
  exact ⟨ownsRow_keep h.oN (fun k hk2 hl => hb.block k hl (by have := (h.oN.lt k hk2).1; omega)), ownsRow_keep h.oK (fun k hk2 hl => hb.block k hl (by have := (h.oK.lt k hk2).1; omega)), ownsRow_keep h.oV (fun k hk2 hl => hb.block k hl (by have := (h.oV.lt k hk2).1; omega)), h.ab, h.ac, h.bc, hx, fun x hx => (h.vin x hx).kept hb.size (fun q hq hl => hb.block q hl (by have := hq.1; omega)), h.below.trans (hb.below (by omega) (fun x hx => by omega))⟩
theorem GM.setP {w0 : World} {rb : Nat} {w : World} {bv : Value} {pa ea : Int} {a b c : Value} {N : List Int} {K : List ByteArray} {V : List VT} (h : GM w0 rb w bv pa ea a b c N K V) (x : Int) : GM w0 rb (w.setCell ⟨rb, 1, none⟩ (.int .i64 x)) bv x ea a b c N K V := by
  have hx := h.box.set 1 (.int .i64 x)
  simp at hx
  exact h.but ((But.one w rb).setAt 1 _) hx
theorem GM.setE {w0 : World} {rb : Nat} {w : World} {bv : Value} {pa ea : Int} {a b c : Value} {N : List Int} {K : List ByteArray} {V : List VT} (h : GM w0 rb w bv pa ea a b c N K V) (x : Int) : GM w0 rb (w.setCell ⟨rb, 2, none⟩ (.int .i64 x)) bv pa x a b c N K V := by
  have hx := h.box.set 2 (.int .i64 x)
  simp at hx
  exact h.but ((But.one w rb).setAt 2 _) hx
theorem GM.drew {w0 : World} {rb : Nat} {w : World} {bv : Value} {pa ea : Int} {a b c : Value} {N : List Int} {K : List ByteArray} {V : List VT} (h : GM w0 rb w bv pa ea a b c N K V) : GM w0 rb w.drew bv pa ea a b c N K V := h.kept (Below.refl _ _).drew
end Go.Proofs.Ytikfpoabaaiegaa
