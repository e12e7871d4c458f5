import Derived.Test.YtdpfgflofjiheaaPack3
import Derived.RangeFuncCalls
import Derived.OwnWalkIn
import Derived.OrdersIn
import Derived.Test.YtdpfgflofjiheaaPack10
namespace Go.Proofs.Ytdpfgflofjiheaa
open Go.RowKit
set_option maxRecDepth 8000
theorem any_region_inv {P : Program} {ops : Array Oper} {Q : Exit → Act → World → Prop} {a : Act} {w : World} (I : (Nat → Prop) → Act → World → Prop)
    (hext : ∀ D D' a w, (∀ j, D j ↔ D' j) → I D a w → I D' a w)
    (hac : acB ops = true)
    (h0 : ∀ D, (∀ j, ¬ D j) → I D a w.drew)
    (hstep : ∀ D a w, I D a w → ∀ (i : Nat) (o : Oper), ops[i]? = some o → ¬ D i → (∀ e ∈ o.after, Region.binds .any e = true → D e.on) → wpOp P ops Q i (I fun j => D j ∨ j = i) a w)
    (hend : ∀ D a w, I D a w → (∀ i, i < ops.size → D i) → Q .normal a w) : wpAny P .any ops Q ops.size (Array.replicate ops.size false) a w.drew := by
  refine wpAny_inv I hext (acB_spec hac) hstep hend ops.size _ a _ (by simp) ?_ (h0 _ ?_)
  · rw [Array.toList_replicate, unl_replicate]
    exact Nat.le_refl _
  · intro j h
    rw [Array.getElem?_replicate] at h
    split at h <;> simp at h
section
variable {P : Program} {ops : Array Oper} {Q : Exit → Act → World → Prop} {C : World → Prop}
theorem any_region_calmE {a : Act} {w : World} (f : Nat) (C : World → Prop) (pre : List (Nat × Bool)) (t : Tr) (hB : calmE ops f pre t = true) (hC : C w.drew)
    (h : wpPre P ops C pre (fun a => wpTr P ops Q C t a w.drew) a) : wpAny P .any ops Q ops.size (Array.replicate ops.size false) a w.drew := by
  simp only [calmE, Bool.and_eq_true] at hB
  obtain ⟨⟨⟨⟨⟨⟨hsel, hac⟩, hcov⟩, hlt⟩, hnd⟩, hpp⟩, hsb⟩ := hB
  have hnd := pairsB_spec hnd
  have hpp := pairsB_spec hpp
  simp only [List.all_eq_true] at hcov hlt
  refine any_region_inv (fun D a w => ∃ pre' t P', CalmE P ops Q C f D a w pre' t P') ?_ hac ?_ ?_ ?_
  · rintro D D' a w hD ⟨p, s, r, hk⟩
    have e : D = D' := funext fun j => propext (hD j)
    subst e
    exact ⟨p, s, r, hk⟩
  · intro D hD
    refine ⟨pre, t, pre, .refl _, hpp, hnd, hsb, fun j => ⟨fun hj => ⟨?_, hD j⟩, fun hj => ?_⟩, .inl hC, fun j o _ hj => absurd hj (hD j), h⟩
    · exact of_decide_eq_true (hlt j (List.mem_append.2 hj))
    · exact List.mem_append.1 (List.contains_iff_mem.1 (hcov j (List.mem_range.2 hj.1)))
  · rintro D a w ⟨p, s, P', hk⟩ i o ho hnD hdep
    have hil : i < ops.size := (Array.getElem?_eq_some_iff.1 ho).1
    have hnot : ∀ x, (x ∈ p.map (·.1) ∨ x ∈ trIdx s) → reachB ops f i x = true → False := fun x hx hr =>
      ((hk.mem x).1 hx).2 (reach_done hk.cl f i x hr (fun o' ho' => by obtain rfl := Option.some.inj (ho.symm.trans ho'); exact hdep))
    have hcl' : ∀ (j : Nat) (o : Oper), ops[j]? = some o → (D j ∨ j = i) → ∀ e ∈ o.after, Region.binds .any e = true → (D e.on ∨ e.on = i) := by
      intro j o' ho' hj e he hb
      rcases hj with hj | rfl
      · exact .inl (hk.cl j o' ho' hj e he hb)
      · obtain rfl := Option.some.inj (ho.symm.trans ho')
        exact .inl (hdep e he hb)
    rcases (hk.mem i).2 ⟨hil, hnD⟩ with hi | hi
    · obtain ⟨⟨i0, b⟩, hx, hx0⟩ := List.mem_map.1 hi
      obtain rfl : i0 = i := hx0
      obtain ⟨l1, l2, rfl⟩ := List.append_of_mem hx
      have hap : ∀ x ∈ l1, apB ops x.1 i0 = true := by
        intro x hx
        have h1 := hk.pp.sublist (hk.sp.map (·.1))
        rw [List.map_append, List.map_cons, List.pairwise_append] at h1
        have h2 := h1.2.2 x.1 (List.mem_map_of_mem hx) i0 (by simp)
        simp only [Bool.or_eq_true] at h2
        rcases h2 with h2 | h2
        · exact h2
        · exact (hnot x.1 (.inl (by rw [List.map_append, List.mem_append]; exact .inl (List.mem_map_of_mem hx))) h2).elim
      obtain ⟨oi, v, hoi, hy, h'⟩ := wpPre_move hsel i0 b l2 _ l1 a hap hk.wp
      obtain rfl := Option.some.inj (ho.symm.trans hoi)
      have hcw : cls C b w := by
        rcases hk.wc with h1 | h1
        · exact .inr h1
        · exact .inl (h1 (i0, b) (by simp))
      have hsub : (l1 ++ l2).Sublist (l1 ++ (i0, b) :: l2) := List.Sublist.append_left (List.sublist_cons_self _ _) l1
      have hni : ∀ j, j ∈ (l1 ++ l2).map (·.1) ∨ j ∈ trIdx s → j ≠ i0 := by
        intro j hj
        have hnd' := hk.nd.sublist ((hk.sp.map (·.1)).append (.refl (trIdx s)))
        rw [List.map_append, List.map_cons, List.append_assoc, List.pairwise_append] at hnd'
        obtain ⟨-, h2, h3⟩ := hnd'
        rw [List.cons_append, List.pairwise_cons] at h2
        rw [List.map_append, List.mem_append] at hj
        rcases hj with (hj | hj) | hj
        · have := h3 j hj i0 (by simp); simpa using this
        · have := h2.1 j (List.mem_append.2 (.inl hj)); exact fun e => by subst e; simp at this
        · have := h2.1 j (List.mem_append.2 (.inr hj)); exact fun e => by subst e; simp at this
      have hnew : CalmE P ops Q C f (fun j => D j ∨ j = i0) (a.put o.dst v) w (l1 ++ l2) s P' := by
        refine ⟨hsub.trans hk.sp, hk.pp, hk.nd, hk.sb, fun j => ?_, hk.wc.imp id (fun h1 x hx => h1 x (hsub.subset hx)), hcl', h'⟩
        constructor
        · intro hj
          have h1 := (hk.mem j).1 (by rcases hj with hj | hj
                                      · left; exact (hsub.map _).subset hj
                                      · exact .inr hj)
          exact ⟨h1.1, fun h2 => h2.elim h1.2 (hni j hj)⟩
        · rintro ⟨h1, h2⟩
          have h3 := (hk.mem j).2 ⟨h1, fun h4 => h2 (.inl h4)⟩
          rcases h3 with h3 | h3
          · left
            rw [List.map_append, List.mem_append] at h3 ⊢
            rw [List.map_cons, List.mem_cons] at h3
            rcases h3 with h3 | h3 | h3
            · exact .inl h3
            · exact absurd (.inr h3) h2
            · exact .inr h3
          · exact .inr h3
      unfold wpOp
      simp only [ho]
      rcases hy with ⟨hw, hv⟩ | ⟨hw, rfl⟩
      · rw [if_pos hw]
        left
        unfold Oper.wp
        rw [hv w hcw]
        exact ⟨_, _, _, hnew⟩
      · rw [if_neg (by rw [hw]; simp)]
        exact ⟨_, _, _, hnew⟩
    · cases s with
      | done => cases hi
      | one m b q r =>
        have hsb' := hk.sb
        simp only [trB, Bool.and_eq_true, List.all_eq_true] at hsb'
        obtain ⟨⟨hb1, hb2⟩, hb3⟩ := hsb'
        have him : i = m := by
          rcases List.mem_cons.1 hi with h1 | h1
          · exact h1
          · exact (hnot m (.inr (by simp [trIdx])) (hb2 i h1)).elim
        subst him
        exact branch_step hsel hk ho hnot hcl' hb1 (fun j => Iff.rfl) hb3 hk.wp
      | two m b q r m2 b2 q2 r2 =>
        have hsb' := hk.sb
        simp only [trB, Bool.and_eq_true, List.all_eq_true] at hsb'
        obtain ⟨⟨⟨⟨⟨hb1, hb2⟩, hb3⟩, hb4⟩, hb5⟩, hb6⟩ := hsb'
        have hm2 : m2 ∈ trIdx (.two m b q r m2 b2 q2 r2) := (sameB_spec hb4 m2).2 (by simp)
        have hwp := wpPre_left p a hk.wp
        have him : i = m ∨ i = m2 := by
          rcases List.mem_cons.1 hi with h1 | h1
          · exact .inl h1
          · have h2 := hb3 i h1
            simp only [Bool.or_eq_true, beq_iff_eq] at h2
            rcases h2 with h2 | h2 | h2
            · exact .inr h2
            · exact (hnot m (.inr (by simp [trIdx])) h2).elim
            · exact (hnot m2 (.inr hm2) h2).elim
        rcases him with him | him
        · subst him
          exact branch_step hsel hk ho hnot hcl' hb1 (fun j => Iff.rfl) hb5 hwp.1
        · subst him
          exact branch_step hsel hk ho hnot hcl' hb2 (fun j => sameB_spec hb4 j) hb6 hwp.2
  · rintro D a w ⟨p, s, P', hk⟩ hall
    have hp : p = [] := by
      cases p with
      | nil => rfl
      | cons x p => have h1 := (hk.mem x.1).1 (.inl (by simp)); exact absurd (hall _ h1.1) h1.2
    have hs : s = .done := by
      cases s with
      | done => rfl
      | one m b q r => have h1 := (hk.mem m).1 (.inr (by simp [trIdx])); exact absurd (hall _ h1.1) h1.2
      | two m b q r _ _ _ _ => have h1 := (hk.mem m).1 (.inr (by simp [trIdx])); exact absurd (hall _ h1.1) h1.2
    subst hp
    subst hs
    exact hk.wp
/-- no operation defers -/
def noDef (ops : Array Oper) : Bool := ops.all fun o => match o.op with | .defer _ => false | _ => true
theorem wpOp_in (l n : Nat) {i : Nat} {K K' : Act → World → Prop} {a : Act} {w : World} (hd : noDef ops = true) (h : wpOp P ops (Qn Q) i K a w) (hK : ∀ a w, K a w → K' a w) : wpOpIn (Fence.wide.inRound l) n P ops Q i K' a w := by
  unfold wpOp at h
  unfold wpOpIn
  split
  · rename_i ho
    simp only [ho] at h
    exact hK _ _ h
  · rename_i o ho
    simp only [ho] at h
    have hnd : ∀ c, o.op ≠ .defer c := by
      intro c hc
      unfold noDef at hd
      rw [Array.all_eq_true] at hd
      obtain ⟨hi, hio⟩ := Array.getElem?_eq_some_iff.1 ho
      have := hd i hi
      rw [hio, hc] at this
      cases this
    split
    · rename_i hw
      rw [if_pos hw] at h
      rcases h with h | ⟨_, h⟩
      · unfold Oper.wp at h
        unfold Oper.wpIn
        refine ⟨fun _ _ => trivial, ?_⟩
        rw [Oper.semAt_plain _ _ _ hnd]
        generalize (execOp a.eval o).run P w = r at h
        cases r with
        | ok x w' =>
          cases x with
          | value v => exact hK _ _ h
          | skip => exact hK _ _ h
          | defer d => exact hK _ _ h
          | enter f args =>
            refine ⟨fun h => (by cases h), CallsIn.inRound l (callsIn_wide.2 (Calls.mono h ?_))⟩
            intro e w'' he
            cases e with
            | returned v => exact hK _ _ he
            | panicked c => exact (by cases he.1)
            | outgrown => exact absurd he Qn_out
          | row r args =>
            refine ⟨fun h => (by cases h), fun c cs _ => ?_⟩
            obtain ⟨v, w2, h1, h2⟩ := h c cs
            exact ⟨v, w2, hK _ _ h1, stepsIn_wide.2 h2⟩
          | _ => exact h.elim
        | halt x w' =>
          cases x with
          | panic v => exact (by cases h.1)
          | _ => exact h.elim
      · exact absurd h Qn_out
    · rename_i hw
      rw [if_neg hw] at h
      exact ⟨fun _ _ => trivial, hK _ _ h⟩
theorem wpAny_in (l n : Nat) (hd : noDef ops = true) : ∀ (fuel : Nat) (listed : Array Bool) (a : Act) (w : World), wpAny P .any ops (Qn Q) fuel listed a w → wpAnyIn (Fence.wide.inRound l) n P .any ops Q fuel listed a w := by
  intro fuel
  induction fuel with
  | zero => intro listed a w h; exact ⟨h.1, h.2.2⟩
  | succ fuel ih =>
    intro listed a w h
    exact ⟨fun e => (h.1 e).2, fun i hi => wpOp_in l n hd (h.2 i hi) fun a w hk => ih _ a w hk⟩
/-- a region that draws, in a round -/
theorem wpIn_region_calmE {rid : Nat} {a : Act} {w : World} (l n : Nat) (f : Nat) (C : World → Prop) (pre : List (Nat × Bool)) (t : Tr) (hm : P.follows .mixedOrders = true) (hd : noDef ops = true) (hB : calmE ops f pre t = true) (hC : C w.drew)
    (h : wpPre P ops C pre (fun a => wpTr P ops (Qn Q) C t a w.drew) a) : (Code.region rid ops true).wpIn (Fence.wide.inRound l) n P Q a w :=
  wpIn_region_any hm (wpAny_in l n hd _ _ _ _ (any_region_calmE f C pre t hB hC h))
end
end Go.Proofs.Ytdpfgflofjiheaa

namespace Go.Proofs.Ytdpfgflofjiheaa
open Go.RowKit Go.Shelf
set_option maxRecDepth 8000
attribute [local go_sem] Oper.semAt_some
theorem Box.grownN {W W' : World} {B b : Nat} {cs : Array Value} {e : TypeId} {row : Option Nat} (h : Box W b cs e) (hg : W.grownBy W' row) (hr : ∀ r, row = some r → B ≤ r ∧ ∃ o : Obj, W.heap[r]? = some o ∧ o.isCells = false) : Box W' b cs e :=
  h.kept (hg.block b h.lt (fun e => by
    obtain ⟨_, o, ho, hc⟩ := hr b e.symm
    unfold Box at h
    rw [h] at ho
    cases ho
    cases hc))
theorem wrap_nat {x : Nat} (h : x + 1 ≤ 140737488355328) : IntKind.i64.wrap ((x : Int) + 1) = ((x + 1 : Nat) : Int) := by
  rw [IntKind.wrap_i64]; omega
/-- a list from a place on -/
theorem sub_tr {w : World} {S : Nat → Prop} {l : LT TR} {b1 o1 x : Nat} (hl : LT.In elTr w S l) (hp : l.p = some ⟨b1, o1, none⟩) (hx : x + 1 ≤ l.n) : LT.In elTr w S ⟨if l.c = x + 1 then (some ⟨b1, o1, none⟩ : Option Addr) else some ⟨b1, o1 + (x + 1) * 4, none⟩, l.n - (x + 1), l.c - (x + 1), fun j => l.item (x + 1 + j)⟩ := by
  have hnc := hl.nc
  have hnn := hl.nn
  have hcc := hl.cc
  refine ⟨fun hn => ?_, fun _ _ => trivial, (by dsimp only; omega), (by dsimp only; omega), (by dsimp only; omega), fun h => ?_⟩
  · dsimp only at hn ⊢
    rw [if_neg (by omega)]
    obtain ⟨b, o, e, hS, hb, ha⟩ := hl.at_ (by omega)
    rw [hp] at e
    cases e
    refine ⟨b1, o1 + (x + 1) * 4, rfl, hS, hb, fun j hj r u hu => ?_⟩
    have := ha (x + 1 + j) (by omega) r u hu
    rw [show o1 + (x + 1) * 4 + j * elTr.size + r = o1 + (x + 1 + j) * elTr.size + r by simp only [elTr]; omega]
    exact this
  · dsimp only at h
    split at h <;> cases h
theorem set3 {W : World} {b : Nat} {x y z u v t : Value} {e : TypeId} (h : Box W b #[x, y, z] e) : Box (((W.setCell ⟨b, 0, none⟩ u).setCell ⟨b, 1, none⟩ v).setCell ⟨b, 2, none⟩ t) b #[u, v, t] e := by
  have := ((h.set 0 u).set 1 v).set 2 t
  simpa using this
theorem keeps3 (W : World) (B b : Nat) (u v t : Value) : KeepsFrom B W (((W.setCell ⟨b, 0, none⟩ u).setCell ⟨b, 1, none⟩ v).setCell ⟨b, 2, none⟩ t) := (((KeepsOthers.setCell W _ u).trans (KeepsOthers.setCell _ _ v)).trans (KeepsOthers.setCell _ _ t)).from B
theorem below3 {n : Nat} {w W : World} (h : Below n w W) {b : Nat} (hb : n ≤ b) (u v t : Value) : Below n w (((W.setCell ⟨b, 0, none⟩ u).setCell ⟨b, 1, none⟩ v).setCell ⟨b, 2, none⟩ t) := ((h.setCell (p := ⟨b, 0, none⟩) hb u).setCell (p := ⟨b, 1, none⟩) hb v).setCell (p := ⟨b, 2, none⟩) hb t
/-- where the last life begins -/
def Cuts (f : Nat → TR) (n a : Nat) : Prop := a ≤ n ∧ (a = 0 ∨ (f (a - 1)).kind = 11) ∧ ∀ q, a ≤ q → q < n → (f q).kind ≠ 11
def beganOf (f : Nat → TR) (a : Nat) : Int := if a = 0 then 0 else (f (a - 1)).id
/-- what lastLife answers -/
def LastQ (l : LT TR) (S : Nat → Prop) (w : World) (e : Ending) (w' : World) : Prop := ∃ (a : Nat) (pa pe : Option Addr) (ca ce : Nat), Cuts l.item l.n a ∧ e = .returned (.agg #[.int .i64 (beganOf l.item a), .slice pa (a - 1) ca, .slice pe (l.n - a) ce]) ∧ LT.In elTr w' S ⟨pa, a - 1, ca, l.item⟩ ∧ LT.In elTr w' S ⟨pe, l.n - a, ce, fun j => l.item (a + j)⟩ ∧ Below w.heap.size w w'
set_option maxHeartbeats 8000000 in
theorem lastLife_any (l : LT TR) (w : World) (S : Nat → Prop) (hl : LT.In elTr w S l) :
    Calls Try.prog 33 #[.slice l.p l.n l.c] w fun e w' => LastQ l S w e w' := by
  have hnn := hl.nn
  have hl0 : LT.In elTr w (fun b => b < w.heap.size) l := hl.mono fun b _ h => h
  refine (callsIn_wide (n := 3)).1 ?_
  refine callsIn_of_wp_marks Try.func33 rfl trivial ?_ rfl
  simp only [Try.ntmps33, List.size_toArray, List.length_cons, List.length_nil, Nat.reduceAdd, Nat.reduceSub, Array.replicate_succ, Array.replicate_zero, List.push_toArray, List.append_toArray, List.nil_append, List.cons_append]
  gi_wp2_with (refine ⟨trivial, ?_⟩; gi_at_call 43; refine (back_in Fence.wide 2 trivial rfl _ _ _ _).mono ?_; rintro e w' ⟨rfl, rfl⟩)
  obtain ⟨W0, hW0⟩ : ∃ W0, W0 = ((w.alloc (.cells #[.slice l.p l.n l.c] 22)).alloc (.cells #[.int .i64 0, .slice none 0 0, .slice none 0 0] 59)).alloc (.cells #[.slice l.p l.n l.c] 22) := ⟨_, rfl⟩
  have hB0 : Below w.heap.size w W0 := by rw [hW0]; exact (below2 _ _ _).alloc (by simp; omega) _
  have hs0 : W0.heap.size = w.heap.size + 3 := by rw [hW0]; simp
  have bL : Box W0 w.heap.size #[.slice l.p l.n l.c] 22 := by rw [hW0]; exact ((Box.new w _ _).below (below1 _ _)).below (below1 _ _)
  have bR : Box W0 (w.heap.size + 1) #[.int .i64 0, .slice none 0 0, .slice none 0 0] 59 := by
    rw [hW0]
    have := (Box.new (w.alloc (.cells #[.slice l.p l.n l.c] 22)) #[.int .i64 0, .slice none 0 0, .slice none 0 0] 59).below (below1 _ (.cells #[.slice l.p l.n l.c] 22))
    simpa using this
  have bS : Box W0 (w.heap.size + 2) #[.slice l.p l.n l.c] 22 := by
    rw [hW0]
    have := Box.new ((w.alloc (.cells #[.slice l.p l.n l.c] 22)).alloc (.cells #[.int .i64 0, .slice none 0 0, .slice none 0 0] 59)) #[.slice l.p l.n l.c] 22
    simpa using this
  have hl3 : LT.In elTr W0 (fun b => b < w.heap.size + 3) l := (hl0.kept hB0.size fun b hb _ => hB0.block b hb).mono fun b hb _ => by omega
  rw [← hW0]
  clear hW0
  refine wpIn_rangeFunc_ownH rfl (by omega) (gf := 50) (lb := #[.pointer (some ⟨w.heap.size + 2, 0, none⟩)]) rfl trivial (enters_of Try.func50 (by kernel_rfl) rfl)
    (back_stops Fence.wide 2 trivial rfl (by omega) (w.heap.size + 2) (w.heap.size + 3) l W0 (by omega) (by omega) (by have := bS.cell 0; simpa using this) hl3) belowK_t (belowK_b (by omega)) (Below.refl _ _) (fun _ => rfl)
    (fun pre W => (∀ y ∈ pre, (l.item y.val).kind ≠ 11) ∧ Below W0.heap.size W0 W)
    (fun c pre W => (c = .ret ∧ ∃ (ini : List (Fin l.n)) (x : Fin l.n) (pe : Option Addr) (ce : Nat), pre = ini ++ [x] ∧ (∀ y ∈ ini, (l.item y.val).kind ≠ 11) ∧ (l.item x.val).kind = 11 ∧ Box W (w.heap.size + 1) #[.int .i64 (l.item x.val).id, .slice l.p x.val l.c, .slice pe (l.n - (x.val + 1)) ce] 59 ∧ LT.In elTr W (fun b => S b ∧ b < w.heap.size) ⟨pe, l.n - (x.val + 1), ce, fun j => l.item (x.val + 1 + j)⟩) ∧ Below w.heap.size w W)
    (OwnFrom.and (ownFrom_pure _ _) (ownFrom_below (Nat.le_refl _) (Nat.le_refl _)))
    (fun c => OwnFrom.and (fun s A B row hs hg hr => by
      obtain ⟨rfl, ini, x, pe, ce, e1, e2, e3, e4, e5⟩ := hs
      exact ⟨rfl, ini, x, pe, ce, e1, e2, e3, e4.grownN hg hr, e5.kept hg.size fun b hb hl => hg.block b hl fun e => by have := (hr b e.symm).1; omega⟩) (ownFrom_below (Nat.le_refl _) (by omega)))
    ⟨by simp, Below.refl _ _⟩
    (fun x a' W => ∃ Bx, W0.heap.size ≤ Bx ∧ Box W Bx #[.int .i64 (l.item x.val).kind, .int .i64 (l.item x.val).task, .int .i64 (l.item x.val).port, .int .i64 (l.item x.val).id] 37 ∧ a' = { tmps := #[.slice l.p l.n l.c, .pointer (some ⟨w.heap.size, 0, none⟩), .pointer (some ⟨w.heap.size + 1, 0, none⟩), .int .i64 (x.val : Int), .pointer (some ⟨Bx, 0, none⟩), .slice l.p l.n l.c, .func (.func 50) #[] #[.pointer (some ⟨w.heap.size + 2, 0, none⟩)], .int .i64 (x.val : Int), trV (l.item x.val), undef, undef, undef, undef, undef, undef, undef, undef, undef, undef, undef, undef, undef, undef, undef], defers := [] })
    (fun x a' _ X Y row hs hg hr => by obtain ⟨Bx, e1, e2, e3⟩ := hs; exact ⟨Bx, e1, e2.grownN hg hr, e3⟩)
    ?assign ?body ?done ?stop
  case assign =>
    rintro l' pre x W K ⟨hp, hB1⟩ hK
    unfold trV
    gi_wp2
    exact hK _ _ ((KeepsOthers.alloc _ _).from _) ((Below.refl _ W).alloc (by have := hB1.size; omega) _) ⟨hp, hB1.alloc hB1.size _⟩ ⟨W.heap.size, hB1.size, Box.new W _ _, rfl⟩
  case body =>
    rintro l' pre ⟨x, hxn⟩ a' W hl' ⟨r, hr⟩ ⟨hp, hB1⟩ ⟨Bx, hBx, bX, rfl⟩ hlt
    dsimp only at bX ⊢
    have x0 := bX.cell 0
    have x3 := bX.cell 3
    have y0 := (bL.below hB1).cell 0
    have r0 := (bR.below hB1).cell 0
    have r1 := (bR.below hB1).cell 1
    have r2 := (bR.below hB1).cell 2
    have f0 := (bR.below hB1).frozen 0
    have f1 := (bR.below hB1).frozen 1
    have f2 := (bR.below hB1).frozen 2
    simp at x0 x3 y0 r0 r1 r2
    by_cases hk : (l.item x).kind = 11
    · rw [hk] at x0
      obtain ⟨b1, o1, hp1, hS1, hb1, ha1⟩ := hl.at_ (by omega)
      rw [hp1] at y0 ⊢
      have hxn' : (x : Int) < (l.n : Int) := by omega
      have hnc := hl.nc
      have hxc : x ≤ l.c := by omega
      have hx1 : x + 1 ≤ l.n := by omega
      have hx2 : x + 1 ≤ l.c := by omega
      have hx3 : (0 : Int) ≤ (x : Int) + 1 := by omega
      have hx4 : (x : Int) + 1 ≤ (l.n : Int) := by omega
      gi_wp2
      refine wpIn_region_calmE l' _ 30 (fun wx => Below W.heap.size W wx) [(0, true), (1, false), (2, false), (3, true), (4, true), (5, false), (6, true), (7, true), (8, true), (9, true)] (.one 10 false [] .done) (by kernel_rfl) (by kernel_rfl) (by kernel_rfl) (Below.refl _ _).drew ?_
      refine wpPre_e rfl rfl (fun K1 hK1 => ?_)
      apply Exists.intro
      refine And.intro (fun wx hx => ?_) ?_
      · go_simp
        try rfl
      go_simp
      refine hK1 _ ?_
      clear hK1 K1
      refine wpPre_e rfl rfl (fun K1 hK1 => ?_)
      apply Exists.intro
      refine And.intro (fun wx hx => ?_) ?_
      · have e0 := below_fact hx rfl x3
        have e1 := below_fact hx rfl y0
        go_simp
        try rfl
      go_simp
      refine hK1 _ ?_
      clear hK1 K1
      refine wpPre_e rfl rfl (fun K1 hK1 => ?_)
      apply Exists.intro
      refine And.intro (fun wx hx => ?_) ?_
      · have e0 := below_fact hx rfl x3
        have e1 := below_fact hx rfl y0
        go_simp
        try rfl
      go_simp
      refine hK1 _ ?_
      clear hK1 K1
      refine wpPre_e rfl rfl (fun K1 hK1 => ?_)
      apply Exists.intro
      refine And.intro (fun wx hx => ?_) ?_
      · go_simp
        try rfl
      go_simp
      refine hK1 _ ?_
      clear hK1 K1
      refine wpPre_e rfl rfl (fun K1 hK1 => ?_)
      apply Exists.intro
      refine And.intro (fun wx hx => ?_) ?_
      · go_simp
        try rfl
      go_simp
      refine hK1 _ ?_
      clear hK1 K1
      refine wpPre_e rfl rfl (fun K1 hK1 => ?_)
      apply Exists.intro
      refine And.intro (fun wx hx => ?_) ?_
      · have e0 := below_fact hx rfl x3
        have e1 := below_fact hx rfl y0
        go_simp
        try rfl
      go_simp
      refine hK1 _ ?_
      clear hK1 K1
      refine wpPre_e rfl rfl (fun K1 hK1 => ?_)
      apply Exists.intro
      refine And.intro (fun wx hx => ?_) ?_
      · go_simp
        try rfl
      go_simp
      refine hK1 _ ?_
      clear hK1 K1
      refine wpPre_e rfl rfl (fun K1 hK1 => ?_)
      apply Exists.intro
      refine And.intro (fun wx hx => ?_) ?_
      · go_simp
        try rfl
      go_simp
      refine hK1 _ ?_
      clear hK1 K1
      rw [wrap_nat (show x + 1 ≤ 140737488355328 by omega)]
      refine wpPre_e rfl rfl (fun K1 hK1 => ?_)
      apply Exists.intro
      refine And.intro (fun wx hx => ?_) ?_
      · go_simp
        try rfl
      go_simp
      refine hK1 _ ?_
      clear hK1 K1
      generalize hpe : (if l.c = x + 1 then (some ⟨b1, o1, none⟩ : Option Addr) else some ⟨b1, o1 + (x + 1) * 4, none⟩) = pe
      refine wpPre_e rfl rfl (fun K1 hK1 => ?_)
      apply Exists.intro
      refine And.intro (fun wx hx => ?_) ?_
      · go_simp
        try rfl
      go_simp
      refine hK1 _ ?_
      clear hK1 K1
      refine wpPre_nil ?_
      refine wpTr_e rfl (fun K1 hK1 => ?_)
      go_simp
      refine hK1 _ _ (fun h => by cases h) ?_
      clear hK1 K1
      refine wpPre_nil ?_
      refine wpTr_done ⟨rfl, ?_⟩
      gi_wp2
      have hbw : Below w.heap.size w W := hB0.trans (hB1.mono (by omega))
      have hb' := below3 hbw (b := w.heap.size + 1) (by omega) (.int .i64 (l.item x).id) (.slice (some ⟨b1, o1, none⟩) x l.c) (.slice pe (l.n - (x + 1)) (l.c - (x + 1)))
      refine ⟨(keeps3 _ _ _ _ _ _).trans ((KeepsOthers.drew _).from _), ⟨rfl, pre, ⟨x, hxn⟩, pe, l.c - (x + 1), rfl, hp, hk, ?_, ?_⟩, hb'.drew⟩
      · exact set3 (bR.below hB1)
      · have h9 := sub_tr ((hl.mono fun b hb hlt => (⟨hb, hlt⟩ : S b ∧ b < w.heap.size)).kept hb'.drew.size fun b hb _ => hb'.drew.block b hb.2) hp1 hx1
        rw [hpe] at h9
        exact h9
    · gi_wp2
      exact ⟨KeepsFrom.refl _ _, Below.refl _ _, fun y hy => (List.mem_append.1 hy).elim (hp y) (fun e => by simp at e; subst e; exact hk), hB1⟩
  case done =>
    rintro D ys W hD rfl ⟨hne, hB1⟩ hK
    have y0 := (bL.below hB1).cell 0
    have r0 := (bR.below hB1).cell 0
    have r1 := (bR.below hB1).cell 1
    have r2 := (bR.below hB1).cell 2
    have f0 := (bR.below hB1).frozen 0
    have f1 := (bR.below hB1).frozen 1
    have f2 := (bR.below hB1).frozen 2
    simp at y0 r0 r1 r2
    gi_wp2
    have hbw : Below w.heap.size w W := hB0.trans (hB1.mono (by omega))
    have hb' := below3 hbw (b := w.heap.size + 1) (by omega) (.int .i64 0) (.slice none 0 0) (.slice l.p l.n l.c)
    have hK' := (keeps3 W 0 (w.heap.size + 1) (.int .i64 0) (.slice none 0 0) (.slice l.p l.n l.c)).same D _ (Nat.zero_le _) hK rfl
    have hbx := (set3 (u := .int .i64 0) (v := .slice none 0 0) (t := .slice l.p l.n l.c) (bR.below hB1)).grownN (grownBy_putObj' _ D (.deferred none)) (B := 0) (fun r e => by cases e; exact ⟨Nat.zero_le _, _, hK', rfl⟩)
    have g0 := hbx.cell 0
    have g1 := hbx.cell 1
    have g2 := hbx.cell 2
    simp at g0 g1 g2
    have hbl := hb'.trans (belowK_b (w := w) (Nat.le_refl _) _ D _ (.deferred none) (by omega) hK' rfl rfl)
    refine ⟨by simp, .inl ⟨_, _, rfl, run_takeDeferred hK', ?_⟩⟩
    refine ⟨.agg #[.int .i64 0, .slice none 0 0, .slice l.p l.n l.c], by simp [results, Try.results33, go_sem, g0, g1, g2], 0, none, l.p, 0, l.c, ⟨Nat.zero_le _, .inl rfl, fun q _ hq => hne ⟨q, hq⟩ ((backs_mem (Nat.le_refl _)).2 (by simp))⟩, rfl, LT.In.none_ elTr _ _ none 0 _ (Nat.zero_le _) (fun _ => rfl), ?_, hbl⟩
    have := hl.below hbl
    simpa using this
  case stop =>
    rintro D c pre W hD ⟨k, hk, rfl⟩ ⟨⟨rfl, ini, ⟨x, hx⟩, pe, ce, e1, e2, e3, e4, e5⟩, hB⟩ hK
    gi_wp2
    try dsimp only at e3 e4 e5
    obtain ⟨k', rfl⟩ : ∃ k', k = k' + 1 := by
      cases k with
      | zero => simp [backs] at e1
      | succ k' => exact ⟨k', rfl⟩
    rw [backs_succ (by omega)] at e1
    obtain ⟨rfl, e6⟩ := List.append_inj' e1 rfl
    have e7 : x = l.n - 1 - k' := by simpa using e6.symm
    subst e7
    have hbx := e4.grownN (grownBy_putObj' _ D (.deferred none)) (B := 0) (fun r e => by cases e; exact ⟨Nat.zero_le _, _, hK, rfl⟩)
    have g0 := hbx.cell 0
    have g1 := hbx.cell 1
    have g2 := hbx.cell 2
    simp at g0 g1 g2
    have hbt := belowK_b (n₀ := w.heap.size) (w := w) (Nat.le_refl _) W D _ (.deferred none) (by omega) hK rfl rfl
    have hbl := hB.trans hbt
    refine ⟨by simp, .inl ⟨_, _, rfl, run_takeDeferred hK, ?_⟩⟩
    have ea : l.n - 1 - k' + 1 - 1 = l.n - 1 - k' := by omega
    refine ⟨.agg #[.int .i64 (l.item (l.n - 1 - k')).id, .slice l.p (l.n - 1 - k') l.c, .slice pe (l.n - (l.n - 1 - k' + 1)) ce], by simp [results, Try.results33, go_sem, g0, g1, g2], l.n - 1 - k' + 1, l.p, pe, l.c, ce, ⟨by omega, .inr (by rw [ea]; exact e3), fun q h1 h2 => e2 ⟨q, h2⟩ ((backs_mem (by omega)).2 (by dsimp only; omega))⟩, ?_, ?_, ?_, hbl⟩
    · rw [ea]
      simp only [beganOf, Nat.add_eq_zero_iff, Nat.succ_ne_self, and_false, if_false, ea]
    · rw [ea]
      have h9 := hl.below hbl
      exact ⟨fun hn => by
        obtain ⟨b, o, e, hS, hb, ha⟩ := h9.at_ (by omega)
        exact ⟨b, o, e, hS, hb, fun j hj => ha j (by dsimp only at hj; omega)⟩, fun _ _ => trivial, by have := hl.nc; dsimp only; omega, by dsimp only; omega, hl.cc, fun h => by have := h9.nil h; dsimp only; omega⟩
    · exact (e5.kept hbt.size fun b hb _ => hbt.block b hb.2).mono fun b hb _ => hb.1
end Go.Proofs.Ytdpfgflofjiheaa
