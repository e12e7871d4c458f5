import Derived.Test.YtpldokahoamdpaaPack9
import Derived.Test.YtpldokahoamdpaaPack3
import Derived.Orders
namespace Go.Proofs.Ytpldokahoamdpaa
open Go.RowKit Go.Conc
set_option maxRecDepth 8000
/-- the lane behind a Take -/
theorem RcvS.take {w w1 w2 : World} {Z : Nat → Prop} {b : Nat} {L : Ln} {x : IT} {q' : List IT} (hI : LnI w Z b L) (hq : L.q = x :: q') (h : RcvS w b L q' w1)
    (hb : But (fun k => k = b ∨ w.heap.size ≤ k) w1 w2) (hx : Box w2 b #[.int .i64 L.room, .int .i64 (nR q'), .pointer none, .chan (some L.ch)] 74) (hcl : L.ch < w.heap.size) : LSet w Z b L w2 ⟨L.room, none, L.ch, L.cap, q'⟩ := by
  have hC : ∀ k, Ln.C ⟨L.room, none, L.ch, L.cap, q'⟩ b k → L.C b k := by
    rintro k (e | e | e)
    · exact .inl e
    · exact .inr (.inl e)
    · cases e
  have hws := h.but.size
  have hbt : But (L.C b) w w2 := by
    refine ⟨hb.os.trans h.but.os, hb.tape.trans h.but.tape, hb.output.trans h.but.output, Nat.le_trans h.but.size hb.size, fun k hk hn => (hb.block k (by omega) ?_).trans (h.but.block k hk hn)⟩
    rintro (e | e)
    · exact hn (.inl e)
    · omega
  have hlen := hI.len
  rw [hq] at hlen
  simp at hlen
  have hfit : q'.length ≤ L.cap := by
    have h1 := hI.fit
    have h2 := hI.inCh_len
    rw [hq, List.length_cons] at h2
    split at h2 <;> omega
  obtain ⟨s, r, hc⟩ := h.buf
  refine ⟨⟨hx, ⟨s, r, ?_⟩, (fun n hn => by cases hn), hI.r0, hI.r1, hI.cp, by simp; omega, fun y hy => ?_, fun k hk => hI.cz k (hC k hk), by simpa [Ln.inCh] using hfit⟩, hbt, fun k hk => .inl (hC k hk), rfl⟩
  · refine (hb.block L.ch (by omega) ?_).trans (by simpa [Ln.inCh] using hc)
    rintro (e | e)
    · exact hI.b_ch e.symm
    · have e' : w.heap.size ≤ L.ch := e
      omega
  · have hy2 := hI.it y (by rw [hq]; exact List.mem_cons_of_mem _ hy)
    exact ⟨(hy2.1.kept hbt.size fun k hk hl => hbt.block k hl hk.1).mono fun k hk _ => ⟨fun e => hk.1 (hC k e), hk.2⟩, hy2.2⟩
def TkQ (w : World) (Z : Nat → Prop) (b : Nat) (L : Ln) (q' : List IT) (w' : World) : Prop := LSet w Z b L w' ⟨L.room, none, L.ch, L.cap, q'⟩
set_option maxRecDepth 60000 in
set_option maxHeartbeats 4000000 in
/-- Take of a lane that holds something -/
theorem take_some (w : World) (Z : Nat → Prop) (b : Nat) (L : Ln) (hI : LnI w Z b L) (x : IT) (q' : List IT) (hq : L.q = x :: q') : Calls Try.prog 13 #[.pointer (some ⟨b, 0, none⟩)] w fun e w' => e = .returned (.tuple #[x.val, .bool true]) ∧ TkQ w Z b L q' w' := by
  obtain ⟨W, hW⟩ : ∃ W, W = w.alloc (.cells #[.int .i64 0, .string ⟨#[]⟩, .int .i64 0, .int .i64 0, .string ⟨#[]⟩, .slice none 0 0, .slice none 0 0] 35) := ⟨_, rfl⟩
  have hB : Below w.heap.size w W := by rw [hW]; exact (Below.refl _ _).alloc (Nat.le_refl _) _
  have hX : Box W w.heap.size #[.int .i64 0, .string ⟨#[]⟩, .int .i64 0, .int .i64 0, .string ⟨#[]⟩, .slice none 0 0, .slice none 0 0] 35 := by rw [hW]; exact Box.new _ _ _
  have hWs : W.heap.size = w.heap.size + 1 := by rw [hW]; simp
  have hbl := hI.b_lt
  have hcl := hI.ch_lt
  have hnb : ∀ k, L.C b k → k < w.heap.size := fun k hk => hI.c_lt hk
  have hn30 : nR L.q ≤ 30000 := Nat.le_trans (nR_le _) hI.len
  have HRc := hid (receive_some W Z b L (hI.below hB) x q' hq)
  have HTk := hid (fun w1 w2 (h : RcvS w b L q' w1) hb hx => RcvS.take (w2 := w2) hI hq h hb hx hcl)
  have HQ := hid hq
  have HB := hid hB
  have HW := hid hW
  have HX := hid hX
  have HWs := hid hWs
  have HNB := hid hnb
  clear hI hq hB hX hW hWs hnb
  go_enter Try.func13, Try.ntmps13
  go_upto_region 1 with fail
  rw [← HW.out]
  go_wp2_with fail
  refine HRc.out.mono ?_
  rintro e w1 ⟨rfl, hR⟩
  have HR0 : Hid (RcvS w b L q' w1) := ⟨hR.box, hR.buf, ⟨hR.but.os.trans HB.out.os, hR.but.tape.trans HB.out.tape, hR.but.output.trans HB.out.output, Nat.le_trans HB.out.size hR.but.size, fun k hk hn => (hR.but.block k (Nat.lt_of_lt_of_le hk HB.out.size) hn).trans (HB.out.block k hk)⟩⟩
  have hX1 := HX.out.kept (hR.but.block _ HX.out.lt fun e => Nat.lt_irrefl _ (HNB.out _ e))
  have HX1 := hid hX1
  have hxl := hX1.lt
  obtain ⟨W2, hW2⟩ : ∃ W2, W2 = w1.alloc (.cells #[.int .i64 x.mark, .string x.r.key, .int .i64 x.r.v.kind, .int .i64 x.r.v.int, .string x.r.v.text, .slice x.r.v.p x.r.v.n x.r.v.c, .slice x.r.p x.r.n x.r.c] 35) := ⟨_, rfl⟩
  have hB2 : Below w1.heap.size w1 W2 := by rw [hW2]; exact (Below.refl _ _).alloc (Nat.le_refl _) _
  have hY2 : Box W2 w1.heap.size #[.int .i64 x.mark, .string x.r.key, .int .i64 x.r.v.kind, .int .i64 x.r.v.int, .string x.r.v.text, .slice x.r.v.p x.r.v.n x.r.v.c, .slice x.r.p x.r.n x.r.c] 35 := by rw [hW2]; exact Box.new _ _ _
  have HI2 := hid (isRec_any x W2)
  have hL2 := hR.box.below hB2
  have HL2 := hid hL2
  have HY2 := hid hY2
  have HW2 := hid hW2
  have HB2 := hid hB2
  have HX2 := hid (hX1.below hB2)
  have y0 := hY2.cell 0
  have y1 := hY2.cell 1
  have y2 := hY2.cell 2
  have y3 := hY2.cell 3
  have y4 := hY2.cell 4
  have y5 := hY2.cell 5
  have y6 := hY2.cell 6
  simp at y0 y1 y2 y3 y4 y5 y6
  clear hR hX1 hB2 hY2 hL2 hW2
  unfold IT.val
  go_upto_region 2 with fail
  rw [← HW2.out]
  go_wp2_with fail
  refine HI2.out.mono ?_
  rintro e w3 ⟨rfl, hB3⟩
  clear y0 y1 y2 y3 y4 y5 y6
  have hY3 := HY2.out.below hB3
  have hX3 := HX2.out.below hB3
  have hL3 := HL2.out.below hB3
  have y0 := hY3.cell 0
  have y1 := hY3.cell 1
  have y2 := hY3.cell 2
  have y3 := hY3.cell 3
  have y4 := hY3.cell 4
  have y5 := hY3.cell 5
  have y6 := hY3.cell 6
  have z0 := hX3.cell 0
  have z1 := hX3.cell 1
  have z2 := hX3.cell 2
  have z3 := hX3.cell 3
  have z4 := hX3.cell 4
  have z5 := hX3.cell 5
  have z6 := hX3.cell 6
  simp at y0 y1 y2 y3 y4 y5 y6 z0 z1 z2 z3 z4 z5 z6
  have f0 := hX3.frozen 0
  have f1 := hX3.frozen 1
  have f2 := hX3.frozen 2
  have f3 := hX3.frozen 3
  have f4 := hX3.frozen 4
  have f5 := hX3.frozen 5
  have f6 := hX3.frozen 6
  have zl := hX3.lt
  have c1 : w3.cell? ⟨b, 1, none⟩ = some (.int .i64 (nR L.q)) := by rw [hL3.cell]; rfl
  have g1 := hL3.frozen 1
  have gl := hL3.lt
  have hs3 := hB3.size
  have hs2 := HB2.out.size
  have HL3 := hid hL3
  have HB13 : Hid (Below w1.heap.size w1 w3) := HB2.out.trans (hB3.mono HB2.out.size)
  clear hY3 hX3 hL3 hB3
  by_cases hm : x.mark = 0
  · have hm' : (x.mark == 0) = true := by simp [hm]
    rw [hm']
    have hn1 : nR L.q = nR q' + 1 := by rw [HQ.out]; exact nR_cons0 q' hm
    have HN1 := hid hn1
    clear hm' hm hn1
    go_wp2
    have hs := (But.one w3 b).setAt 1 (.int .i64 ((nR L.q : Int) - 1))
    have hp := put7_but (w3.setCell ⟨b, 1, none⟩ (.int .i64 ((nR L.q : Int) - 1))) w.heap.size x
    refine bodyPost_ret (v := .tuple #[x.val, .bool true]) (by simp [results, Try.results13, go_sem, z0, z1, z2, z3, z4, z5, z6, IT.val]) rfl ⟨rfl, ?_⟩
    change TkQ w Z b L q' (put7 (w3.setCell ⟨b, 1, none⟩ (.int .i64 ((nR L.q : Int) - 1))) w.heap.size x)
    refine HTk.out w1 _ HR0.out ⟨hp.os.trans (hs.os.trans HB13.out.os), hp.tape.trans (hs.tape.trans HB13.out.tape), hp.output.trans (hs.output.trans HB13.out.output), by have := hp.size; have := hs.size; omega, fun k hk hn => ?_⟩ ?_
    · have h1 : k ≠ b := fun e => hn (.inl e)
      have h2 : k ≠ w.heap.size := fun e => hn (.inr (by omega))
      exact (hp.block k (by have := hs.size; omega) h2).trans ((hs.block k (by omega) h1).trans (HB13.out.block k hk))
    · have h5 := HL3.out.set 1 (.int .i64 ((nR L.q : Int) - 1))
      refine Box.kept ?_ (hp.block b (by have := hs.size; omega) (by omega))
      have e5 : ((nR L.q : Int) - 1) = (nR q' : Int) := by have := HN1.out; omega
      rw [e5] at h5 ⊢
      simpa only [List.setIfInBounds_toArray, List.set_cons_zero, List.set_cons_succ] using h5
  · have hm' : (x.mark == 0) = false := by simp [hm]
    rw [hm']
    have hn1 : nR L.q = nR q' := by rw [HQ.out]; exact nR_cons1 q' hm
    have HN1 := hid hn1
    clear hm' hm hn1
    go_wp2
    have hp := put7_but w3 w.heap.size x
    refine bodyPost_ret (v := .tuple #[x.val, .bool true]) (by simp [results, Try.results13, go_sem, z0, z1, z2, z3, z4, z5, z6, IT.val]) rfl ⟨rfl, ?_⟩
    change TkQ w Z b L q' (put7 w3 w.heap.size x)
    refine HTk.out w1 _ HR0.out ⟨hp.os.trans HB13.out.os, hp.tape.trans HB13.out.tape, hp.output.trans HB13.out.output, by have := hp.size; omega, fun k hk hn => ?_⟩ ?_
    · have h2 : k ≠ w.heap.size := fun e => hn (.inr (by omega))
      exact (hp.block k (by omega) h2).trans (HB13.out.block k hk)
    · have h5 := HL3.out
      rw [HN1.out] at h5
      exact h5.kept (hp.block b (by omega) (by omega))
end Go.Proofs.Ytpldokahoamdpaa

namespace Go.Proofs.Ytpldokahoamdpaa
open Go.RowKit
set_option maxRecDepth 8000

/-- how many are not done -/
def unl : List Bool → Nat
  | [] => 0
  | b :: r => (if b then 0 else 1) + unl r
theorem unl_set : ∀ (l : List Bool) (i : Nat), l[i]? = some false → unl (l.set i true) + 1 = unl l
  | [], i, h => by simp at h
  | b :: r, 0, h => by
    simp at h
    subst h
    simp [unl]
    omega
  | b :: r, i + 1, h => by
    have := unl_set r i (by simpa using h)
    simp only [List.set_cons_succ, unl]
    omega
theorem unl_zero : ∀ (l : List Bool), unl l = 0 → ∀ (i : Nat) (b : Bool), l[i]? = some b → b = true
  | [], _, i, b, h => by simp at h
  | c :: r, hu, 0, b, h => by
    simp at h
    subst h
    cases c with
    | true => rfl
    | false => simp [unl] at hu
  | c :: r, hu, i + 1, b, h => by
    refine unl_zero r ?_ i b (by simpa using h)
    simp only [unl] at hu
    omega

/-- WHATEVER ORDER IS DRAWN: a statement about what is done, that each operation keeps -/
theorem wpAny_inv {P : Program} {ops : Array Oper} {Q : Exit → Act → World → Prop} (I : (Nat → Prop) → Act → World → Prop)
    (hext : ∀ D D' a w, (∀ j, D j ↔ D' j) → I D a w → I D' a w)
    (hac : ∀ (i : Nat) (o : Oper), ops[i]? = some o → ∀ e ∈ o.after, Region.binds .any e = true → e.on < i)
    (hstep : ∀ D a w, I D a w → ∀ (i : Nat) (o : Oper), ops[i]? = some o → ¬ D i → (∀ e ∈ o.after, Region.binds .any e = true → D e.on) → wpOp P ops Q i (I fun j => D j ∨ j = i) a w)
    (hend : ∀ D a w, I D a w → (∀ i, i < ops.size → D i) → Q .normal a w) :
    ∀ (fuel : Nat) (listed : Array Bool) (a : Act) (w : World), listed.size = ops.size → unl listed.toList ≤ fuel → I (fun j => listed[j]? = some true) a w → wpAny P .any ops Q fuel listed a w := by
  have hall : ∀ (listed : Array Bool), listed.size = ops.size → Region.ready .any ops listed = [] → ∀ i, i < ops.size → listed[i]? = some true := by
    intro listed hs hr i
    induction i using Nat.strongRecOn with
    | _ i ih =>
      intro hi
      cases hb : listed[i]? with
      | none => rw [Array.getElem?_eq_none_iff] at hb; omega
      | some b =>
        cases b with
        | true => rfl
        | false =>
          exfalso
          have hm : i ∈ Region.ready .any ops listed := by
            rw [mem_ready]
            refine ⟨by simp [Array.getD_eq_getD_getElem?, hb], ops[i], by simp [hi], fun e he hbd => ?_⟩
            have hlt := hac i ops[i] (by simp [hi]) e he hbd
            have := ih e.on hlt (by omega)
            simp [Array.getD_eq_getD_getElem?, this]
          rw [hr] at hm
          cases hm
  intro fuel
  induction fuel with
  | zero =>
    intro listed a w hs hu hI
    have hl : ∀ i, i < ops.size → listed[i]? = some true := by
      intro i hi
      cases hb : listed[i]? with
      | none => rw [Array.getElem?_eq_none_iff] at hb; omega
      | some b => rw [unl_zero listed.toList (by omega) i b (by simpa using hb)]
    refine ⟨?_, hend _ a w hI hl⟩
    cases hr : Region.ready .any ops listed with
    | nil => rfl
    | cons j r =>
      have hj : j ∈ Region.ready .any ops listed := by rw [hr]; simp
      rw [mem_ready] at hj
      obtain ⟨h0, o, ho, _⟩ := hj
      have hlt : j < ops.size := (Array.getElem?_eq_some_iff.1 ho).1
      rw [Array.getD_eq_getD_getElem?, hl j hlt] at h0
      cases h0
  | succ fuel ih =>
    intro listed a w hs hu hI
    refine ⟨fun hr => hend _ a w hI (hall listed hs hr), fun i hi => ?_⟩
    rw [mem_ready] at hi
    obtain ⟨h0, o, ho, hdep⟩ := hi
    have hlt : i < ops.size := (Array.getElem?_eq_some_iff.1 ho).1
    have hli : listed[i]? = some false := by
      cases hb : listed[i]? with
      | none => rw [Array.getElem?_eq_none_iff] at hb; omega
      | some b => rw [Array.getD_eq_getD_getElem?, hb] at h0; simp at h0; rw [h0]
    refine wpOp_mono ?_ (hstep _ a w hI i o ho (by rw [hli]; simp) (fun e he hb => ?_))
    · intro a' w' h'
      refine ih _ a' w' (by simpa using hs) ?_ (hext _ _ _ _ ?_ h')
      · have := unl_set listed.toList i (by simpa using hli)
        rw [Array.toList_setIfInBounds]
        omega
      · intro j
        by_cases hji : j = i
        · subst hji
          simp [hs, hlt]
        · simp [hji, Ne.symm hji]
    · have := hdep e he hb
      rw [Array.getD_eq_getD_getElem?] at this
      cases hb2 : listed[e.on]? with
      | none => rw [hb2] at this; simp at this
      | some b => rw [hb2] at this; simp at this; rw [this]

theorem unl_replicate : ∀ n, unl (List.replicate n false) = n
  | 0 => rfl
  | n + 1 => by
    have := unl_replicate n
    simp only [List.replicate_succ, unl]
    simp
    omega

/-- what comes behind is laid behind -/
def acB (ops : Array Oper) : Bool := (List.range ops.size).all fun i => match ops[i]? with
  | none => true
  | some o => o.after.all fun e => !(Region.binds .any e) || decide (e.on < i)
theorem acB_spec {ops : Array Oper} (h : acB ops = true) : ∀ (i : Nat) (o : Oper), ops[i]? = some o → ∀ e ∈ o.after, Region.binds .any e = true → e.on < i := by
  intro i o ho e he hb
  have hlt : i < ops.size := (Array.getElem?_eq_some_iff.1 ho).1
  have h1 := List.all_eq_true.1 h i (List.mem_range.2 hlt)
  simp only [ho] at h1
  have h2 := Array.all_eq_true_iff_forall_mem.1 h1 e he
  rw [hb] at h2
  simpa using h2

theorem wp_region_inv {P : Program} {ops : Array Oper} {Q : Exit → Act → World → Prop} {id : Nat} {a : Act} {w : World} (hm : P.follows .mixedOrders = true) (I : (Nat → Prop) → Act → World → Prop)
    (hext : ∀ D D' a w, (∀ j, D j ↔ D' j) → I D a w → I D' a w)
    (hac : acB ops = true)
    (h0 : ∀ D, (∀ j, ¬ D j) → I D a w.drew)
    (hstep : ∀ D a w, I D a w → ∀ (i : Nat) (o : Oper), ops[i]? = some o → ¬ D i → (∀ e ∈ o.after, Region.binds .any e = true → D e.on) → wpOp P ops Q i (I fun j => D j ∨ j = i) a w)
    (hend : ∀ D a w, I D a w → (∀ i, i < ops.size → D i) → Q .normal a w) : (Code.region id ops true).wp P Q a w := by
  refine wp_region_any hm (wpAny_inv I hext (acB_spec hac) hstep hend ops.size _ a _ (by simp) ?_ (h0 _ ?_))
  · rw [Array.toList_replicate, unl_replicate]
    exact Nat.le_refl _
  · intro j h
    rw [Array.getElem?_replicate] at h
    split at h <;> simp at h
end Go.Proofs.Ytpldokahoamdpaa
