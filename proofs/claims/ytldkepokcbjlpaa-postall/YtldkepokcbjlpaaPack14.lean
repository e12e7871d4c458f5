import Derived.Test.YtldkepokcbjlpaaPack13
namespace Go.Proofs.Ytldkepokcbjlpaa
open Go.RowKit
set_option maxRecDepth 60000
theorem own_low {base base' : Nat} {e : TypeId} {size n : Nat} {w : World} {v : Value} {xs : List Value} (h : w.ownsRow base e size v n xs) (hb : base' ≤ base) : w.ownsRow base' e size v n xs := by
  obtain ⟨hl, h1 | ⟨g2, cap, cur, hv, hb2, hr⟩⟩ := h
  · exact ⟨hl, .inl h1⟩
  · exact ⟨hl, .inr ⟨g2, cap, cur, hv, Nat.le_trans hb hb2, hr⟩⟩
def intV (N : List Int) : List Value := N.map (.int .i64)
def Ps.wantsU (P : Ps) : Nat → List Int
  | 0 => []
  | k + 1 => if P.pl k = 2 then P.wantsU k else P.wantsU k ++ [(k : Int)]
theorem Ps.wantsU_len (P : Ps) : ∀ k, (P.wantsU k).length ≤ k
  | 0 => Nat.le_refl _
  | k + 1 => by
    have := P.wantsU_len k
    rw [Ps.wantsU]
    split
    · omega
    · simp; omega
def Ps.wants (P : Ps) : List Int := P.wantsU P.tasks.toNat
structure WntQ (w : World) (N : List Int) (v : Value) (w' : World) : Prop where
  own : w'.ownsRow w.heap.size 3 1 v N.length (intV N)
  bel : Below w.heap.size w w'
set_option maxHeartbeats 4000000 in
theorem wanted_any (w : World) (b : Nat) (P : Ps) (hI : PsI w b P) : Calls Try.prog 40 #[.pointer (some ⟨b, 0, none⟩)] w fun e w' => ∃ p c, e = .returned (.slice p P.wants.length c) ∧ WntQ w P.wants (.slice p P.wants.length c) w' := by
  obtain ⟨i0, Kd⟩ := kindIc
  have HKd := hid Kd
  have HI := hid hI
  obtain ⟨T, hT⟩ : ∃ T : Nat, P.tasks = (T : Int) := ⟨P.tasks.toNat, by have := hI.t0; omega⟩
  have hT12 : T ≤ 12 := by have := hI.t1; omega
  have HW : Hid (P.wants = P.wantsU T) := by unfold Hid Ps.wants; rw [hT]; rfl
  have c0 := hI.box.cell 0
  have bl := hI.box.lt
  simp [Ps.arr] at c0
  rw [hT] at c0
  clear hI Kd hT
  go_enter Try.func40, Try.ntmps40
  go_wp2_with fail
  go_loopw [3, 9] (fun v x wr => ∃ k : Nat, k ≤ T ∧ x = .int .i64 (k : Int) ∧ WntQ w (P.wantsU k) v wr) (fun _ x _ => T - (intOf x).toNat)
  case atStart => exact ⟨0, Nat.zero_le _, rfl, World.ownsRow_nil _ _ _ _, Below.refl _ _⟩
  case round =>
    obtain ⟨k, hk, rfl, hO⟩ := hrel
    have HO := hid hO
    clear hO
    by_cases hlt : k < T
    · have hlt' : (k : Int) < (T : Int) := by omega
      have hk12 : (k : Int) < 12 := by omega
      have hIr := HI.out.below HO.out.bel
      have cp := hIr.cp (show k < 12 by omega)
      have blr := hIr.box.lt
      have hle := P.wantsU_len k
      clear hIr
      by_cases h2 : P.pl k = 2
      · have HE : Hid (P.wantsU (k + 1) = P.wantsU k) := by unfold Hid; rw [Ps.wantsU, if_pos h2]
        rw [h2] at cp
        go_wp2
        go_roundw
        case rel => exact ⟨k + 1, by omega, by go_num, by rw [HE.out]; exact HO.out⟩
        case measure => simp [intOf]; omega
      · have HE : Hid (P.wantsU (k + 1) = P.wantsU k ++ [(k : Int)]) := by unfold Hid; rw [Ps.wantsU, if_neg h2]
        have h2' : (P.pl k != 2) = true := by simp [h2]
        have ha : Below wr.heap.size wr (wr.alloc (.cells #[.int .i64 (k : Int)] 3)) := (Below.refl _ _).alloc (Nat.le_refl _) _
        have HAl := hid ha
        have HNw : Hid (∀ j u', ([.int .i64 (k : Int)] : List Value)[j]? = some u' → (wr.alloc (.cells #[.int .i64 (k : Int)] 3)).cell? ((⟨wr.heap.size, 0, none⟩ : Addr).add j) = some u') := fun j u' hu => by
          rw [Go.WideShapes.add_plain, (Box.new wr #[.int .i64 (k : Int)] 3).cell]
          rw [show 0 + j = j by omega]
          simpa using hu
        clear ha h2
        go_wp2_with (at_builtin; refine wpList_app rfl (.tmp 20) (.tmp 22) 32 3 i0 _ 1 8 HKd.out rfl w.heap.size u3 (P.wantsU k).length _ rfl (HO.out.own.alloc _) ⟨wr.heap.size, 0, none⟩ 1 1 [.int .i64 (k : Int)] rfl rfl HNw.out (fun u hu => by simp at hu; rw [hu]; rfl) (by omega) (by omega) (by have := HO.out.bel.size; simp; omega) ?_)
        intro v3 w3 ho3 hg3 hn3
        have HQ : Hid (WntQ w (P.wantsU (k + 1)) v3 w3) := by
          have hb := HO.out.bel
          unfold Hid
          rw [HE.out]
          refine ⟨?_, (hb.trans (HAl.out.mono hb.size)).grown hg3 (by have := hb.size; simp; omega) (fun j hj => (HO.out.own.lt j hj).1)⟩
          rw [List.length_append]
          have : intV (P.wantsU k ++ [(k : Int)]) = intV (P.wantsU k) ++ [.int .i64 (k : Int)] := by simp [intV]
          rw [this]
          exact ho3
        clear ho3 hg3 hn3 HNw HAl
        go_wp2
        go_roundw
        case rel => exact ⟨k + 1, by omega, by go_num, HQ.out⟩
        case measure => simp [intOf]; omega
    · obtain rfl : k = T := by omega
      have hlt' : ¬ (k : Int) < (k : Int) := by omega
      obtain ⟨p3, c3, hv⟩ := ownsRow_slice HO.out.own
      subst hv
      go_wp2
      refine bodyPost_ret (v := .slice p3 (P.wantsU k).length c3) (by simp [results, Try.results40, go_sem]) rfl ?_
      refine ⟨p3, c3, ?_⟩
      rw [HW.out]
      exact ⟨rfl, HO.out⟩
def OpenP (w : World) (P : Ps) (e : Ending) (w' : World) : Prop := ∃ p c N, N = (if P.under = 0 then [] else P.wants) ∧ e = .returned (.tuple #[.int .i64 P.under, .slice p N.length c]) ∧ WntQ w N (.slice p N.length c) w'
set_option maxHeartbeats 4000000 in
theorem open_any (w : World) (b : Nat) (P : Ps) (hI : PsI w b P) : Calls Try.prog 21 #[.pointer (some ⟨b, 0, none⟩)] w fun e w' => OpenP w P e w' := by
  have HU := hid (under_any w b P hI)
  have HWn : Hid (∀ V, Below w.heap.size w V → Calls Try.prog 40 #[.pointer (some ⟨b, 0, none⟩)] V fun e w' => ∃ p c, e = .returned (.slice p P.wants.length c) ∧ WntQ V P.wants (.slice p P.wants.length c) w') := fun V hV => wanted_any V b P (hI.below hV)
  clear hI
  by_cases h : P.under = 0
  · have HH := hid h
    clear h
    go_enter Try.func21, Try.ntmps21
    go_wp2_with (go_at_call 30; refine HU.out.mono ?_; rintro e w1 ⟨rfl, hb1⟩; rw [HH.out])
    refine bodyPost_ret (v := .tuple #[.int .i64 0, .slice none 0 0]) (by simp [results, Try.results21, go_sem]) rfl ?_
    exact ⟨none, 0, [], by rw [if_pos HH.out], by rw [HH.out]; rfl, World.ownsRow_nil _ _ _ _, hb1⟩
  · have HH := hid h
    have h' : (P.under == 0) = false := by simp [h]
    clear h
    go_enter Try.func21, Try.ntmps21
    go_wp2_with (first | (go_at_call 30; refine HU.out.mono ?_; rintro e w1 ⟨rfl, hb1⟩) | (go_at_call 40; refine (HWn.out _ hb1).mono ?_; rintro e w2 ⟨p2, c2, rfl, hq2⟩))
    refine bodyPost_ret (v := .tuple #[.int .i64 P.under, .slice p2 P.wants.length c2]) (by simp [results, Try.results21, go_sem]) rfl ?_
    exact ⟨p2, c2, P.wants, by rw [if_neg HH.out], rfl, own_low hq2.own hb1.size, hb1.trans (hq2.bel.mono hb1.size)⟩
end Go.Proofs.Ytldkepokcbjlpaa

namespace Go.Proofs.Ytldkepokcbjlpaa
open Go.RowKit Go.Conc
set_option maxRecDepth 60000
/-- the inbox -/
structure Inb (w : World) (P : Ps) (L : List Value) : Prop where
  ch : ∃ s r, w.heap[P.ch]? = some (.chan P.tasks.toNat L.toArray false s r false)
theorem Inb.lt {w : World} {P : Ps} {L : List Value} (h : Inb w P L) : P.ch < w.heap.size := by
  obtain ⟨s, r, hc⟩ := h.ch
  rcases Nat.lt_or_ge P.ch w.heap.size with h | h
  · exact h
  · rw [Array.getElem?_eq_none h] at hc; cases hc
theorem PsI.ch_ne {w : World} {b : Nat} {P : Ps} {L : List Value} (h : PsI w b P) (hc : Inb w P L) {k : Nat} (hk : P.C b k) : k ≠ P.ch := by
  rintro rfl
  obtain ⟨s, r, hc⟩ := hc.ch
  rcases hk with e | e
  · have hb := h.box
    unfold Box at hb
    rw [e, hb] at hc
    cases hc
  · obtain ⟨hl, ⟨hv, h0⟩ | ⟨g2, cap, cur, hv, hb, hh, hnc, hcm, hcs, ht⟩⟩ := h.own
    · rw [hv] at e; cases e
    · rw [hv] at e
      simp only [Value.ownBlock, Option.some.injEq] at e
      rw [e, hc] at hh
      cases hh
theorem But.setChan (w : World) (c cap : Nat) (buf : Array Value) (cl : Bool) (s r : Nat) (tm : Bool) : But (fun k => k = c) w (w.setChan c cap buf cl s r tm) :=
  ⟨rfl, rfl, rfl, by simp [World.setChan], fun k _ hn => by simp only [World.setChan]; rw [Array.getElem?_setIfInBounds_ne (fun e => hn e.symm)]⟩
theorem PsI.chd {w w' : World} {b : Nat} {P : Ps} {L : List Value} (h : PsI w b P) (hc : Inb w P L) (hb : But (fun k => k = P.ch) w w') : PsI w' b P :=
  h.kept fun k hk hl => hb.block k hl (h.ch_ne hc hk)
structure EmpQ (w : World) (P : Ps) (w' : World) : Prop where
  inb : Inb w' P []
  but : But (fun k => k = P.ch) w w'
def EmpR (w : World) (P : Ps) (e : Ending) (w' : World) : Prop := e = .returned (.tuple #[]) ∧ EmpQ w P w'
def loopOf : Code → Code
  | .block _ (.loop c) => c
  | _ => .skip
noncomputable def codeL : Code := loopOf (Try.f34.body.getD .skip)
set_option maxRecDepth 100000 in
set_option maxHeartbeats 4000000 in
theorem empty_loop (b : Nat) (P : Ps) (cs : List Frame) (w0 : World) : ∀ (L : List Value) (w : World) (t2 t3 t4 t5 t6 t7 t8 : Value), PsI w b P → Inb w P L → But (fun k => k = P.ch) w0 w →
    LoneTo Try.prog (fun g' w' => ∃ e fr, g' = G fr cs ∧ EmpR w0 P e w' ∧ fr.fn = 34 ∧ fr.leaving Try.prog w' e) (G ((base 34).at ⟨#[.pointer (some ⟨b, 0, none⟩), undef, t2, t3, t4, t5, t6, t7, t8], []⟩ [.code codeL, .inLoop codeL, .inBlock 0]) cs) w := by
  intro L
  induction L with
  | nil =>
    intro w t2 t3 t4 t5 t6 t7 t8 hI hc hb
    have c4 := hI.c4
    have bl := hI.box.lt
    have HB := hid hb
    have HC := hid hc
    obtain ⟨s, r, hc⟩ := hc.ch
    have HcW := hid hc
    clear hI hc hb
    refine LoneTo.goes (n := 40) ?_
    simp only [codeL, Try.f34, Option.getD_some, loopOf]
    s_c stepG_block
    s_c stepG_seq
    s_reg
    s_op
    s_op
    s_op
    s_op
    s_c stepG_region_end
    s_c stepG_seq
    s_reg
    s_stop
    refine LoneTo.step (step_lone_select_default (c := P.ch) (z := (.agg #[.int .i64 0, .int .i64 0, .slice none 0 0, .slice none 0 0, .slice none 0 0])) (cap := P.tasks.toNat) (s := s) (r := r) (tm := false) (stepG_comm (cases := #[rcase P.ch (.agg #[.int .i64 0, .int .i64 0, .slice none 0 0, .slice none 0 0, .slice none 0 0])]) (blocking := false) (shape := .select) (w' := w) rfl rfl (by decide) (by simp [go_sem, execOp, rcase, Act.eval])) HcW.out) ?_
    rw [Frame.finish_at]
    walk_nrm
    refine LoneTo.goes (n := 40) ?_
    s_op
    s_op
    s_c stepG_region_end
    s_c stepG_block
    s_cond false
    s_c stepG_ret'
    s_stop
    refine LoneTo.done ⟨.returned (.tuple #[]), _, rfl, ⟨rfl, HC.out, HB.out⟩, rfl, rfl, rfl, rfl, _, Try.func34, by simp [results, Try.f34, Frame.at, go_sem]⟩
  | cons v L ih =>
    intro w t2 t3 t4 t5 t6 t7 t8 hI hc hb
    have c4 := hI.c4
    have bl := hI.box.lt
    have HI := hid hI
    have HB := hid hb
    have HC := hid hc
    have hlc := hc.lt
    obtain ⟨s, r, hc⟩ := hc.ch
    have HcW := hid hc
    have HIH := hid ih
    clear hI hc hb ih
    refine LoneTo.goes (n := 40) ?_
    simp only [codeL, Try.f34, Option.getD_some, loopOf]
    s_c stepG_block
    s_c stepG_seq
    s_reg
    s_op
    s_op
    s_op
    s_op
    s_c stepG_region_end
    s_c stepG_seq
    s_reg
    s_stop
    refine LoneTo.step (step_lone_sel_recv_buf (k := 0) (c := P.ch) (z := (.agg #[.int .i64 0, .int .i64 0, .slice none 0 0, .slice none 0 0, .slice none 0 0])) (cap := P.tasks.toNat) (buf := (v :: L).toArray) (closed := false) (s := s) (r := r) (tm := false) (stepG_comm (cases := #[rcase P.ch (.agg #[.int .i64 0, .int .i64 0, .slice none 0 0, .slice none 0 0, .slice none 0 0])]) (blocking := false) (shape := .select) (w' := w) rfl rfl (by decide) (by simp [go_sem, execOp, rcase, Act.eval])) rfl (fun m c' hm hc' => by (rcases m with _ | m; exact absurd rfl hm; simp at hc')) HcW.out (by simp)) ?_
    rw [show commResult #[rcase P.ch (.agg #[.int .i64 0, .int .i64 0, .slice none 0 0, .slice none 0 0, .slice none 0 0])] .select (0 : Nat) ((v :: L).toArray.getD 0 undef) true = .tuple #[goInt 0, .bool true, v] by simp [commResult, rcase], show (v :: L).toArray.extract 1 (v :: L).toArray.size = L.toArray by simp]
    have hb2 := But.setChan w P.ch P.tasks.toNat L.toArray false s (r + 1) false
    have hI2 := HI.out.chd HC.out hb2
    have hc2 : Inb (w.setChan P.ch P.tasks.toNat L.toArray false s (r + 1) false) P L := ⟨s, r + 1, heap_setChan _ _ _ _ _ _ _ _ hlc⟩
    have HN := hid (And.intro hI2 (And.intro hc2 (HB.out.trans hb2)))
    clear hb2 hI2 hc2
    obtain ⟨W, hW⟩ : ∃ W, W = w.setChan P.ch P.tasks.toNat L.toArray false s (r + 1) false := ⟨_, rfl⟩
    rw [← hW] at HN ⊢
    clear hW
    rw [Frame.finish_at]
    walk_nrm
    refine LoneTo.goes (n := 40) ?_
    s_op
    s_op
    s_c stepG_region_end
    s_c stepG_block
    s_cond true
    s_c stepG_skip
    s_c stepG_inBlock
    s_c stepG_inBlock
    s_c stepG_inLoop
    s_stop
    exact HIH.out W _ _ _ _ _ _ _ HN.out.1 HN.out.2.1 HN.out.2.2
theorem empty_any (w : World) (b : Nat) (P : Ps) (L : List Value) (hI : PsI w b P) (hc : Inb w P L) : Calls Try.prog 34 #[.pointer (some ⟨b, 0, none⟩)] w fun e w' => EmpR w P e w' := by
  refine calls_of_loneTo (fun cs => ?_) (by rintro _ ⟨h, _⟩; cases h)
  have e : Frame.enter Try.prog 34 #[.pointer (some ⟨b, 0, none⟩)] .normal = (base 34).at ⟨#[.pointer (some ⟨b, 0, none⟩), undef, undef, undef, undef, undef, undef, undef, undef], []⟩ [.code (Try.f34.body.getD .skip)] := by
    simp [Frame.enter, Frame.at, Try.func34, base, Try.f34]
    try rfl
  rw [e]
  clear e
  have HL := hid (empty_loop b P cs w L w undef undef undef undef undef undef undef hI hc (But.refl _ _))
  clear hI hc
  refine LoneTo.goes (n := 4) ?_
  simp only [Try.f34, Option.getD_some]
  s_c stepG_block
  s_c stepG_loop
  s_stop
  exact HL.out
end Go.Proofs.Ytldkepokcbjlpaa
