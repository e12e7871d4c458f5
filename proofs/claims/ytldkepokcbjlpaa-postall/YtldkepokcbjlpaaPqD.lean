import Derived.Test.YtldkepokcbjlpaaPqC
import Derived.Test.YtldkepokcbjlpaaPpZ
import Derived.Laws.MakeOwn
namespace Go.Proofs.Ytldkepokcbjlpaa
open Go.RowKit Go.Conc
set_option maxRecDepth 60000
theorem rows_get (Q : Ps) : ∀ (T k r : Nat), k < T → r < 4 → (Q.rows T)[k * 4 + r]? = ((Q.pt k).cells)[r]?
  | 0, _, _, h, _ => absurd h (Nat.not_lt_zero _)
  | T + 1, k, r, h, hr => by
    have e : Q.rows (T + 1) = Q.rows T ++ (Q.pt T).cells := by unfold Ps.rows; rw [List.range_succ, List.flatMap_append]; simp
    rw [e]
    by_cases hk : k < T
    · rw [List.getElem?_append_left (by rw [Ps.rows_len]; omega)]
      exact rows_get Q T k r hk hr
    · obtain rfl : k = T := by omega
      rw [List.getElem?_append_right (by rw [Ps.rows_len]; omega), Ps.rows_len]
      congr 1
      omega
theorem part_row {w : World} {base T : Nat} {p : Option Addr} {c : Nat} {Q : Ps} (h : w.ownsRow base 39 4 (.slice p T c) T (Q.rows T)) {k : Nat} (hk : k < T) : ∃ pb, p = some ⟨pb, 0, none⟩ ∧ ∀ r u, ((Q.pt k).cells)[r]? = some u → w.cell? ⟨pb, k * 4 + r, none⟩ = some u := by
  have hce := @World.ownsRow.cells _ _ _ _ _ _ _ h
  obtain ⟨_, ⟨hv, h0⟩ | ⟨gb, cap, cur, hv, hbg, hh, hnc, hcm, hcs, htake⟩⟩ := id h
  · omega
  · simp only [Value.slice.injEq] at hv
    obtain ⟨rfl, _, rfl⟩ := hv
    refine ⟨gb, rfl, fun r u hu => ?_⟩
    have hr : r < 4 := by
      rcases Nat.lt_or_ge r 4 with h1 | h1
      · exact h1
      · rw [List.getElem?_eq_none (by simp [PtT.cells]; omega)] at hu; cases hu
    have h2 : (Q.rows T)[k * 4 + r]? = some u := by rw [← hu]; exact rows_get Q T k r hk hr
    have := hce (g := gb) rfl (k * 4 + r) u h2
    rw [Go.WideShapes.add_plain] at this
    rw [show k * 4 + r = 0 + (k * 4 + r) by omega]
    exact this
structure Fx (T : Nat) (A m : Int) (P : Ps) : Prop where
  t : P.tasks = (T : Int)
  f : P.first = A
  s : P.sum = m
  n : P.sts.n = 1
  u : P.under = A
theorem PtIn.below {w w' : World} {S : Nat → Prop} {t : PtT} (h : PtIn w S t) (hb : Below w.heap.size w w') : PtIn w' S t := h.kept hb.size (fun b _ hl => hb.block b hl)
theorem wrap_b (x : Int) : -9223372036854775808 ≤ wrap64 x ∧ wrap64 x ≤ 9223372036854775807 := by
  unfold wrap64
  omega
theorem RJ.num {w0 w : World} {b : Nat} {P : Ps} {ts : List (Nat × PtT)} {num num' : Nat → Int} {D : Nat → Prop} (h : RJ w0 w b P ts num D) (e : ∀ j, num j = num' j) : RJ w0 w b P ts num' D := by
  obtain rfl : num = num' := funext e
  exact h
theorem RJ.dnot {w0 w : World} {b db : Nat} {P : Ps} {ts : List (Nat × PtT)} {num : Nat → Int} {D : Nat → Prop} (h : RJ w0 w b P ts num D) (hd : D db) : ¬ (P.C b db ∨ db = P.ch) := fun e => by
  rcases e with e | e
  · exact (h.dl db hd).2.2.1 e
  · exact (h.dl db hd).2.2.2 e
theorem RJ.cons {w0 w : World} {b : Nat} {P : Ps} {ts : List (Nat × PtT)} {num : Nat → Int} {D : Nat → Prop} (h : RJ w0 w b P ts num D) (hp : ∀ t : Nat, (t : Int) < P.tasks → P.pl t = 1 ∨ P.pl t = 2) (hw : P.wants ≠ []) : ∃ q r, ts = q :: r := by
  obtain ⟨j, hj, h2⟩ := Ps.wantsU_some _ hw
  have hj' : (j : Int) < P.tasks := by omega
  have hm := h.pw j hj' ((hp j hj').resolve_right h2)
  cases ts with
  | nil => simp at hm
  | cons q r => exact ⟨q, r, rfl⟩
theorem RJ.wants1 {w0 w : World} {b : Nat} {P : Ps} {q : Nat × PtT} {ts : List (Nat × PtT)} {num : Nat → Int} {D : Nat → Prop} (h : RJ w0 w b P (q :: ts) num D) : (P.gath q.1 q.2).wants.length + 1 = P.wants.length := by
  obtain ⟨h1, h2⟩ := h.one q (List.mem_cons_self ..)
  have := Ps.wantsU_gath (P := P) (t := q.1) (x := q.2) (by rw [h2]; omega) P.tasks.toNat
  rw [if_pos (by omega)] at this
  exact this
theorem RJ.rest {w0 w : World} {b : Nat} {P : Ps} {q : Nat × PtT} {ts : List (Nat × PtT)} {num : Nat → Int} {D : Nat → Prop} (h : RJ w0 w b P (q :: ts) num D) (hw : (P.gath q.1 q.2).wants = []) : ts = [] :=
  (PInv.gath (P := P) (q := q) (ts := ts) h.nd h.one (fun e => by have := (h.un e).1; cases this) h.la q.2).2 hw
theorem made_false (T : Nat) : ∀ t, t < T → (madeCells (Value.bool false).cells T)[t]? = some (.bool false) := fun t ht => by
  simp [madeCells, Value.cells, ht, Nat.mod_one]
set_option maxHeartbeats 32000000 in
theorem round_walk (tasks first sum : Int) (op : Option Addr) (on oc : Nat) (of : Nat → Int) (w : World) (hin : Ints w (fun b => b < w.heap.size) op on oc of) : Calls Try.prog 4 #[.int .i64 tasks, .int .i64 first, .int .u32 sum, .slice op on oc] w fun e w' => e = .returned (.bool true) ∧ Below w.heap.size w w' := by
  have HI := hid hin
  have hnn := hin.nn
  clear hin
  obtain ⟨T, hT⟩ : ∃ T : Nat, fairT tasks = (T : Int) := ⟨(fairT tasks).toNat, by have := fairT_b tasks; omega⟩
  obtain ⟨A, hA⟩ : ∃ A, A = fairF first := ⟨_, rfl⟩
  have hT2 : 1 ≤ T ∧ T ≤ 12 := by have := fairT_b tasks; omega
  have hA2 := fairF_b first
  rw [← hA] at hA2
  obtain ⟨i0, hi0, hz0, hz1, hz2⟩ := info_parts (show (Try.prog.info? 4).map (fun i => (i.zero, i.size, i.bytes)) = some (some (.bool false), 1, 1) by kernel_rfl)
  obtain ⟨M0, hM0⟩ : ∃ M, M = madeCells (Value.bool false).cells (((T : Nat) : Int).toNat * i0.size) := ⟨_, rfl⟩
  have hmk : ∀ W : World, (Instr.makeSlice 54 (.int .i64 (T : Int)) (.int .i64 (T : Int))).run Try.prog W = .ok (.slice (some ⟨W.heap.size, 0, none⟩) T T) (W.alloc (.cells M0 4)) := fun W => by
    have h := run_make (P := Try.prog) W 54 4 i0 (.bool false) Try.underlying54 hi0 hz0 .i64 .i64 (T : Int) (T : Int) (by omega) (by omega) (by rw [hz2]; omega) (by omega)
    rw [← hM0] at h
    simpa using h
  rw [hz1, Nat.mul_one, Int.toNat_natCast] at hM0
  have HM0s : Hid (M0.size = T) := by unfold Hid; rw [hM0, size_madeCells]
  have HM0v : Hid (∀ t, t < T → M0[t]? = some (.bool false)) := by unfold Hid; rw [hM0]; exact made_false T
  clear hM0 hi0 hz0 hz1 hz2 i0
  go_enter Try.func4, Try.ntmps4
  go_wp2_with fail
  refine (fair_any tasks first w).mono ?_
  rintro e w1 ⟨rfl, rfl⟩
  rw [hT, ← hA]
  clear hT hA
  go_wp2_with fail
  refine (new_any (T : Int) A sum w1).mono ?_
  rintro e w2 hN
  obtain ⟨rfl, hI2, hc2, hb2⟩ := hN.y (by omega)
  have HJ2 := hid (RJ.new (Below.refl w1.heap.size w1) hI2 hc2 hb2 (fun t => (t : Int) + 1))
  obtain ⟨bb, hbb⟩ : ∃ x, x = w1.heap.size + 1 := ⟨_, rfl⟩
  obtain ⟨P2, hP2⟩ : ∃ x, x = Ps.new (T : Int) A sum w1.heap.size := ⟨_, rfl⟩
  have HP2 : Hid (P2.tasks = (T : Int) ∧ P2.first = A ∧ P2.sum = sum ∧ P2.sts.n = 0 ∧ P2.next = A ∧ P2.under = 0 ∧ ∀ t, P2.pl t = 0) := by
    unfold Hid
    rw [hP2]
    refine ⟨rfl, rfl, rfl, rfl, by show A + ((0 : Nat) : Int) = A; omega, ?_, fun _ => rfl⟩
    unfold Ps.under
    rw [if_neg]
    unfold Ps.stat
    rw [if_pos (.inl (by show A + ((0 : Nat) : Int) - 1 < A; omega))]
    omega
  rw [← hP2, ← hbb] at HJ2
  rw [← hbb]
  clear hN hI2 hc2 hb2 hP2 hbb
  have HTr := hid (trigger_any w2 bb P2 HJ2.out.i)
  go_wp2_with fail
  refine HTr.out.mono ?_
  rintro e w3 ⟨P3, hQ⟩
  have ht0 : P2.trigE = 0 := by
    unfold Ps.trigE
    rw [if_neg (by rw [HP2.out.2.2.2.2.2.1]; simp), if_neg (by rw [HP2.out.2.2.2.2.1]; omega)]
  obtain ⟨rfl, p3, c3, rfl⟩ := hQ.y ht0
  rw [HP2.out.2.2.2.2.1]
  have HJ3 := hid (HJ2.out.trig hQ.s HP2.out.2.2.2.2.2.1 (fun t => (t : Int) + 1)).2.2
  obtain ⟨P, hP⟩ : ∃ x, x = P2.push p3 c3 1 := ⟨_, rfl⟩
  have HFx0 : Hid (Fx T A sum P) := by
    unfold Hid
    rw [hP]
    have h := HP2.out
    refine ⟨h.1, h.2.1, h.2.2.1, by show P2.sts.n + 1 = 1; omega, ?_⟩
    unfold Ps.under
    have e1 : (P2.push p3 c3 1).next - 1 = P2.first + ((0 : Nat) : Int) := by show P2.first + ((P2.sts.n + 1 : Nat) : Int) - 1 = _; omega
    rw [e1]
    have e2 := (P2.push p3 c3 1).stat_at (k := 0) (by show 0 < P2.sts.n + 1; omega)
    have e3 : (P2.push p3 c3 1).stat (P2.first + ((0 : Nat) : Int)) = 1 := by
      refine e2.trans ?_
      show (if 0 < P2.sts.n then P2.sts.item 0 else 1) = 1
      rw [if_neg (by omega)]
    rw [if_pos e3]
    omega
  have Hpl0 : Hid (∀ t, P.pl t = 0) := by unfold Hid; rw [hP]; exact HP2.out.2.2.2.2.2.2
  rw [← hP] at HJ3
  clear hP hQ ht0 HTr HJ2 HP2
  obtain ⟨db, hdb⟩ : ∃ x, x = w3.heap.size := ⟨_, rfl⟩
  have HD0 : Hid (Box (w3.alloc (.cells M0 4)) db M0 4) := by unfold Hid; rw [hdb]; exact Box.new _ _ _
  obtain ⟨D, hD⟩ : ∃ D : Nat → Prop, D = fun k => k = db := ⟨_, rfl⟩
  have HJ4 : Hid (RJ w1 (w3.alloc (.cells M0 4)) bb P [] (fun t => (t : Int) + 1) (fun k => k = db)) := by
    have h := HJ3.out.below ((Below.refl w3.heap.size w3).alloc (Nat.le_refl _) (.cells M0 4))
    refine h.more (fun t _ => Hpl0.out t) (fun k hk => ?_) rfl _
    subst hk
    have h1 := HJ3.out.bel.size
    refine ⟨by omega, by rw [hdb]; simp, fun e => ?_, fun e => ?_⟩
    · have := HJ3.out.i.lt e; omega
    · have := HJ3.out.inb.lt; omega
  clear hD D
  have HDb := hid hdb
  clear hdb
  go_wp2_with fail
  rw [← HDb.out]
  clear hmk HDb HJ3
  go_loopw [14] (fun x wr => ∃ (k : Nat) (P : Ps) (ts : List (Nat × PtT)) (M : Array Value), k ≤ on + T ∧ x = .int .i64 (k : Int) ∧ RJ w1 wr bb P ts (fun t => (t : Int) + 1) (fun k => k = db) ∧ Fx T A sum P ∧ Box wr db M 4 ∧ M.size = T ∧ (∀ t, t < T → M[t]? = some (.bool (decide (P.pl t = 1)))) ∧ (∀ t, t < T → P.pl t = 0 ∨ P.pl t = 1) ∧ (∀ t, t < T → on + t < k → P.pl t = 1)) (fun x _ => on + T - (intOf x).toNat)
  case atStart => exact ⟨0, P, [], M0, Nat.zero_le _, rfl, HJ4.out, HFx0.out, HD0.out, HM0s.out, fun t ht => by rw [Hpl0.out t]; exact HM0v.out t ht, fun t _ => .inl (Hpl0.out t), fun t _ h => absurd h (by omega)⟩
  case round =>
    clear HJ4 HFx0 HD0 HM0s HM0v Hpl0
    clear P
    obtain ⟨k, P, ts, M, hk, rfl, hJ, hFx, hD, hMs, hMv, hp01, hpd⟩ := hrel
    have HJ := hid hJ
    have HFx := hid hFx
    have HD := hid hD
    have HMs := hid hMs
    have HMv := hid hMv
    have Hp01 := hid hp01
    have Hpd := hid hpd
    have hbl := hJ.i.box.lt
    clear hJ hFx hD hMs hMv hp01 hpd
    have hws : IntKind.i64.wrap ((on : Int) + (T : Int)) = (on : Int) + (T : Int) := by rw [IntKind.wrap_i64]; omega
    by_cases hlt : k < on + T
    · have hlt' : (k : Int) < (on : Int) + (T : Int) := by omega
      have hwd : IntKind.i64.wrap ((k : Int) - (on : Int)) = (k : Int) - (on : Int) := by rw [IntKind.wrap_i64]; omega
      by_cases hko : k < on
      · have hko' : (k : Int) - (on : Int) < 0 := by omega
        have hk2 : (k : Int) < (on : Int) := by omega
        obtain ⟨gb, o, hp, hSb, hgb, hat⟩ := HI.out.at_ (by omega)
        have c0 := (World.cell?_of_block (a := ⟨gb, o + k, none⟩) (HJ.out.bel.block gb hgb)).trans (hat k hko)
        obtain ⟨tv, htv⟩ : ∃ x, x = of k := ⟨_, rfl⟩
        have hfit := HI.out.fit k hko
        rw [← htv] at c0 hfit
        rw [hp]
        clear hat htv
        have hwb := wrap_b (tv + 1)
        have HPt := hid (part_any (wrap64 (tv + 1)) hwb wr)
        clear hwb
        go_wp2_with fail
        refine HPt.out.mono ?_
        rintro e w5 ⟨x5, rfl, hx5, hsz5, hin5, hb5⟩
        have HJ5 := hid (HJ.out.below hb5)
        have HH := hid (hand_any A tv x5 (fun k => wr.heap.size ≤ k) (lets ts) w5 bb P HJ5.out.i HJ5.out.inb hin5 hsz5 (fun h => HJ5.out.inv.room h))
        have HX5 := hid hx5
        have HD5 := hid (HD.out.below hb5)
        clear hx5 hsz5 hin5 hb5 HPt
        by_cases t0 : tv < 0
        · have HR : Hid (P.refE A tv = 144) := by unfold Hid Ps.refE; rw [if_pos (.inl t0)]
          have t0' : ¬ (0 : Int) ≤ tv := by omega
          go_wp2_with fail
          refine HH.out.mono ?_
          rintro e w6 ⟨P6, L6, hQ⟩
          obtain rfl := hQ.r
          obtain ⟨rfl, hJ6⟩ := HJ5.out.refused hQ (by rw [HR.out]; omega)
          have HJ6 := hid hJ6
          have HD6 := hid (HD5.out.kept (hQ.s.but.block _ HD5.out.lt (HJ5.out.dnot rfl)))
          rw [HR.out]
          clear hQ hJ6 HH t0
          go_wp2
          go_roundw
          case rel => exact ⟨k + 1, P6, ts, M, by omega, by go_num, HJ6.out, HFx.out, HD6.out, HMs.out, HMv.out, Hp01.out, fun t ht hk => Hpd.out t ht (by omega)⟩
          case measure => simp [intOf]; omega
        by_cases t1 : (T : Int) ≤ tv
        · have HR : Hid (P.refE A tv = 144) := by unfold Hid Ps.refE; rw [if_pos (.inr (by rw [HFx.out.t]; exact t1))]
          have t0' : (0 : Int) ≤ tv := by omega
          have t1' : ¬ tv < (T : Int) := by omega
          go_wp2_with fail
          refine HH.out.mono ?_
          rintro e w6 ⟨P6, L6, hQ⟩
          obtain rfl := hQ.r
          obtain ⟨rfl, hJ6⟩ := HJ5.out.refused hQ (by rw [HR.out]; omega)
          have HJ6 := hid hJ6
          have HD6 := hid (HD5.out.kept (hQ.s.but.block _ HD5.out.lt (HJ5.out.dnot rfl)))
          rw [HR.out]
          clear hQ hJ6 HH t0 t1
          go_wp2
          go_roundw
          case rel => exact ⟨k + 1, P6, ts, M, by omega, by go_num, HJ6.out, HFx.out, HD6.out, HMs.out, HMv.out, Hp01.out, fun t ht hk => Hpd.out t ht (by omega)⟩
          case measure => simp [intOf]; omega
        obtain ⟨i, hi⟩ : ∃ i : Nat, tv = (i : Int) := ⟨(tv).toNat, by omega⟩
        have HI := hid hi
        rw [hi] at HH ⊢
        rw [hi] at HX5
        have hiT : i < T := by omega
        have t0' : (0 : Int) ≤ (i : Int) := by omega
        have t1' : (i : Int) < (T : Int) := by omega
        have hi12 : (i : Int) < 12 := by omega
        have hwi : wrap64 ((i : Int) + 1) = (i : Int) + 1 := by unfold wrap64; omega
        rw [hwi] at HX5 ⊢
        clear hwi hi t0 t1
        by_cases hp : P.pl i = 1
        · have HR : Hid (P.refE A (i : Int) = 145) := by
            unfold Hid Ps.refE
            rw [if_neg (by rw [HFx.out.t]; omega), if_neg (by rw [HFx.out.u]; omega), if_pos (by rw [Int.toNat_natCast, hp]; omega)]
          have d0 := HMv.out i hiT
          rw [decide_eq_true hp] at d0
          have HP1 := hid hp
          clear hp
          go_wp2_with fail
          refine HH.out.mono ?_
          rintro e w6 ⟨P6, L6, hQ⟩
          obtain rfl := hQ.r
          obtain ⟨rfl, hJ6⟩ := HJ5.out.refused hQ (by rw [HR.out]; omega)
          have HJ6 := hid hJ6
          have hd6 := HD5.out.kept (hQ.s.but.block _ HD5.out.lt (HJ5.out.dnot rfl))
          have c0 := (hd6.cell i).trans d0
          have dl := hd6.lt
          have HD6 := hid hd6
          rw [HR.out]
          clear hQ hJ6 HH hd6 d0
          go_wp2
          go_roundw
          case rel => exact ⟨k + 1, P6, ts, M, by omega, by go_num, HJ6.out, HFx.out, HD6.out, HMs.out, HMv.out, Hp01.out, fun t ht hk => by
            have hI := HI.out
            exact Hpd.out t ht (by omega)⟩
          case measure => simp [intOf]; omega
        have hp0 : P.pl i = 0 := (Hp01.out i hiT).resolve_right hp
        have HR : Hid (P.refE A (i : Int) = 0) := by
          unfold Hid Ps.refE
          rw [if_neg (by rw [HFx.out.t]; omega), if_neg (by rw [HFx.out.u]; omega), if_neg (by rw [Int.toNat_natCast, hp0]; simp)]
        have d0 := HMv.out i hiT
        rw [decide_eq_false hp] at d0
        clear hp hp0
        go_wp2_with fail
        refine HH.out.mono ?_
        rintro e w6 ⟨P6, L6, hQ⟩
        obtain rfl := hQ.r
        obtain ⟨i', u6, hii, _, rfl, hJ6⟩ := HJ5.out.hand hQ HR.out HX5.out
        obtain rfl : i = i' := by omega
        have HJ6 := hid (hJ6.num (num' := fun j => (j : Int) + 1) (fun j => by by_cases e : j = i; rw [if_pos e, e]; rw [if_neg e]))
        have hd6 := HD5.out.kept (hQ.s.but.block _ HD5.out.lt (HJ5.out.dnot rfl))
        have c0 := (hd6.cell i).trans d0
        have f0 := hd6.frozen i
        have dl := hd6.lt
        have HD7 := hid (hd6.set i (.bool true))
        have HJ7 := hid (HJ6.out.put ((But.one w6 db).setAt i (.bool true)))
        have HM7 : Hid (∀ t, t < T → (M.setIfInBounds i (.bool true))[t]? = some (.bool (decide ((P.hand i).pl t = 1)))) := fun t ht => by
          rw [Array.getElem?_setIfInBounds]
          show _ = some (Value.bool (decide ((if t = i then (1 : Int) else P.pl t) = 1)))
          by_cases e : i = t
          · rw [if_pos e, if_pos (by rw [HMs.out]; omega), if_pos e.symm]
            rfl
          · rw [if_neg e, if_neg (fun h => e h.symm)]
            exact HMv.out t ht
        have Hq01 : Hid (∀ t, t < T → (P.hand i).pl t = 0 ∨ (P.hand i).pl t = 1) := fun t ht => by
          show (if t = i then (1 : Int) else P.pl t) = 0 ∨ (if t = i then (1 : Int) else P.pl t) = 1
          by_cases e : t = i
          · rw [if_pos e]; exact .inr rfl
          · rw [if_neg e]; exact Hp01.out t ht
        rw [HR.out]
        clear hQ hJ6 HH hd6 d0 hii
        go_wp2
        go_roundw
        case rel => exact ⟨k + 1, P.hand i, ts ++ [(i, u6)], M.setIfInBounds i (.bool true), by omega, by go_num, HJ7.out, ⟨HFx.out.t, HFx.out.f, HFx.out.s, HFx.out.n, HFx.out.u⟩, HD7.out, by rw [Array.size_setIfInBounds]; exact HMs.out, HM7.out, Hq01.out, fun t ht hk => by
          have hI := HI.out
          show (if t = i then (1 : Int) else P.pl t) = 1
          by_cases e2 : t = i
          · rw [if_pos e2]
          · rw [if_neg e2]; exact Hpd.out t ht (by omega)⟩
        case measure => simp [intOf]; omega
      · have hko' : ¬ (k : Int) - (on : Int) < 0 := by omega
        have hko3 := hid hko
        have hwb : -9223372036854775808 ≤ ((k : Int) - (on : Int)) + 1 ∧ ((k : Int) - (on : Int)) + 1 ≤ 9223372036854775807 := by omega
        have HPt := hid (part_any (((k : Int) - (on : Int)) + 1) hwb wr)
        clear hwb
        go_wp2_with fail
        refine HPt.out.mono ?_
        rintro e w5 ⟨x5, rfl, hx5, hsz5, hin5, hb5⟩
        have HJ5 := hid (HJ.out.below hb5)
        have HH := hid (hand_any A ((k : Int) - (on : Int)) x5 (fun k => wr.heap.size ≤ k) (lets ts) w5 bb P HJ5.out.i HJ5.out.inb hin5 hsz5 (fun h => HJ5.out.inv.room h))
        have HX5 := hid hx5
        have HD5 := hid (HD.out.below hb5)
        clear hx5 hsz5 hin5 hb5 HPt
        obtain ⟨i, hi⟩ : ∃ i : Nat, ((k : Int) - (on : Int)) = (i : Int) := ⟨(((k : Int) - (on : Int))).toNat, by omega⟩
        have HI := hid hi
        rw [hi] at HH ⊢
        rw [hi] at HX5
        have hiT : i < T := by omega
        have t0' : (0 : Int) ≤ (i : Int) := by omega
        have t1' : (i : Int) < (T : Int) := by omega
        have hi12 : (i : Int) < 12 := by omega
        clear hi
        by_cases hp : P.pl i = 1
        · have HR : Hid (P.refE A (i : Int) = 145) := by
            unfold Hid Ps.refE
            rw [if_neg (by rw [HFx.out.t]; omega), if_neg (by rw [HFx.out.u]; omega), if_pos (by rw [Int.toNat_natCast, hp]; omega)]
          have d0 := HMv.out i hiT
          rw [decide_eq_true hp] at d0
          have HP1 := hid hp
          clear hp
          go_wp2_with fail
          refine HH.out.mono ?_
          rintro e w6 ⟨P6, L6, hQ⟩
          obtain rfl := hQ.r
          obtain ⟨rfl, hJ6⟩ := HJ5.out.refused hQ (by rw [HR.out]; omega)
          have HJ6 := hid hJ6
          have hd6 := HD5.out.kept (hQ.s.but.block _ HD5.out.lt (HJ5.out.dnot rfl))
          have c0 := (hd6.cell i).trans d0
          have dl := hd6.lt
          have HD6 := hid hd6
          rw [HR.out]
          clear hQ hJ6 HH hd6 d0
          go_wp2
          go_roundw
          case rel => exact ⟨k + 1, P6, ts, M, by omega, by go_num, HJ6.out, HFx.out, HD6.out, HMs.out, HMv.out, Hp01.out, fun t ht hk => by
            have hI := HI.out
            have hT9 := hko3.out
            rcases (show t = i ∨ on + t < k by omega) with e | e
            · rw [e]; exact HP1.out
            · exact Hpd.out t ht (by omega)⟩
          case measure => simp [intOf]; omega
        have hp0 : P.pl i = 0 := (Hp01.out i hiT).resolve_right hp
        have HR : Hid (P.refE A (i : Int) = 0) := by
          unfold Hid Ps.refE
          rw [if_neg (by rw [HFx.out.t]; omega), if_neg (by rw [HFx.out.u]; omega), if_neg (by rw [Int.toNat_natCast, hp0]; simp)]
        have d0 := HMv.out i hiT
        rw [decide_eq_false hp] at d0
        clear hp hp0
        go_wp2_with fail
        refine HH.out.mono ?_
        rintro e w6 ⟨P6, L6, hQ⟩
        obtain rfl := hQ.r
        obtain ⟨i', u6, hii, _, rfl, hJ6⟩ := HJ5.out.hand hQ HR.out HX5.out
        obtain rfl : i = i' := by omega
        have HJ6 := hid (hJ6.num (num' := fun j => (j : Int) + 1) (fun j => by by_cases e : j = i; rw [if_pos e, e]; rw [if_neg e]))
        have hd6 := HD5.out.kept (hQ.s.but.block _ HD5.out.lt (HJ5.out.dnot rfl))
        have c0 := (hd6.cell i).trans d0
        have f0 := hd6.frozen i
        have dl := hd6.lt
        have HD7 := hid (hd6.set i (.bool true))
        have HJ7 := hid (HJ6.out.put ((But.one w6 db).setAt i (.bool true)))
        have HM7 : Hid (∀ t, t < T → (M.setIfInBounds i (.bool true))[t]? = some (.bool (decide ((P.hand i).pl t = 1)))) := fun t ht => by
          rw [Array.getElem?_setIfInBounds]
          show _ = some (Value.bool (decide ((if t = i then (1 : Int) else P.pl t) = 1)))
          by_cases e : i = t
          · rw [if_pos e, if_pos (by rw [HMs.out]; omega), if_pos e.symm]
            rfl
          · rw [if_neg e, if_neg (fun h => e h.symm)]
            exact HMv.out t ht
        have Hq01 : Hid (∀ t, t < T → (P.hand i).pl t = 0 ∨ (P.hand i).pl t = 1) := fun t ht => by
          show (if t = i then (1 : Int) else P.pl t) = 0 ∨ (if t = i then (1 : Int) else P.pl t) = 1
          by_cases e : t = i
          · rw [if_pos e]; exact .inr rfl
          · rw [if_neg e]; exact Hp01.out t ht
        rw [HR.out]
        clear hQ hJ6 HH hd6 d0 hii
        go_wp2
        go_roundw
        case rel => exact ⟨k + 1, P.hand i, ts ++ [(i, u6)], M.setIfInBounds i (.bool true), by omega, by go_num, HJ7.out, ⟨HFx.out.t, HFx.out.f, HFx.out.s, HFx.out.n, HFx.out.u⟩, HD7.out, by rw [Array.size_setIfInBounds]; exact HMs.out, HM7.out, Hq01.out, fun t ht hk => by
          have hI := HI.out
          show (if t = i then (1 : Int) else P.pl t) = 1
          have hT9 := hko3.out
          by_cases e2 : t = i
          · rw [if_pos e2]
          · rw [if_neg e2]; exact Hpd.out t ht (by omega)⟩
        case measure => simp [intOf]; omega
    · obtain rfl : k = on + T := by omega
      have hlt' : ¬ ((on + T : Nat) : Int) < (on : Int) + (T : Int) := by omega
      have Hp12 : Hid (∀ t : Nat, (t : Int) < P.tasks → P.pl t = 1 ∨ P.pl t = 2) := fun t ht => by
        rw [HFx.out.t] at ht
        exact .inl (Hpd.out t (by omega) (by omega))
      have HWl : Hid (P.wants.length + 1 = T + 1) := by
        unfold Hid
        rw [Ps.wants, Ps.wantsU_all _ (fun j hj => ?_), HFx.out.t, Int.toNat_natCast]
        rw [HFx.out.t, Int.toNat_natCast] at hj
        rw [Hpd.out j hj (by omega)]
        omega
      clear HD HMs HMv Hp01 Hpd hlt
      go_wp2_with fail
      go_loopw [18] (fun x wr => ∃ (k : Nat) (P : Ps) (ts : List (Nat × PtT)), 1 ≤ k ∧ k ≤ T ∧ x = .int .i64 (k : Int) ∧ RJ w1 wr bb P ts (fun t => (t : Int) + 1) (fun k => k = db) ∧ Fx T A sum P ∧ (∀ t : Nat, (t : Int) < P.tasks → P.pl t = 1 ∨ P.pl t = 2) ∧ P.wants.length + k = T + 1) (fun x _ => T - (intOf x).toNat)
      case atStart => exact ⟨1, P, ts, Nat.le_refl _, by omega, rfl, HJ.out, HFx.out, Hp12.out, HWl.out⟩
      case round =>
        clear HJ HFx Hp12 HWl hk hws hlt' hbl
        clear ts P M
        obtain ⟨k, P, ts, hk1, hk, rfl, hJ, hFx, hp12, hwl⟩ := hrel
        obtain ⟨q, ts, rfl⟩ := hJ.cons hp12 (fun e => by rw [e] at hwl; simp at hwl; omega)
        have HJ := hid hJ
        have HFx := hid hFx
        have Hp12 := hid hp12
        have hbl := hJ.i.box.lt
        have hw1 := hJ.wants1
        have h12 : q.1 < 12 := by have := (hJ.one q (List.mem_cons_self ..)).1; have := hFx.t; omega
        have HPk := hid (pick_some q.1 h12 q.2 (lets ts) wr bb P hJ.i hJ.inb (by rw [hFx.n]; omega))
        clear hJ hFx hp12
        by_cases hlt : k < T
        · have hlt' : (k : Int) < (T : Int) := by omega
          have hne : ¬ (P.gath q.1 q.2).wants = [] := fun e => by rw [e] at hw1; simp at hw1; omega
          go_wp2_with fail
          refine HPk.out.mono ?_
          rintro e w5 ⟨P5, hQ⟩
          have hs := hQ.s
          obtain ⟨rfl, rfl⟩ := hQ.n hne
          have HJ5 := hid ((HJ.out.gath hs).1 rfl)
          have HJ6 := hid (HJ5.out.below ((Below.refl w5.heap.size w5).alloc (Nat.le_refl _) (.cells #[.int .i64 0, .int .u32 0, .slice none 0 0] 48)))
          have HW6 : Hid ((P.gath q.1 q.2).wants.length + (k + 1) = T + 1) := by unfold Hid; omega
          have Hq12 : Hid (∀ t : Nat, (t : Int) < (P.gath q.1 q.2).tasks → (P.gath q.1 q.2).pl t = 1 ∨ (P.gath q.1 q.2).pl t = 2) := fun t ht => by
            show (if t = q.1 then (2 : Int) else P.pl t) = 1 ∨ (if t = q.1 then (2 : Int) else P.pl t) = 2
            by_cases e : t = q.1
            · rw [if_pos e]; exact .inr rfl
            · rw [if_neg e]; exact Hp12.out t ht
          clear hQ HPk hs hw1 hwl hne
          go_wp2
          go_roundw
          case rel => exact ⟨k + 1, P.gath q.1 q.2, ts, by omega, by omega, by go_num, HJ6.out, ⟨HFx.out.t, HFx.out.f, HFx.out.s, HFx.out.n, HFx.out.u⟩, Hq12.out, HW6.out⟩
          case measure => simp [intOf]; omega
        · obtain rfl : k = T := by omega
          have hlt' : ¬ (k : Int) < (k : Int) := by omega
          have hne : (P.gath q.1 q.2).wants = [] := List.eq_nil_of_length_eq_zero (by omega)
          obtain rfl := HJ.out.rest hne
          go_wp2_with fail
          refine HPk.out.mono ?_
          rintro e w5 ⟨P5, hQ⟩
          have hs := hQ.s
          obtain ⟨rfl, pp, cp, T', hT', rfl, hrow⟩ := hQ.y hne
          obtain rfl : T' = k := by have := HFx.out.t; omega
          have HG := hid ((HJ.out.gath hs).2)
          have HAll := hid (Ps.wantsU_nil hne)
          have HJ5 := hid (HJ.out.fin (P1 := P.gath q.1 q.2) hs rfl (fun t => (t : Int) + 1))
          have HRow := hid hrow
          rw [HFx.out.u, HFx.out.s]
          obtain ⟨Q, hQ9⟩ : ∃ Q, Q = P.gath q.1 q.2 := ⟨_, rfl⟩
          have HQ9 : Hid (Q.tasks = (T' : Int) ∧ Q.first = A ∧ Q.sts.n = 1) := by unfold Hid; rw [hQ9]; exact ⟨HFx.out.t, HFx.out.f, HFx.out.n⟩
          rw [← hQ9] at HG HAll HJ5 HRow
          clear hQ HPk hs hw1 hwl hne hrow hT' hQ9
          have hX6 := Box.new w5 #[.int .i64 A, .int .u32 sum, .slice pp T' cp] 48
          obtain ⟨w6, hw6⟩ : ∃ V, V = w5.alloc (.cells #[.int .i64 A, .int .u32 sum, .slice pp T' cp] 48) := ⟨_, rfl⟩
          have hb6 : Below w5.heap.size w5 w6 := by rw [hw6]; exact (Below.refl _ _).alloc (Nat.le_refl _) _
          rw [← hw6] at hX6
          have HJ6 := hid (HJ5.out.below hb6)
          have HB6 := hid hb6
          have HX6 := hid hX6
          have HW6 := hid hw6
          have s0 := hX6.cell 0
          have s1 := hX6.cell 1
          have s2 := hX6.cell 2
          have sl := hX6.lt
          simp at s0 s1 s2
          clear hw6 hb6 hX6
          go_upto_region 28 with fail
          rw [← HW6.out]
          go_wp2_with fail
          go_loopw [23] (fun x wr => ∃ (k : Nat), k ≤ T' ∧ x = .int .i64 (k : Int) ∧ Below w6.heap.size w6 wr) (fun x _ => T' - (intOf x).toNat)
          case atStart => exact ⟨0, Nat.zero_le _, rfl, Below.refl _ _⟩
          case round =>
            obtain ⟨k, hk9, rfl, hb⟩ := hrel
            have HBk := hid hb
            have s2 := (World.cell?_of_block (a := ⟨w5.heap.size, 2, none⟩) (hb.block _ sl)).trans s2
            have slr := Nat.lt_of_lt_of_le sl hb.size
            clear hb
            by_cases hlt9 : k < T'
            · have hlt9' : (k : Int) < (T' : Int) := by omega
              have hr := ownsRow_keep HRow.out (fun j _ hj => HB6.out.block j hj)
              have hr2 := ownsRow_keep hr (fun j _ hj => HBk.out.block j hj)
              obtain ⟨pb, hpb, hz⟩ := part_row hr2 hlt9
              subst hpb
              have z0 := hz 0 _ rfl
              have z1 := hz 1 _ rfl
              have z2 := hz 2 _ rfl
              have z3 := hz 3 _ rfl
              simp only [Nat.add_zero] at z0
              have hlp := (hr2.lt pb rfl).2
              have hg := HG.out k (by have := hT2.2; omega) (HAll.out k (by rw [HQ9.out.1]; omega))
              have HIs := hid hg.1
              have HIn : Hid (∀ V, Below wr.heap.size wr V → PtIn V (Out P bb (fun k => k = db)) (Q.pt k)) := fun V hV => ((hg.2.below HB6.out).below HBk.out).below hV
              have hwk : IntKind.i64.wrap ((k : Int) + 1) = (k : Int) + 1 := by rw [IntKind.wrap_i64]; omega
              have HPt : Hid (∀ V, Calls Try.prog 18 #[.int .i64 ((k : Int) + 1)] V fun e w' => PtNew ((k : Int) + 1) V e w') := fun V => part_any _ (by omega) V
              clear hr hr2 hz hg
              go_wp2_with fail
              refine wp_region_calmE 30 (fun wx => Below wr.heap.size wr wx) [(0, true), (1, false), (2, true), (3, true), (4, false), (5, true), (6, true)] (.one 7 true [] (.one 8 false [(9, true)] .done)) (by kernel_rfl) (by kernel_rfl) (Below.refl _ _).drew ?_
              refine wpPre_e rfl rfl (fun K1 hK1 => ?_)
              apply Exists.intro
              refine And.intro (fun wx hx => ?_) ?_
              · go_simp
                try rfl
              go_simp
              refine hK1 _ ?_
              clear hK1 K1
              refine wpPre_e rfl rfl (fun K1 hK1 => ?_)
              apply Exists.intro
              refine And.intro (fun wx hx => ?_) ?_
              · have e0 := below_fact hx rfl s2
                have e1 := below_fact hx rfl z0
                have e2 := below_fact hx rfl z1
                have e3 := below_fact hx rfl z2
                have e4 := below_fact hx rfl z3
                go_simp
                try rfl
              go_simp
              refine hK1 _ ?_
              clear hK1 K1
              refine wpPre_e rfl rfl (fun K1 hK1 => ?_)
              apply Exists.intro
              refine And.intro (fun wx hx => ?_) ?_
              · go_simp
                try rfl
              go_simp
              refine hK1 _ ?_
              clear hK1 K1
              refine wpPre_e rfl rfl (fun K1 hK1 => ?_)
              apply Exists.intro
              refine And.intro (fun wx hx => ?_) ?_
              · go_simp
                try rfl
              go_simp
              refine hK1 _ ?_
              clear hK1 K1
              refine wpPre_e rfl rfl (fun K1 hK1 => ?_)
              apply Exists.intro
              refine And.intro (fun wx hx => ?_) ?_
              · have e0 := below_fact hx rfl s2
                have e1 := below_fact hx rfl z0
                have e2 := below_fact hx rfl z1
                have e3 := below_fact hx rfl z2
                have e4 := below_fact hx rfl z3
                go_simp
                try rfl
              go_simp
              refine hK1 _ ?_
              clear hK1 K1
              refine wpPre_e rfl rfl (fun K1 hK1 => ?_)
              apply Exists.intro
              refine And.intro (fun wx hx => ?_) ?_
              · go_simp
                try rfl
              go_simp
              refine hK1 _ ?_
              clear hK1 K1
              refine wpPre_e rfl rfl (fun K1 hK1 => ?_)
              apply Exists.intro
              refine And.intro (fun wx hx => ?_) ?_
              · go_simp
                try rfl
              go_simp
              refine hK1 _ ?_
              clear hK1 K1
              refine wpPre_nil ?_
              refine wpTr_e rfl (fun K1 hK1 => ?_)
              refine step_call rfl 18 #[.tmp 155] _ rfl Try.f18 Try.func18 (by kernel_rfl) rfl #[.int .i64 ((k : Int) + 1)] rfl _ (HPt.out _) (fun e w9 h9 => ?_)
              obtain ⟨x9, rfl, hx9, _, hin9, hb9⟩ := h9
              refine ⟨_, rfl, ?_⟩
              have HB9 : Hid (Below wr.heap.size wr w9) := (Below.refl wr.heap.size wr).drew.trans hb9
              have HY := hid (yPart (Q.pt k) x9 w9 (Out P bb (fun k => k = db)) _ (HIn.out _ HB9.out) hin9 (HIs.out.two hx9 (HIn.out _ HB9.out)) HIs.out.cl)
              clear hb9 hx9 hin9
              go_simp
              refine hK1 _ _ (fun _ => HB9.out) ?_
              clear hK1 K1
              refine wpPre_nil ?_
              refine wpTr_e rfl (fun K1 hK1 => ?_)
              refine step_call rfl 19 #[.tmp 153, .tmp 156] _ rfl Try.f19 Try.func19 (by kernel_rfl) rfl #[.agg #[.int .i64 (Q.pt k).num, .slice (Q.pt k).cl.p (Q.pt k).cl.n (Q.pt k).cl.c, .slice (Q.pt k).lg.p (Q.pt k).lg.n (Q.pt k).lg.c, .slice (Q.pt k).pd.p (Q.pt k).pd.n (Q.pt k).pd.c], .agg #[.int .i64 x9.num, .slice x9.cl.p x9.cl.n x9.cl.c, .slice x9.lg.p x9.lg.n x9.lg.c, .slice x9.pd.p x9.pd.n x9.pd.c]] rfl _ HY.out (fun e w10 h10 => ?_)
              obtain ⟨rfl, hb10⟩ := h10
              refine ⟨_, rfl, ?_⟩
              have HB10 : Hid (Below wr.heap.size wr w10) := HB9.out.trans (hb10.mono HB9.out.size)
              clear hb10 HY
              go_simp
              refine hK1 _ _ (fun h => by cases h) ?_
              clear hK1 K1
              refine wpPre_e rfl rfl (fun K1 hK1 => ?_)
              apply Exists.intro
              refine And.intro (fun wx hx => ?_) ?_
              · go_simp
                try rfl
              go_simp
              refine hK1 _ ?_
              clear hK1 K1
              refine wpPre_nil ?_
              refine wpTr_done ?_
              go_wp2
              go_roundw
              case rel => exact ⟨k + 1, by omega, by go_num, HBk.out.trans (HB10.out.mono HBk.out.size)⟩
              case measure => simp [intOf]; omega
            · have hlt9' : ¬ (k : Int) < (T' : Int) := by omega
              have HJ9 := hid (HJ6.out.below HBk.out)
              obtain ⟨sc, rc, hch⟩ := HJ9.out.inb.ch
              have HPn := hid (pick_none wr bb _ HJ9.out.i _ sc rc hch)
              clear hch
              go_wp2_with fail
              refine HPn.out.mono ?_
              rintro e w9 ⟨rfl, hb9⟩
              have HJ10 := hid (HJ9.out.below hb9)
              have HJ11 := hid (HJ10.out.below ((Below.refl w9.heap.size w9).alloc (Nat.le_refl _) (.cells #[.int .i64 0, .int .u32 0, .slice none 0 0] 48)))
              have HSt := hid (Status_any A _ bb _ HJ11.out.i)
              have hSt : (Q.fin 2).stat A = 2 := by
                have h := (Q.fin 2).stat_at (k := 0) (by show 0 < Q.sts.n; rw [HQ9.out.2.2]; omega)
                have e1 : (Q.fin 2).first + ((0 : Nat) : Int) = A := by show Q.first + ((0 : Nat) : Int) = A; rw [HQ9.out.2.1]; omega
                rw [e1] at h
                rw [h]
                show (if 0 = Q.sts.n - 1 then (2 : Int) else _) = 2
                rw [if_pos (by rw [HQ9.out.2.2])]
              rw [hSt] at HSt
              clear hb9 HPn hSt
              go_wp2_with fail
              refine HSt.out.mono ?_
              rintro e w10 ⟨rfl, hb10⟩
              have HB10 := hid (HJ11.out.below hb10).bel
              clear hb10 HSt
              go_wp2
              exact bodyPost_ret (v := .bool true) (by simp [results, Try.results4, go_sem]) rfl ⟨rfl, HB10.out⟩
end Go.Proofs.Ytldkepokcbjlpaa
