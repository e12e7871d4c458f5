import Derived.Test.YtoefbcagokgfcaaUdE
import Derived.Test.YtoefbcagokgfcaaUcB
namespace Go.Proofs.Ytoefbcagokgfcaa
open Go.RowKit
set_option maxRecDepth 8000
def RListQ (w : World) (A : List FA) (e : Ending) (w' : World) : Prop := ∃ (p : Option Addr) (c : Nat), e = .returned (.slice p A.length c) ∧ FlsR w' p A ∧ Below w.heap.size w w'
/-- a row of flights of the call's own can be read -/
theorem OwnL.fls {base : Nat} {w : World} {v : Value} {n : Nat} {g : Nat → FY} {A : List FA} (h : OwnL elFY base w v n g) (hn : n ≤ 140737488355328) (hA : (List.range n).map (fun j => (g j).a) = A) : ∃ p c, v = .slice p A.length c ∧ FlsR w p A := by
  obtain ⟨p, c, hv, hin⟩ := h.in_ hn
  have hAl : A.length = n := by rw [← hA]; simp
  refine ⟨p, c, by rw [hAl]; exact hv, ⟨fun h0 => ?_⟩⟩
  obtain ⟨b, o, hp, _, hl, hat⟩ := hin.at_ (show 0 < n by omega)
  refine ⟨b, o, hp, hl, fun j a ha => ?_⟩
  have hj : j < n := by
    rcases Nat.lt_or_ge j n with h1 | h1
    · exact h1
    · rw [List.getElem?_eq_none (by omega)] at ha; cases ha
  have hg : (g j).a = a := by
    rw [← hA] at ha
    simp [List.getElem?_range hj] at ha
    exact ha
  have e0 := hat j hj 0 _ rfl
  have e1 := hat j hj 1 _ rfl
  have e2 := hat j hj 2 _ rfl
  have hin2 : Byts w _ (g j).y.p (g j).y.n (g j).y.c (g j).y.f := hin.each j hj
  have hyl : a.zs.length = (g j).y.n := by rw [← hg]; exact BY.len _
  refine ⟨(g j).y.p, (g j).y.c, ?_, ?_, ?_, ?_⟩
  · rw [← hg]; exact e0
  · rw [← hg]; exact e1
  · rw [hyl]; exact e2
  · have := BY.src hin2
    rw [← hg]; exact this
set_option maxHeartbeats 8000000 in
/-- the reference's List -/
theorem rlist_any (w : World) (Z : Nat → Prop) (rb : Nat) (m : Int) (A : List FA) (N : Nat) (hA : RfA w Z rb m A N) (hN : N * 48 ≤ 140737488355328) (hA2 : A.length ≤ 1000) :
    Calls Try.prog 39 #[.pointer (some ⟨rb, 0, none⟩)] w fun e w' => RListQ w A e w' := by
  obtain ⟨i0, Kd⟩ := kindFl
  obtain ⟨v0, P, hI, hPA, hPN⟩ := hA
  obtain ⟨p0, c0, hv⟩ := ownsRow_slice hI.row
  subst hv
  have HKd := hid Kd
  have HI := hid hI
  have HPA := hid hPA
  have hPl : P.length ≤ 140737488355328 := by omega
  clear hI hPA Kd
  go_enter Try.func39, Try.ntmps39
  go_wp2_with fail
  go_loopw [3, 4] (fun v x wr => ∃ (k n : Nat) (g : Nat → FY), k ≤ P.length ∧ x = .int .i64 (k : Int) ∧ n ≤ 1000 ∧ OwnL elFY w.heap.size wr v n g ∧ (List.range n).map (fun j => (g j).a) = infl (P.take k) ∧ Below w.heap.size w wr) (fun _ x _ => P.length - (intOf x).toNat)
  case atStart => exact ⟨0, 0, fun _ => ⟨0, 0, ⟨none, 0, 0, fun _ => 0⟩⟩, by omega, rfl, by omega, ⟨World.ownsRow_nil _ _ _ _, fun j hj => absurd hj (by omega)⟩, by simp [infl], Below.refl _ _⟩
  case round =>
    obtain ⟨k, n, g, hk, rfl, hn, hO, hg, hbw⟩ := hrel
    obtain ⟨v, hv⟩ : ∃ v, v = u3 := ⟨_, rfl⟩
    rw [← hv] at hO ⊢
    clear hv
    have HO := hid hO
    have HG := hid hg
    have HBw := hid hbw
    have HIr := hid (HI.out.but (But.ofBelow hbw) (fun _ _ h => h))
    clear hO hg hbw
    by_cases hlt : k < P.length
    · have hlt' : (k : Int) < (P.length : Int) := by omega
      obtain ⟨x, hx⟩ : ∃ x, P[k]? = some x := ⟨_, List.getElem?_eq_getElem hlt⟩
      obtain ⟨gb, cap, hv, hgl, x0, x1, x2, x3, _⟩ := HIr.out.get hx
      have hp0 : p0 = some ⟨gb, 0, none⟩ := (Value.slice.inj hv).1
      have b1 := HIr.out.bx.cell 1
      simp [hp0] at b1
      have bl := HIr.out.bx.lt
      have HX := hid hx
      have HT := hid (infl_take hx)
      clear hx hv
      cases ho : x.out with
      | true =>
        rw [ho] at x3
        have HNx : Hid ((List.range n).map (fun j => (g j).a) = infl (P.take (k + 1))) := by
          show _ = _
          rw [HT.out, ho, HG.out]
          simp
        clear ho
        go_wp2
        first
          | exact ⟨⟨k + 1, n, g, by omega, by go_num, hn, HO.out, HNx.out, HBw.out⟩, by simp [intOf]; omega⟩
          | (go_roundw
             case rel => exact ⟨k + 1, n, g, by omega, by go_num, hn, HO.out, HNx.out, HBw.out⟩
             case measure => simp [intOf]; omega)
      | false =>
        rw [ho] at x3
        have HNx : Hid ((List.range n).map (fun j => (g j).a) ++ [x.a] = infl (P.take (k + 1))) := by
          show _ = _
          rw [HT.out, ho, HG.out]
          simp
        have hn2 : n + 1 ≤ 1000 := by
          have h1 := congrArg List.length HNx.out
          have h2 : (infl (P.take (k + 1))).length ≤ (infl P).length := by
            have h3 := infl_app (P.take (k + 1)) (P.drop (k + 1))
            rw [List.take_append_drop] at h3
            rw [h3, List.length_append]
            omega
          rw [HPA.out] at h2
          simp at h1
          omega
        clear ho
        obtain ⟨V, hV⟩ : ∃ V, V = wr.alloc (.cells #[.int .i64 x.fr, .int .i64 x.tt, .slice x.y.p x.y.n x.y.c, .bool false] 90) := ⟨_, rfl⟩
        have hBV : Below wr.heap.size wr V := by rw [hV]; exact (Below.refl _ _).alloc (Nat.le_refl _) _
        have hY : Box V wr.heap.size #[.int .i64 x.fr, .int .i64 x.tt, .slice x.y.p x.y.n x.y.c, .bool false] 90 := by rw [hV]; exact Box.new _ _ _
        have d0 := hY.cell 0
        have d1 := hY.cell 1
        have d2 := hY.cell 2
        simp at d0 d1 d2
        have dl := hY.lt
        have hmem := List.mem_of_getElem? HX.out
        have hyV : Byts V.drew (fun q => True) x.y.p x.y.n x.y.c x.y.f := by
          have h1 := ((HIr.out.dat x hmem).kept hBV.size fun q _ hl => hBV.block q hl).mono (S' := fun _ => True) fun _ _ _ => trivial
          exact ⟨h1.at_, h1.nc, h1.nn, h1.cc, h1.fit, h1.nil⟩
        have HFr := hid (fresh_any x.y.p x.y.n x.y.c x.y.f V.drew _ hyV)
        have HFit := hid hyV.fit
        have hsx := HIr.out.sz x hmem
        have hws := HBw.out.size
        have HVs : Hid (w.heap.size ≤ V.heap.size) := by show _ ≤ _; have := hBV.size; omega
        have HBv : Hid (Below w.heap.size w V) := HBw.out.trans (hBV.mono hws)
        have HOl : Hid (∀ wx, Below V.heap.size V wx → OwnL elFY w.heap.size wx v n g) := fun wx hx2 => HO.out.keep (Nat.le_trans hBV.size hx2.size) fun q _ hl => (hx2.block q (Nat.lt_of_lt_of_le hl hBV.size)).trans (hBV.block q hl)
        have HBn : Hid (∀ (w1 : World), Below V.heap.size V w1 → ∀ {p1 : Option Addr} {c1 : Nat}, w1.ownsRow V.heap.size 5 1 (.slice p1 x.y.n c1) x.y.n ((List.range x.y.n).map fun j => .int .u8 (x.y.f j)) → elFY.In (w1.alloc (.cells #[.int .i64 x.fr, .int .i64 x.tt, .slice p1 x.y.n c1] 32)) (fun b => w.heap.size ≤ b ∧ v.ownBlock ≠ some b) ⟨x.fr, x.tt, ⟨p1, x.y.n, c1, x.y.f⟩⟩) := fun w1 _ {p1 c1} ho1 => by
          have h1 := Byts.ofOwn ho1 (by omega) HFit.out
          have hal : Below w1.heap.size w1 (w1.alloc (.cells #[.int .i64 x.fr, .int .i64 x.tt, .slice p1 x.y.n c1] 32)) := (Below.refl _ _).alloc (Nat.le_refl _) _
          refine (h1.kept hal.size fun q _ hl => hal.block q hl).mono fun q hq _ => ⟨by have := HVs.out; omega, fun e => ?_⟩
          have := (HO.out.own.lt q e).2
          have := hBV.size
          omega
        have HV := hid hV
        clear hV hBV hY hmem hyV
        go_upto_region 7 with fail
        rw [← HV.out]
        refine wp_region_calmE 30 (fun wx => Below V.heap.size V wx) [(0, true), (1, true), (2, false), (3, true), (4, false), (5, true), (6, false)] (.one 7 true [(8, true)] (.one 9 true [] (.one 10 false [(11, true)] .done))) (by kernel_rfl) (by kernel_rfl) (Below.refl _ _).drew ?_
        refine wpPre_e rfl rfl (fun K1 hK1 => ?_)
        apply Exists.intro
        refine And.intro (fun wx hx => ?_) ?_
        · go_simp
          try rfl
        go_simp
        refine hK1 _ ?_
        clear hK1 K1
        refine wpPre_e rfl rfl (fun K1 hK1 => ?_)
        apply Exists.intro
        refine And.intro (fun wx hx => ?_) ?_
        · go_simp
          try rfl
        go_simp
        refine hK1 _ ?_
        clear hK1 K1
        refine wpPre_e rfl rfl (fun K1 hK1 => ?_)
        apply Exists.intro
        refine And.intro (fun wx hx => ?_) ?_
        · have e0 := below_fact hx rfl d0
          have e1 := below_fact hx rfl d1
          have e2 := below_fact hx rfl d2
          go_simp
          try rfl
        go_simp
        refine hK1 _ ?_
        clear hK1 K1
        refine wpPre_e rfl rfl (fun K1 hK1 => ?_)
        apply Exists.intro
        refine And.intro (fun wx hx => ?_) ?_
        · go_simp
          try rfl
        go_simp
        refine hK1 _ ?_
        clear hK1 K1
        refine wpPre_e rfl rfl (fun K1 hK1 => ?_)
        apply Exists.intro
        refine And.intro (fun wx hx => ?_) ?_
        · have e0 := below_fact hx rfl d0
          have e1 := below_fact hx rfl d1
          have e2 := below_fact hx rfl d2
          go_simp
          try rfl
        go_simp
        refine hK1 _ ?_
        clear hK1 K1
        refine wpPre_e rfl rfl (fun K1 hK1 => ?_)
        apply Exists.intro
        refine And.intro (fun wx hx => ?_) ?_
        · go_simp
          try rfl
        go_simp
        refine hK1 _ ?_
        clear hK1 K1
        refine wpPre_e rfl rfl (fun K1 hK1 => ?_)
        apply Exists.intro
        refine And.intro (fun wx hx => ?_) ?_
        · have e0 := below_fact hx rfl d0
          have e1 := below_fact hx rfl d1
          have e2 := below_fact hx rfl d2
          go_simp
          try rfl
        go_simp
        refine hK1 _ ?_
        clear hK1 K1
        refine wpPre_nil ?_
        refine wpTr_e rfl (fun K1 hK1 => ?_)
        refine step_call rfl 47 #[.tmp 37] _ rfl Try.f47 Try.func47 (by kernel_rfl) rfl #[.slice x.y.p x.y.n x.y.c] rfl _ HFr.out ?_
        rintro e1 w1 ⟨p1, c1, rfl, ho1, hb1⟩
        refine ⟨_, rfl, ?_⟩
        have HB1 : Hid (Below V.heap.size V w1) := ((Below.refl _ _).drew).trans hb1
        have HO1 := hid ho1
        clear ho1 hb1
        go_simp
        refine hK1 _ _ (fun _ => HB1.out) ?_
        clear hK1 K1
        refine wpPre_e rfl rfl (fun K1 hK1 => ?_)
        apply Exists.intro
        refine And.intro (fun wx hx => ?_) ?_
        · go_simp
          try rfl
        go_simp
        refine hK1 _ ?_
        clear hK1 K1
        refine wpPre_nil ?_
        refine wpTr_e rfl (fun K1 hK1 => ?_)
        go_simp
        refine hK1 _ _ (fun _ => HB1.out.alloc HB1.out.size _) ?_
        clear hK1 K1
        refine wpPre_nil ?_
        refine wpTr_e rfl (fun K1 hK1 => ?_)
        have hT1 : Below V.heap.size V (w1.alloc (.cells #[.int .i64 x.fr, .int .i64 x.tt, .slice p1 x.y.n c1] 32)) := HB1.out.alloc HB1.out.size _
        have HT1 := hid hT1
        refine step_app rfl (.tmp 31) (.tmp 40) 36 32 i0 _ 3 40 HKd.out rfl w.heap.size v n _ rfl (HOl.out _ hT1).own ⟨w1.heap.size, 0, none⟩ 1 1 (elFY.cells ⟨x.fr, x.tt, ⟨p1, x.y.n, c1, x.y.f⟩⟩) rfl rfl ?_ (elFY.one _) (by omega) (by omega) (by have := HT1.out.size; have := HVs.out; omega) ?_
        · intro j u hu
          rw [cell_new, ← hu]
          simp [elFY]
        intro v3 w3 ho hg hn
        have HP3 := hid ((HOl.out _ HT1.out).push (u := ⟨x.fr, x.tt, ⟨p1, x.y.n, c1, x.y.f⟩⟩) (HBn.out w1 HB1.out HO1.out) ho hg hn)
        have HB3 : Hid (Below w.heap.size w w3) := (HBv.out.trans (HT1.out.mono HBv.out.size)).grown hg (by have := HT1.out.size; have := HVs.out; omega) (fun q hq => ((HOl.out _ HT1.out).own.lt q hq).1)
        obtain ⟨p3, c3, hv3⟩ := ownsRow_slice ho
        subst hv3
        clear ho hg hn hT1
        go_simp
        refine hK1 _ _ (fun h => by cases h) ?_
        clear hK1 K1
        refine wpPre_e rfl rfl (fun K1 hK1 => ?_)
        apply Exists.intro
        refine And.intro (fun wx hx => ?_) ?_
        · go_simp
          try rfl
        go_simp
        refine hK1 _ ?_
        clear hK1 K1
        refine wpPre_nil ?_
        refine wpTr_done ?_
        clear d0 d1 d2 x0 x1 x2 x3 b1
        have HN3 : Hid ((List.range (n + 1)).map (fun j => ((if j < n then g j else ⟨x.fr, x.tt, ⟨p1, x.y.n, c1, x.y.f⟩⟩ : FY)).a) = infl (P.take (k + 1))) := by
          show _ = _
          rw [← HNx.out, List.range_succ, List.map_append]
          congr 1
          · apply List.map_congr_left
            intro j hj
            rw [if_pos (List.mem_range.1 hj)]
          · simp [FY.a, PK.a, BY.zs]
        go_wp2
        go_roundw
        case rel => exact ⟨k + 1, n + 1, _, by omega, by go_num, hn2, HP3.out, HN3.out, HB3.out⟩
        case measure => simp [intOf]; omega
    · obtain rfl : k = P.length := by omega
      have HF : Hid (∃ p c, v = .slice p A.length c ∧ FlsR wr p A) := HO.out.fls (by omega) (by rw [HG.out, List.take_length, HPA.out])
      obtain ⟨p, c, hv, hf⟩ := HF.out
      subst hv
      have HFl := hid hf
      clear hf HF
      have b1 := HIr.out.bx.cell 1
      simp at b1
      have bl := HIr.out.bx.lt
      go_wp2
      exact bodyPost_ret (v := .slice p A.length c) (by simp [results, Try.results39, go_sem]) rfl ⟨p, c, rfl, HFl.out, HBw.out⟩
end Go.Proofs.Ytoefbcagokgfcaa
