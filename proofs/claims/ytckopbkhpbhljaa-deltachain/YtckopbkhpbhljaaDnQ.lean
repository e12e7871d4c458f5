import Derived.Test.YtckopbkhpbhljaaPack43
import Derived.Test.YtckopbkhpbhljaaDlT
namespace Go.Proofs.Ytckopbkhpbhljaa
open Go.RowKit
set_option maxRecDepth 8000

theorem DT.In.but {w w' : World} {S X : Nat → Prop} {d : DT} (h : DT.In w S d) (hb : But X w w') (hx : ∀ b, S b → b < w.heap.size → ¬ X b) : DT.In w' S d :=
  h.kept hb.size fun b hS hl => hb.block b hl (hx b hS hl)
theorem kindDl : ∃ i, Kind 46 30 i (.agg #[.int .i64 0, .slice none 0 0, .slice none 0 0]) 3 56 := by
  obtain ⟨i0, hi, hz0, hz1, hz2⟩ := info_parts (show (Try.prog.info? 30).map (fun i => (i.zero, i.size, i.bytes)) = some (some (.agg #[.int .i64 0, .slice none 0 0, .slice none 0 0]), 3, 56) by kernel_rfl)
  exact ⟨i0, Try.underlying46, hi, hz0, hz1, hz2, rfl, by decide⟩
/-- two states in a row -/
def pairS (k : Nat) : LT (Int × LT VT) := ⟨some ⟨k, 0, none⟩, 2, 2, fun j => if j = 0 then (0, nL) else (1, nL)⟩
theorem pairS_in {W : World} {k : Nat} {S : Nat → Prop} (h : Box W k #[.int .i64 0, .slice none 0 0, .int .i64 1, .slice none 0 0] 24) (hb : S k) : LT.In elS W S (pairS k) := by
  refine ⟨fun _ => ⟨k, 0, rfl, hb, h.lt, fun j hj r u hu => ?_⟩, fun j hj => ?_, by show 2 ≤ 2; omega, by show 2 ≤ _; omega, by show 2 ≤ maxLen; simp [maxLen], fun h => by cases h⟩
  · have hj3 : j < 2 := hj
    match j, hj3, r, hu with
    | 0, _, 0, hu => obtain rfl : _ = u := Option.some.inj hu; exact h.cell 0
    | 0, _, 1, hu => obtain rfl : _ = u := Option.some.inj hu; exact h.cell 1
    | 1, _, 0, hu => obtain rfl : _ = u := Option.some.inj hu; exact h.cell 2
    | 1, _, 1, hu => obtain rfl : _ = u := Option.some.inj hu; exact h.cell 3
  · have hj3 : j < 2 := hj
    match j, hj3 with
    | 0, _ => exact ⟨by show (-9223372036854775808 : Int) ≤ 0 ∧ (0 : Int) ≤ 9223372036854775807; omega, nL_in _ _⟩
    | 1, _ => exact ⟨by show (-9223372036854775808 : Int) ≤ 1 ∧ (1 : Int) ≤ 9223372036854775807; omega, nL_in _ _⟩
/-- the states as the statement takes them -/
def chS (L : LT (Int × LT VT)) (q : Nat) : Int × LT VT := snd (L.item q).1 (L.item q).2
theorem chS_ok (L : LT (Int × LT VT)) (q : Nat) : chkState ⟨(chS L q).1, (chS L q).2.p, (chS L q).2.n, (chS L q).2.c, (chS L q).2.item⟩ = 0 := snd_ok _ _
theorem chS_sz {L : LT (Int × LT VT)} {q : Nat} (h : CSz (L.item q).2) : CSz (chS L q).2 := snd_sz h
theorem chS_in {L : LT (Int × LT VT)} {q : Nat} {w : World} {S : Nat → Prop} (h : elS.In w S (L.item q)) : LT.In elCell w S (chS L q).2 := snd_in h.2
theorem nL_sz : CSz nL := ⟨by show 0 ≤ 10000; omega, fun j hj => absurd hj (by show ¬ j < 0; omega)⟩
set_option maxHeartbeats 32000000 in
theorem deltaChain_walk (l : LT (Int × LT VT)) (w : World) (hl : LT.In elS w (fun b => b < w.heap.size) l) (hn : l.n ≤ 1048576) :
    Calls Try.prog 6 #[.slice l.p l.n l.c] w fun r w' => r = .returned (.bool true) ∧ Below w.heap.size w w' := by
  have HSz := hid (szStates_any l w (fun b => b < w.heap.size) hl (fun b h => h))
  have HL := hid hl
  obtain ⟨i0, Kd⟩ := kindDl
  have HKd := hid Kd
  clear hl Kd
  go_enter Try.func6, Try.ntmps6
  go_wp2_with fail
  refine HSz.out.mono ?_
  rintro r w1 ⟨q, rfl, hq, hb1⟩
  have HQ := hid hq
  have HB1 := hid hb1
  clear hq hb1 HSz
  cases q with
  | false =>
    go_wp2
    exact bodyPost_ret (v := .bool true) (by simp [results, Try.results6, go_sem]) rfl ⟨rfl, HB1.out⟩
  | true =>
    go_wp2_with fail
    refine (plain_any w1).mono ?_
    rintro r w2 ⟨rfl, hb2⟩
    have HB2 := hid (HB1.out.trans (hb2.mono HB1.out.size))
    clear hb2 HB1
    go_upto_if 20 with fail
    go_cut [0] (fun s0 wx => ∃ L : LT (Int × LT VT), s0 = .slice L.p L.n L.c ∧ LT.In elS wx (fun b => b < wx.heap.size) L ∧ 2 ≤ L.n ∧ L.n ≤ 1048576 ∧ (∀ j, j < L.n → CSz (L.item j).2) ∧ Below w.heap.size w wx)
    case first =>
      by_cases h2 : l.n < 2
      · have h2' : (l.n : Int) < 2 := by omega
        go_wp2_with fail
        go_meet
        refine ⟨pairS w2.heap.size, rfl, pairS_in (Box.new _ _ _) (by simp), by show 2 ≤ 2; omega, by show 2 ≤ _; omega, fun j hj => ?_, HB2.out.trans (((Below.refl _ _).alloc (Nat.le_refl _) _).mono HB2.out.size)⟩
        show CSz (if j = 0 then ((0 : Int), nL) else (1, nL)).2
        split <;> exact nL_sz
      · have h2' : ¬ (l.n : Int) < 2 := by omega
        go_wp2_with fail
        go_meet
        exact ⟨l, rfl, (HL.out.below HB2.out).mono (fun b hb _ => Nat.lt_of_lt_of_le hb HB2.out.size), by omega, hn, HQ.out (by first | rfl | trivial), HB2.out⟩
    case rest =>
      obtain ⟨L, rfl, hL, hL2, hLm, hz, hbx⟩ := hcut
      obtain ⟨wx, hwc⟩ : ∃ x, x = wc := ⟨_, rfl⟩
      subst hwc
      have HI := hid hL
      have HZ := hid hz
      have HB := hid hbx
      clear hL hz hbx HQ HL HB2 hn
      go_wp2_with fail
      go_loopw [3, 4] (fun v x wr => ∃ (m : Nat) (g : Nat → DT), m + 1 ≤ L.n ∧ x = .int .i64 ((m : Int) + 1) ∧ OwnL elD wx.heap.size wr v m g ∧ (∀ q, q < m → Dfd (chS L q).2 (chS L (q + 1)).1 (chS L (q + 1)).2 (g q)) ∧ Below wx.heap.size wx wr) (fun _ x _ => L.n - (intOf x).toNat)
      case atStart => exact ⟨0, fun _ => ⟨0, nL, ⟨none, 0, 0, fun _ => ⟨#[]⟩⟩⟩, by omega, rfl, ⟨World.ownsRow_nil _ _ _ _, fun j hj => absurd hj (by omega)⟩, fun q hq => absurd hq (by omega), Below.refl _ _⟩
      case round =>
        obtain ⟨m, g, hm, rfl, hO, hg, hbw⟩ := hrel
        have HO := hid hO
        have HG := hid hg
        have HBw := hid hbw
        clear hO hg hbw
        obtain ⟨bb, o, hp, _, hbb, hat⟩ := HI.out.at_ (by omega)
        by_cases hlt : m + 1 < L.n
        · have hlt' : (m : Int) + 1 < (L.n : Int) := by omega
          have hlm : m < L.n := by omega
          have hce : ∀ i r u, i < L.n → (elS.cells (L.item i))[r]? = some u → wr.cell? ⟨bb, o + i * 2 + r, none⟩ = some u := fun i r u hi hu => (World.cell?_of_block (a := ⟨bb, o + i * 2 + r, none⟩) (HBw.out.block bb hbb)).trans (hat i hi r u hu)
          obtain ⟨an, a, hia⟩ : ∃ x y, L.item (m) = (x, y) := ⟨_, _, rfl⟩
          obtain ⟨cn1, a1, hs1⟩ : ∃ x y, chS L (m) = (x, y) := ⟨_, _, rfl⟩
          have hs1' : snd an a = (cn1, a1) := by have h := hs1; unfold chS at h; rw [hia] at h; exact h
          have HCa1 : Hid (chkState ⟨cn1, a1.p, a1.n, a1.c, a1.item⟩ = 0) := by have h := chS_ok L (m); rw [hs1] at h; exact h
          have HZa1 : Hid (CSz a1) := by have h := chS_sz (HZ.out (m) (by omega)); rw [hs1] at h; exact h
          have HIa1 : Hid (LT.In elCell wx (fun b => b < wx.heap.size) a1) := by have h := chS_in (HI.out.each (m) (by omega)); rw [hs1] at h; exact h
          have HSa : Hid (∀ X, Below wr.heap.size wr X → Calls Try.prog 11 #[.agg #[.int .i64 an, .slice a.p a.n a.c]] X fun e w' => e = .returned (.agg #[.int .i64 cn1, .slice a1.p a1.n a1.c]) ∧ Below X.heap.size X w') := fun X hX => by
            have hin := HI.out.each (m) (by omega)
            rw [hia] at hin
            have h := sound_any an a X (fun b => b < X.heap.size) (((hin.2.below HBw.out).below hX).mono fun b _ h => h) hin.1.1 hin.1.2 (fun b h => h)
            rw [hs1'] at h
            exact h
          obtain ⟨bn, b, hib⟩ : ∃ x y, L.item (m + 1) = (x, y) := ⟨_, _, rfl⟩
          obtain ⟨dn1, b1, hs2⟩ : ∃ x y, chS L (m + 1) = (x, y) := ⟨_, _, rfl⟩
          have hs2' : snd bn b = (dn1, b1) := by have h := hs2; unfold chS at h; rw [hib] at h; exact h
          have HCb1 : Hid (chkState ⟨dn1, b1.p, b1.n, b1.c, b1.item⟩ = 0) := by have h := chS_ok L (m + 1); rw [hs2] at h; exact h
          have HZb1 : Hid (CSz b1) := by have h := chS_sz (HZ.out (m + 1) (by omega)); rw [hs2] at h; exact h
          have HIb1 : Hid (LT.In elCell wx (fun b => b < wx.heap.size) b1) := by have h := chS_in (HI.out.each (m + 1) (by omega)); rw [hs2] at h; exact h
          have HSb : Hid (∀ X, Below wr.heap.size wr X → Calls Try.prog 11 #[.agg #[.int .i64 bn, .slice b.p b.n b.c]] X fun e w' => e = .returned (.agg #[.int .i64 dn1, .slice b1.p b1.n b1.c]) ∧ Below X.heap.size X w') := fun X hX => by
            have hin := HI.out.each (m + 1) (by omega)
            rw [hib] at hin
            have h := sound_any bn b X (fun b => b < X.heap.size) (((hin.2.below HBw.out).below hX).mono fun b _ h => h) hin.1.1 hin.1.2 (fun b h => h)
            rw [hs2'] at h
            exact h
          rw [hp]
          have c0 : wr.cell? ⟨bb, o + m * 2, none⟩ = some (.int .i64 an) := hce (m) 0 _ (by omega) (by rw [hia]; rfl)
          have c1 : wr.cell? ⟨bb, o + m * 2 + 1, none⟩ = some (.slice a.p a.n a.c) := hce (m) 1 _ (by omega) (by rw [hia]; rfl)
          have d0 : wr.cell? ⟨bb, o + (m + 1) * 2, none⟩ = some (.int .i64 bn) := hce (m + 1) 0 _ (by omega) (by rw [hib]; rfl)
          have d1 : wr.cell? ⟨bb, o + (m + 1) * 2 + 1, none⟩ = some (.slice b.p b.n b.c) := hce (m + 1) 1 _ (by omega) (by rw [hib]; rfl)
          have HDf : Hid (∀ X, Below wr.heap.size wr X → Calls Try.prog 12 #[.agg #[.int .i64 cn1, .slice a1.p a1.n a1.c], .agg #[.int .i64 dn1, .slice b1.p b1.n b1.c]] X fun r w' => Below X.heap.size X w' ∧ ∃ u : DT, r = .returned (.tuple #[.agg #[.int .i64 u.num, .slice u.set.p u.set.n u.set.c, .slice u.gone.p u.gone.n u.gone.c], .int .i64 0]) ∧ DT.In w' (fun k => X.heap.size ≤ k) u ∧ Dfd a1 dn1 b1 u) := fun X hX => diff_one cn1 a1 dn1 b1 X (fun b => b < X.heap.size) (((HIa1.out.below HBw.out).below hX).mono fun b _ h => h) (((HIb1.out.below HBw.out).below hX).mono fun b _ h => h) (fun b h => h) HZa1.out HZb1.out HCa1.out HCb1.out
          have HS12 := hid (And.intro hs1 hs2)
          clear hce hat hs1 hs2 hs1' hs2' hia hib
          go_upto_region 11 with fail
          go_cut [5, 6] (fun s5 s6 wy => ∃ (u : DT) (bz : Nat), s5 = .pointer (some ⟨bz, 0, none⟩) ∧ s6 = .int .i64 0 ∧ Box wy bz #[.int .i64 u.num, .slice u.set.p u.set.n u.set.c, .slice u.gone.p u.gone.n u.gone.c] 30 ∧ DT.In wy (fun k => wr.heap.size ≤ k) u ∧ Dfd a1 dn1 b1 u ∧ Below wr.heap.size wr wy)
          case first =>
            refine wp_region_calmE 30 (fun wx => Below wr.heap.size wr wx) [(0, true), (1, true), (2, true), (3, true), (4, false), (6, true), (7, true), (8, true), (9, false)] (.two 5 true [] (.two 10 true [] (.two 11 false [(12, true), (13, true), (14, true)] (.one 15 true [] (.one 16 false [(17, true)] .done)) 15 true [] (.one 11 false [(12, true), (13, true), (14, true)] (.one 16 false [(17, true)] .done))) 15 true [] (.one 10 true [] (.one 11 false [(12, true), (13, true), (14, true)] (.one 16 false [(17, true)] .done)))) 15 true [] (.one 5 true [] (.one 10 true [] (.one 11 false [(12, true), (13, true), (14, true)] (.one 16 false [(17, true)] .done))))) (by kernel_rfl) (by kernel_rfl) (Below.refl _ _).drew ?_
            refine wpPre_e rfl rfl (fun K1 hK1 => ?_)
            apply Exists.intro
            refine And.intro (fun wx hx => ?_) ?_
            · go_simp
              try rfl
            go_simp
            refine hK1 _ ?_
            clear hK1 K1
            refine wpPre_e rfl rfl (fun K1 hK1 => ?_)
            apply Exists.intro
            refine And.intro (fun wx hx => ?_) ?_
            · go_simp
              try rfl
            go_simp
            refine hK1 _ ?_
            clear hK1 K1
            refine wpPre_e rfl rfl (fun K1 hK1 => ?_)
            apply Exists.intro
            refine And.intro (fun wx hx => ?_) ?_
            · go_simp
              try rfl
            go_simp
            refine hK1 _ ?_
            clear hK1 K1
            rw [show IntKind.i64.wrap (m : Int) = (m : Int) from by rw [IntKind.wrap_i64]; omega]
            refine wpPre_e rfl rfl (fun K1 hK1 => ?_)
            apply Exists.intro
            refine And.intro (fun wx hx => ?_) ?_
            · go_simp
              try rfl
            go_simp
            refine hK1 _ ?_
            clear hK1 K1
            refine wpPre_e rfl rfl (fun K1 hK1 => ?_)
            apply Exists.intro
            refine And.intro (fun wx hx => ?_) ?_
            · have e0 := below_fact hx rfl c0
              have e1 := below_fact hx rfl c1
              go_simp
              try rfl
            go_simp
            refine hK1 _ ?_
            clear hK1 K1
            refine wpPre_e rfl rfl (fun K1 hK1 => ?_)
            apply Exists.intro
            refine And.intro (fun wx hx => ?_) ?_
            · go_simp
              try rfl
            go_simp
            refine hK1 _ ?_
            clear hK1 K1
            refine wpPre_e rfl rfl (fun K1 hK1 => ?_)
            apply Exists.intro
            refine And.intro (fun wx hx => ?_) ?_
            · go_simp
              try rfl
            go_simp
            refine hK1 _ ?_
            clear hK1 K1
            refine wpPre_e rfl rfl (fun K1 hK1 => ?_)
            apply Exists.intro
            refine And.intro (fun wx hx => ?_) ?_
            · go_simp
              try rfl
            go_simp
            refine hK1 _ ?_
            clear hK1 K1
            refine wpPre_e rfl rfl (fun K1 hK1 => ?_)
            apply Exists.intro
            refine And.intro (fun wx hx => ?_) ?_
            · have e0 := below_fact hx rfl d0
              have e1 := below_fact hx rfl d1
              go_simp
              try rfl
            go_simp
            refine hK1 _ ?_
            clear hK1 K1
            refine wpPre_nil ?_
            refine wpTr_two rfl rfl (fun K1 hK1 => ?_) (fun K1 hK1 => ?_)
            · refine step_call rfl 11 #[.tmp 35] _ rfl Try.f11 Try.func11 (by kernel_rfl) rfl #[.agg #[.int .i64 an, .slice a.p a.n a.c]] rfl _ (HSa.out _ ((Below.refl wr.heap.size wr).drew)) (fun r w1 h1 => ?_)
              obtain ⟨rfl, hb1⟩ := h1
              have HB1 : Hid (Below wr.heap.size wr w1) := ((Below.refl wr.heap.size wr).drew).trans (hb1.mono ((Below.refl wr.heap.size wr).drew).size)
              have HBs1 := hid hb1
              clear hb1
              refine ⟨_, rfl, ?_⟩
              go_simp
              refine hK1 _ _ (fun _ => HB1.out) ?_
              clear hK1 K1
              refine wpPre_nil ?_
              refine wpTr_two rfl rfl (fun K1 hK1 => ?_) (fun K1 hK1 => ?_)
              · refine step_call rfl 11 #[.tmp 40] _ rfl Try.f11 Try.func11 (by kernel_rfl) rfl #[.agg #[.int .i64 bn, .slice b.p b.n b.c]] rfl _ (HSb.out _ (HB1.out)) (fun r w2 h2 => ?_)
                obtain ⟨rfl, hb2⟩ := h2
                have HB2 : Hid (Below wr.heap.size wr w2) := (HB1.out).trans (hb2.mono (HB1.out).size)
                have HBs2 := hid hb2
                clear hb2
                refine ⟨_, rfl, ?_⟩
                go_simp
                refine hK1 _ _ (fun _ => HB2.out) ?_
                clear hK1 K1
                refine wpPre_nil ?_
                refine wpTr_two rfl rfl (fun K1 hK1 => ?_) (fun K1 hK1 => ?_)
                · refine step_call rfl 12 #[.tmp 36, .tmp 41] _ rfl Try.f12 Try.func12 (by kernel_rfl) rfl #[.agg #[.int .i64 cn1, .slice a1.p a1.n a1.c], .agg #[.int .i64 dn1, .slice b1.p b1.n b1.c]] rfl _ (HDf.out _ (HB2.out)) (fun r w3 h3 => ?_)
                  obtain ⟨hb3, u, rfl, hti3, hxx3⟩ := h3
                  have HB3 : Hid (Below wr.heap.size wr w3) := (HB2.out).trans (hb3.mono (HB2.out).size)
                  have HBs3 := hid hb3
                  have HTi3 := hid hti3
                  have HXx3 := hid hxx3
                  clear hti3 hxx3
                  clear hb3
                  refine ⟨_, rfl, ?_⟩
                  go_simp
                  refine hK1 _ _ (fun h => by cases h) ?_
                  clear hK1 K1
                  refine wpPre_e rfl rfl (fun K1 hK1 => ?_)
                  apply Exists.intro
                  refine And.intro (fun wx hx => ?_) ?_
                  · go_simp
                    try rfl
                  go_simp
                  refine hK1 _ ?_
                  clear hK1 K1
                  refine wpPre_e rfl rfl (fun K1 hK1 => ?_)
                  apply Exists.intro
                  refine And.intro (fun wx hx => ?_) ?_
                  · go_simp
                    try rfl
                  go_simp
                  refine hK1 _ ?_
                  clear hK1 K1
                  refine wpPre_e rfl rfl (fun K1 hK1 => ?_)
                  apply Exists.intro
                  refine And.intro (fun wx hx => ?_) ?_
                  · go_simp
                    try rfl
                  go_simp
                  refine hK1 _ ?_
                  clear hK1 K1
                  refine wpPre_nil ?_
                  refine wpTr_e rfl (fun K1 hK1 => ?_)
                  go_simp
                  have hb4 : Below w3.heap.size w3 ((w3.alloc (.cells #[.int .i64 0, .slice none 0 0, .slice none 0 0] 30))) := ((Below.refl w3.heap.size w3).alloc (Nat.le_refl _) _)
                  have HB4 : Hid (Below wr.heap.size wr ((w3.alloc (.cells #[.int .i64 0, .slice none 0 0, .slice none 0 0] 30)))) := (HB3.out).trans (hb4.mono (HB3.out).size)
                  have hx4 : Box ((w3.alloc (.cells #[.int .i64 0, .slice none 0 0, .slice none 0 0] 30))) w3.heap.size #[.int .i64 0, .slice none 0 0, .slice none 0 0] 30 := Box.new _ _ _
                  have HX4 := hid hx4
                  have HBs4 := hid hb4
                  clear hx4 hb4
                  refine hK1 _ _ (fun _ => HB4.out) ?_
                  clear hK1 K1
                  refine wpPre_nil ?_
                  refine wpTr_e rfl (fun K1 hK1 => ?_)
                  have hz5 := HX4.out
                  have q0 := hz5.cell 0
                  have q1 := hz5.cell 1
                  have q2 := hz5.cell 2
                  have g0 := hz5.frozen 0
                  have g1 := hz5.frozen 1
                  have g2 := hz5.frozen 2
                  have ql := hz5.lt
                  simp at q0 q1 q2
                  have HZ5 := hid hz5
                  clear hz5
                  go_simp
                  refine hK1 _ _ (fun h => by cases h) ?_
                  clear hK1 K1 q0 g0 q1 g1 q2 g2 ql
                  refine wpPre_e rfl rfl (fun K1 hK1 => ?_)
                  apply Exists.intro
                  refine And.intro (fun wx hx => ?_) ?_
                  · go_simp
                    try rfl
                  go_simp
                  refine hK1 _ ?_
                  clear hK1 K1
                  refine wpPre_nil ?_
                  refine wpTr_done ?_
                  go_wp2_with fail
                  go_meet
                  exact ⟨u, w3.heap.size, rfl, rfl, Box.new _ _ _, (((HTi3.out).below ((Below.refl _ _).alloc (Nat.le_refl _) _)).mono (S' := fun k => wr.heap.size ≤ k) fun b hb _ => Nat.le_trans ((HB2.out).size) hb), HXx3.out, ((HB3.out).trans (((Below.refl _ _).alloc (Nat.le_refl _) _).mono (HB3.out).size))⟩
                · go_simp
                  have hb6 : Below w2.heap.size w2 ((w2.alloc (.cells #[.int .i64 0, .slice none 0 0, .slice none 0 0] 30))) := ((Below.refl w2.heap.size w2).alloc (Nat.le_refl _) _)
                  have HB6 : Hid (Below wr.heap.size wr ((w2.alloc (.cells #[.int .i64 0, .slice none 0 0, .slice none 0 0] 30)))) := (HB2.out).trans (hb6.mono (HB2.out).size)
                  have hx6 : Box ((w2.alloc (.cells #[.int .i64 0, .slice none 0 0, .slice none 0 0] 30))) w2.heap.size #[.int .i64 0, .slice none 0 0, .slice none 0 0] 30 := Box.new _ _ _
                  have HX6 := hid hx6
                  have HBs6 := hid hb6
                  clear hx6 hb6
                  refine hK1 _ _ (fun _ => HB6.out) ?_
                  clear hK1 K1
                  refine wpPre_nil ?_
                  refine wpTr_e rfl (fun K1 hK1 => ?_)
                  refine step_call rfl 12 #[.tmp 36, .tmp 41] _ rfl Try.f12 Try.func12 (by kernel_rfl) rfl #[.agg #[.int .i64 cn1, .slice a1.p a1.n a1.c], .agg #[.int .i64 dn1, .slice b1.p b1.n b1.c]] rfl _ (HDf.out _ (HB6.out)) (fun r w7 h7 => ?_)
                  obtain ⟨hb7, u, rfl, hti7, hxx7⟩ := h7
                  have HB7 : Hid (Below wr.heap.size wr w7) := (HB6.out).trans (hb7.mono (HB6.out).size)
                  have HBs7 := hid hb7
                  have HTi7 := hid hti7
                  have HXx7 := hid hxx7
                  clear hti7 hxx7
                  clear hb7
                  refine ⟨_, rfl, ?_⟩
                  go_simp
                  refine hK1 _ _ (fun h => by cases h) ?_
                  clear hK1 K1
                  refine wpPre_e rfl rfl (fun K1 hK1 => ?_)
                  apply Exists.intro
                  refine And.intro (fun wx hx => ?_) ?_
                  · go_simp
                    try rfl
                  go_simp
                  refine hK1 _ ?_
                  clear hK1 K1
                  refine wpPre_e rfl rfl (fun K1 hK1 => ?_)
                  apply Exists.intro
                  refine And.intro (fun wx hx => ?_) ?_
                  · go_simp
                    try rfl
                  go_simp
                  refine hK1 _ ?_
                  clear hK1 K1
                  refine wpPre_e rfl rfl (fun K1 hK1 => ?_)
                  apply Exists.intro
                  refine And.intro (fun wx hx => ?_) ?_
                  · go_simp
                    try rfl
                  go_simp
                  refine hK1 _ ?_
                  clear hK1 K1
                  refine wpPre_nil ?_
                  refine wpTr_e rfl (fun K1 hK1 => ?_)
                  have hz8 := (HX6.out).below HBs7.out
                  have q0 := hz8.cell 0
                  have q1 := hz8.cell 1
                  have q2 := hz8.cell 2
                  have g0 := hz8.frozen 0
                  have g1 := hz8.frozen 1
                  have g2 := hz8.frozen 2
                  have ql := hz8.lt
                  simp at q0 q1 q2
                  have HZ8 := hid hz8
                  have HBt8 : Hid (But (fun k => k = w2.heap.size) w7 (((w7.setCell ⟨w2.heap.size, 0, none⟩ (.int .i64 u.num)).setCell ⟨w2.heap.size, 1, none⟩ (.slice u.set.p u.set.n u.set.c)).setCell ⟨w2.heap.size, 2, none⟩ (.slice u.gone.p u.gone.n u.gone.c))) := (((But.one _ _).setAt 0 _).setAt 1 _).setAt 2 _
                  clear hz8
                  go_simp
                  refine hK1 _ _ (fun h => by cases h) ?_
                  clear hK1 K1 q0 g0 q1 g1 q2 g2 ql
                  refine wpPre_e rfl rfl (fun K1 hK1 => ?_)
                  apply Exists.intro
                  refine And.intro (fun wx hx => ?_) ?_
                  · go_simp
                    try rfl
                  go_simp
                  refine hK1 _ ?_
                  clear hK1 K1
                  refine wpPre_nil ?_
                  refine wpTr_done ?_
                  go_wp2_with fail
                  go_meet
                  exact ⟨u, w2.heap.size, rfl, rfl, by simpa using (((HZ8.out.set 0 (.int .i64 u.num)).set 1 (.slice u.set.p u.set.n u.set.c)).set 2 (.slice u.gone.p u.gone.n u.gone.c)), (((HTi7.out).but HBt8.out (fun k hk _ e => absurd (e ▸ hk : ((w2.alloc (.cells #[.int .i64 0, .slice none 0 0, .slice none 0 0] 30))).heap.size ≤ w2.heap.size) (by have := (HX6.out).lt; omega))).mono (S' := fun k => wr.heap.size ≤ k) fun b hb _ => Nat.le_trans ((HB6.out).size) hb), HXx7.out, ((HB7.out).trans (HBt8.out.below (HB7.out).size fun k hk => by have := (HB2.out).size; omega))⟩
              · go_simp
                have hb9 : Below w1.heap.size w1 ((w1.alloc (.cells #[.int .i64 0, .slice none 0 0, .slice none 0 0] 30))) := ((Below.refl w1.heap.size w1).alloc (Nat.le_refl _) _)
                have HB9 : Hid (Below wr.heap.size wr ((w1.alloc (.cells #[.int .i64 0, .slice none 0 0, .slice none 0 0] 30)))) := (HB1.out).trans (hb9.mono (HB1.out).size)
                have hx9 : Box ((w1.alloc (.cells #[.int .i64 0, .slice none 0 0, .slice none 0 0] 30))) w1.heap.size #[.int .i64 0, .slice none 0 0, .slice none 0 0] 30 := Box.new _ _ _
                have HX9 := hid hx9
                have HBs9 := hid hb9
                clear hx9 hb9
                refine hK1 _ _ (fun _ => HB9.out) ?_
                clear hK1 K1
                refine wpPre_nil ?_
                refine wpTr_e rfl (fun K1 hK1 => ?_)
                refine step_call rfl 11 #[.tmp 40] _ rfl Try.f11 Try.func11 (by kernel_rfl) rfl #[.agg #[.int .i64 bn, .slice b.p b.n b.c]] rfl _ (HSb.out _ (HB9.out)) (fun r w10 h10 => ?_)
                obtain ⟨rfl, hb10⟩ := h10
                have HB10 : Hid (Below wr.heap.size wr w10) := (HB9.out).trans (hb10.mono (HB9.out).size)
                have HBs10 := hid hb10
                clear hb10
                refine ⟨_, rfl, ?_⟩
                go_simp
                refine hK1 _ _ (fun _ => HB10.out) ?_
                clear hK1 K1
                refine wpPre_nil ?_
                refine wpTr_e rfl (fun K1 hK1 => ?_)
                refine step_call rfl 12 #[.tmp 36, .tmp 41] _ rfl Try.f12 Try.func12 (by kernel_rfl) rfl #[.agg #[.int .i64 cn1, .slice a1.p a1.n a1.c], .agg #[.int .i64 dn1, .slice b1.p b1.n b1.c]] rfl _ (HDf.out _ (HB10.out)) (fun r w11 h11 => ?_)
                obtain ⟨hb11, u, rfl, hti11, hxx11⟩ := h11
                have HB11 : Hid (Below wr.heap.size wr w11) := (HB10.out).trans (hb11.mono (HB10.out).size)
                have HBs11 := hid hb11
                have HTi11 := hid hti11
                have HXx11 := hid hxx11
                clear hti11 hxx11
                clear hb11
                refine ⟨_, rfl, ?_⟩
                go_simp
                refine hK1 _ _ (fun h => by cases h) ?_
                clear hK1 K1
                refine wpPre_e rfl rfl (fun K1 hK1 => ?_)
                apply Exists.intro
                refine And.intro (fun wx hx => ?_) ?_
                · go_simp
                  try rfl
                go_simp
                refine hK1 _ ?_
                clear hK1 K1
                refine wpPre_e rfl rfl (fun K1 hK1 => ?_)
                apply Exists.intro
                refine And.intro (fun wx hx => ?_) ?_
                · go_simp
                  try rfl
                go_simp
                refine hK1 _ ?_
                clear hK1 K1
                refine wpPre_e rfl rfl (fun K1 hK1 => ?_)
                apply Exists.intro
                refine And.intro (fun wx hx => ?_) ?_
                · go_simp
                  try rfl
                go_simp
                refine hK1 _ ?_
                clear hK1 K1
                refine wpPre_nil ?_
                refine wpTr_e rfl (fun K1 hK1 => ?_)
                have hz12 := ((HX9.out).below HBs10.out).below HBs11.out
                have q0 := hz12.cell 0
                have q1 := hz12.cell 1
                have q2 := hz12.cell 2
                have g0 := hz12.frozen 0
                have g1 := hz12.frozen 1
                have g2 := hz12.frozen 2
                have ql := hz12.lt
                simp at q0 q1 q2
                have HZ12 := hid hz12
                have HBt12 : Hid (But (fun k => k = w1.heap.size) w11 (((w11.setCell ⟨w1.heap.size, 0, none⟩ (.int .i64 u.num)).setCell ⟨w1.heap.size, 1, none⟩ (.slice u.set.p u.set.n u.set.c)).setCell ⟨w1.heap.size, 2, none⟩ (.slice u.gone.p u.gone.n u.gone.c))) := (((But.one _ _).setAt 0 _).setAt 1 _).setAt 2 _
                clear hz12
                go_simp
                refine hK1 _ _ (fun h => by cases h) ?_
                clear hK1 K1 q0 g0 q1 g1 q2 g2 ql
                refine wpPre_e rfl rfl (fun K1 hK1 => ?_)
                apply Exists.intro
                refine And.intro (fun wx hx => ?_) ?_
                · go_simp
                  try rfl
                go_simp
                refine hK1 _ ?_
                clear hK1 K1
                refine wpPre_nil ?_
                refine wpTr_done ?_
                go_wp2_with fail
                go_meet
                exact ⟨u, w1.heap.size, rfl, rfl, by simpa using (((HZ12.out.set 0 (.int .i64 u.num)).set 1 (.slice u.set.p u.set.n u.set.c)).set 2 (.slice u.gone.p u.gone.n u.gone.c)), (((HTi11.out).but HBt12.out (fun k hk _ e => absurd (e ▸ hk : w10.heap.size ≤ w1.heap.size) (by have := ((HX9.out).below HBs10.out).lt; omega))).mono (S' := fun k => wr.heap.size ≤ k) fun b hb _ => Nat.le_trans ((HB10.out).size) hb), HXx11.out, ((HB11.out).trans (HBt12.out.below (HB11.out).size fun k hk => by have := (HB1.out).size; omega))⟩
            · go_simp
              have hb13 : Below wr.heap.size wr ((wr.alloc (.cells #[.int .i64 0, .slice none 0 0, .slice none 0 0] 30)).drew) := ((Below.refl wr.heap.size wr).alloc (Nat.le_refl _) _).drew
              have HB13 : Hid (Below wr.heap.size wr ((wr.alloc (.cells #[.int .i64 0, .slice none 0 0, .slice none 0 0] 30)).drew)) := hb13
              have hx13 : Box ((wr.alloc (.cells #[.int .i64 0, .slice none 0 0, .slice none 0 0] 30)).drew) wr.heap.size #[.int .i64 0, .slice none 0 0, .slice none 0 0] 30 := (Box.new _ _ _).below (Below.refl _ _).drew
              have HX13 := hid hx13
              have HBs13 := hid hb13
              clear hx13 hb13
              refine hK1 _ _ (fun _ => HB13.out) ?_
              clear hK1 K1
              refine wpPre_nil ?_
              refine wpTr_e rfl (fun K1 hK1 => ?_)
              refine step_call rfl 11 #[.tmp 35] _ rfl Try.f11 Try.func11 (by kernel_rfl) rfl #[.agg #[.int .i64 an, .slice a.p a.n a.c]] rfl _ (HSa.out _ (HB13.out)) (fun r w14 h14 => ?_)
              obtain ⟨rfl, hb14⟩ := h14
              have HB14 : Hid (Below wr.heap.size wr w14) := (HB13.out).trans (hb14.mono (HB13.out).size)
              have HBs14 := hid hb14
              clear hb14
              refine ⟨_, rfl, ?_⟩
              go_simp
              refine hK1 _ _ (fun _ => HB14.out) ?_
              clear hK1 K1
              refine wpPre_nil ?_
              refine wpTr_e rfl (fun K1 hK1 => ?_)
              refine step_call rfl 11 #[.tmp 40] _ rfl Try.f11 Try.func11 (by kernel_rfl) rfl #[.agg #[.int .i64 bn, .slice b.p b.n b.c]] rfl _ (HSb.out _ (HB14.out)) (fun r w15 h15 => ?_)
              obtain ⟨rfl, hb15⟩ := h15
              have HB15 : Hid (Below wr.heap.size wr w15) := (HB14.out).trans (hb15.mono (HB14.out).size)
              have HBs15 := hid hb15
              clear hb15
              refine ⟨_, rfl, ?_⟩
              go_simp
              refine hK1 _ _ (fun _ => HB15.out) ?_
              clear hK1 K1
              refine wpPre_nil ?_
              refine wpTr_e rfl (fun K1 hK1 => ?_)
              refine step_call rfl 12 #[.tmp 36, .tmp 41] _ rfl Try.f12 Try.func12 (by kernel_rfl) rfl #[.agg #[.int .i64 cn1, .slice a1.p a1.n a1.c], .agg #[.int .i64 dn1, .slice b1.p b1.n b1.c]] rfl _ (HDf.out _ (HB15.out)) (fun r w16 h16 => ?_)
              obtain ⟨hb16, u, rfl, hti16, hxx16⟩ := h16
              have HB16 : Hid (Below wr.heap.size wr w16) := (HB15.out).trans (hb16.mono (HB15.out).size)
              have HBs16 := hid hb16
              have HTi16 := hid hti16
              have HXx16 := hid hxx16
              clear hti16 hxx16
              clear hb16
              refine ⟨_, rfl, ?_⟩
              go_simp
              refine hK1 _ _ (fun h => by cases h) ?_
              clear hK1 K1
              refine wpPre_e rfl rfl (fun K1 hK1 => ?_)
              apply Exists.intro
              refine And.intro (fun wx hx => ?_) ?_
              · go_simp
                try rfl
              go_simp
              refine hK1 _ ?_
              clear hK1 K1
              refine wpPre_e rfl rfl (fun K1 hK1 => ?_)
              apply Exists.intro
              refine And.intro (fun wx hx => ?_) ?_
              · go_simp
                try rfl
              go_simp
              refine hK1 _ ?_
              clear hK1 K1
              refine wpPre_e rfl rfl (fun K1 hK1 => ?_)
              apply Exists.intro
              refine And.intro (fun wx hx => ?_) ?_
              · go_simp
                try rfl
              go_simp
              refine hK1 _ ?_
              clear hK1 K1
              refine wpPre_nil ?_
              refine wpTr_e rfl (fun K1 hK1 => ?_)
              have hz17 := (((HX13.out).below HBs14.out).below HBs15.out).below HBs16.out
              have q0 := hz17.cell 0
              have q1 := hz17.cell 1
              have q2 := hz17.cell 2
              have g0 := hz17.frozen 0
              have g1 := hz17.frozen 1
              have g2 := hz17.frozen 2
              have ql := hz17.lt
              simp at q0 q1 q2
              have HZ17 := hid hz17
              have HBt17 : Hid (But (fun k => k = wr.heap.size) w16 (((w16.setCell ⟨wr.heap.size, 0, none⟩ (.int .i64 u.num)).setCell ⟨wr.heap.size, 1, none⟩ (.slice u.set.p u.set.n u.set.c)).setCell ⟨wr.heap.size, 2, none⟩ (.slice u.gone.p u.gone.n u.gone.c))) := (((But.one _ _).setAt 0 _).setAt 1 _).setAt 2 _
              clear hz17
              go_simp
              refine hK1 _ _ (fun h => by cases h) ?_
              clear hK1 K1 q0 g0 q1 g1 q2 g2 ql
              refine wpPre_e rfl rfl (fun K1 hK1 => ?_)
              apply Exists.intro
              refine And.intro (fun wx hx => ?_) ?_
              · go_simp
                try rfl
              go_simp
              refine hK1 _ ?_
              clear hK1 K1
              refine wpPre_nil ?_
              refine wpTr_done ?_
              go_wp2_with fail
              go_meet
              exact ⟨u, wr.heap.size, rfl, rfl, by simpa using (((HZ17.out.set 0 (.int .i64 u.num)).set 1 (.slice u.set.p u.set.n u.set.c)).set 2 (.slice u.gone.p u.gone.n u.gone.c)), (((HTi16.out).but HBt17.out (fun k hk _ e => absurd (e ▸ hk : w15.heap.size ≤ wr.heap.size) (by have := (((HX13.out).below HBs14.out).below HBs15.out).lt; omega))).mono (S' := fun k => wr.heap.size ≤ k) fun b hb _ => Nat.le_trans ((HB15.out).size) hb), HXx16.out, ((HB16.out).trans (HBt17.out.below (HB16.out).size fun k hk => by have := Nat.le_refl wr.heap.size; omega))⟩
          case rest =>
            obtain ⟨u, bz, rfl, rfl, hbx, hui, hud, hbel⟩ := hcut
            obtain ⟨wy, hwc⟩ : ∃ x, x = wc := ⟨_, rfl⟩
            subst hwc
            clear c0 c1 d0 d1
            have u0 := hbx.cell 0
            have u1 := hbx.cell 1
            have u2 := hbx.cell 2
            have ul := hbx.lt
            simp at u0 u1 u2
            have hO2 := HO.out.keep hbel.size (fun k _ hl => hbel.block k hl)
            have hu2 : DT.In wy (fun b => wx.heap.size ≤ b ∧ u3.ownBlock ≠ some b) u := hui.mono fun b hb _ => ⟨Nat.le_trans HBw.out.size hb, fun e => by have := (HO.out.own.lt b e).2; omega⟩
            have hsz : wx.heap.size ≤ wy.heap.size := Nat.le_trans HBw.out.size hbel.size
            have H2 := hid (And.intro hO2 (And.intro hu2 (And.intro hud (HBw.out.trans (hbel.mono HBw.out.size)))))
            have ha : Below wy.heap.size wy (wy.alloc (.cells #[.int .i64 u.num, .slice u.set.p u.set.n u.set.c, .slice u.gone.p u.gone.n u.gone.c] 30)) := (Below.refl _ _).alloc (Nat.le_refl _) _
            have HAl := hid ha
            have HNw : Hid (∀ j u', (elD.cells u)[j]? = some u' → (wy.alloc (.cells #[.int .i64 u.num, .slice u.set.p u.set.n u.set.c, .slice u.gone.p u.gone.n u.gone.c] 30)).cell? ((⟨wy.heap.size, 0, none⟩ : Addr).add j) = some u') := fun j u' hu => by
              rw [Go.WideShapes.add_plain, (Box.new wy #[.int .i64 u.num, .slice u.set.p u.set.n u.set.c, .slice u.gone.p u.gone.n u.gone.c] 30).cell]
              rw [show 0 + j = j by omega]
              simpa [elD] using hu
            have HSZ := hid hsz
            clear hO2 hu2 ha hbx hui hud hbel
            go_upto_region 14 with fail
            go_wp2_with (at_builtin; refine wpList_app rfl (.tmp 47) (.tmp 49) 46 30 i0 _ 3 56 HKd.out rfl wx.heap.size u3 m _ rfl (H2.out.1.own.alloc _) ⟨wy.heap.size, 0, none⟩ 1 1 (elD.cells u) rfl rfl HNw.out (elD.one u) (by omega) (by omega) (by simp; omega) ?_)
            intro v3 w3 ho3 hg3 hn3
            obtain ⟨hO2, hu2, hud, hbel2⟩ := H2.out
            have HO3 := hid ((hO2.keep HAl.out.size (fun k _ hl => HAl.out.block k hl)).push (hu2.below HAl.out) ho3 hg3 hn3)
            have HB3 : Hid (Below wx.heap.size wx w3) := (hbel2.trans (HAl.out.mono HSZ.out)).grown hg3 (by simp; omega) (fun k hk => (hO2.own.lt k hk).1)
            have HG3 : Hid (∀ q, q < m + 1 → Dfd (chS L q).2 (chS L (q + 1)).1 (chS L (q + 1)).2 (if q < m then g q else u)) := by
              intro q hq
              by_cases hqk : q < m
              · rw [if_pos hqk]; exact HG.out q hqk
              · rw [if_neg hqk]
                obtain rfl : q = m := by omega
                rw [HS12.out.1, HS12.out.2]
                exact hud
            clear ho3 hg3 hn3 hO2 hu2 hud hbel2 H2 HAl HNw
            go_wp2
            go_roundw
            case rel => exact ⟨m + 1, _, by omega, by go_num, HO3.out, HG3.out, HB3.out⟩
            case measure => simp [intOf]; omega
        · have hmN : L.n = m + 1 := by omega
          have hlt' : ¬ (m : Int) + 1 < ((m + 1 : Nat) : Int) := by omega
          obtain ⟨p, c, hv, hD⟩ := HO.out.in_ (by omega)
          subst hv
          obtain ⟨db, dq, hdp, hdS, hdl, hdat⟩ := hD.at_ (by show 0 < m; omega)
          have hdp' : p = some ⟨db, dq, none⟩ := hdp
          subst hdp'
          rw [hmN, hp]
          have HD := hid hD
          have HOk : Hid (∀ q, q < L.n → SOk wx (fun b => b < wx.heap.size) (chS L q).2) := fun q hq => SOk.of (chS_ok L q) (chS_in (HI.out.each q hq))
          have hcd : ∀ i r u, i < m → (elD.cells (g i))[r]? = some u → wr.cell? ⟨db, dq + i * 3 + r, none⟩ = some u := fun i r u hi hu => hdat i hi r u hu
          have f0 : wr.cell? ⟨db, dq, none⟩ = some (.int .i64 (g 0).num) := by have h := hcd 0 0 _ (by omega) rfl; simpa using h
          have f1 : wr.cell? ⟨db, dq + 1, none⟩ = some (.slice (g 0).set.p (g 0).set.n (g 0).set.c) := by have h := hcd 0 1 _ (by omega) rfl; simpa using h
          have f2 : wr.cell? ⟨db, dq + 2, none⟩ = some (.slice (g 0).gone.p (g 0).gone.n (g 0).gone.c) := by have h := hcd 0 2 _ (by omega) rfl; simpa using h
          obtain ⟨V, hV⟩ : ∃ V, V = wr.alloc (.cells #[.int .i64 (g 0).num, .slice (g 0).set.p (g 0).set.n (g 0).set.c, .slice (g 0).gone.p (g 0).gone.n (g 0).gone.c] 30) := ⟨_, rfl⟩
          have hBV : Below wr.heap.size wr V := by rw [hV]; exact (Below.refl _ _).alloc (Nat.le_refl _) _
          have HXJ : Hid (Box V wr.heap.size #[.int .i64 (g 0).num, .slice (g 0).set.p (g 0).set.n (g 0).set.c, .slice (g 0).gone.p (g 0).gone.n (g 0).gone.c] 30) := by rw [hV]; exact Box.new _ _ _
          have HV := hid hV
          have HBV := hid hBV
          have HCD := hid hcd
          have HDB := hid (And.intro hdS hdl)
          have HAT := hid hat
          clear hV hBV hD hdat hcd hdS hdl hdp hat
          have hm0 : 0 < m := by omega
          go_upto_region 16 with fail
          rw [← HV.out]
          clear f0 f1 f2
          obtain ⟨wo, hwo⟩ : ∃ x, x = wr := ⟨_, rfl⟩
          subst hwo
          go_wp2_with fail
          go_loopw [8] (fun x wr => ∃ (i : Nat) (j : DT), i + 1 ≤ m ∧ x = .int .i64 ((i : Int) + 1) ∧ Box wr wo.heap.size #[.int .i64 j.num, .slice j.set.p j.set.n j.set.c, .slice j.gone.p j.gone.n j.gone.c] 30 ∧ DT.In wr (fun k => k ≠ wo.heap.size) j ∧ DSz j ∧ Leads (chS L 0).2 j (chS L (i + 1)).1 (chS L (i + 1)).2 ∧ Below wo.heap.size wo wr) (fun x _ => m - (intOf x).toNat)
          case atStart => exact ⟨0, g 0, by omega, rfl, HXJ.out, ((HD.out.each 0 hm0).mono (S' := fun k => k ≠ wo.heap.size) fun b _ hl e => absurd (e ▸ hl : wo.heap.size < wo.heap.size) (Nat.lt_irrefl _)).below HBV.out, (HG.out 0 hm0).sz, Leads.first (HG.out 0 hm0) (HOk.out 0 (by omega)) (HOk.out 1 (by omega)), HBV.out⟩
          case round =>
            obtain ⟨i, j, hi, rfl, hbx, hji, hjz, hjl, hbw⟩ := hrel
            have HXj := hid hbx
            have HJi := hid hji
            have HJl := hid (And.intro hjz hjl)
            have HBq := hid hbw
            clear hbx hji hjz hjl hbw
            by_cases hlt2 : i + 1 < m
            · have hlt2' : (i : Int) + 1 < (m : Int) := by omega
              obtain ⟨e, he⟩ : ∃ x, g (i + 1) = x := ⟨_, rfl⟩
              have hce : ∀ r u, (elD.cells e)[r]? = some u → wr.cell? ⟨db, dq + (i + 1) * 3 + r, none⟩ = some u := fun r u hu => (World.cell?_of_block (a := ⟨db, dq + (i + 1) * 3 + r, none⟩) (HBq.out.block db HDB.out.2)).trans (HCD.out (i + 1) r u hlt2 (by rw [he]; exact hu))
              have e0 : wr.cell? ⟨db, dq + (i + 1) * 3, none⟩ = some (.int .i64 e.num) := hce 0 _ rfl
              have e1 : wr.cell? ⟨db, dq + (i + 1) * 3 + 1, none⟩ = some (.slice e.set.p e.set.n e.set.c) := hce 1 _ rfl
              have e2 : wr.cell? ⟨db, dq + (i + 1) * 3 + 2, none⟩ = some (.slice e.gone.p e.gone.n e.gone.c) := hce 2 _ rfl
              have j0 := HXj.out.cell 0
              have j1 := HXj.out.cell 1
              have j2 := HXj.out.cell 2
              have jl := HXj.out.lt
              simp at j0 j1 j2
              have HEd : Hid (Dfd (chS L (i + 1)).2 (chS L (i + 1 + 1)).1 (chS L (i + 1 + 1)).2 e) := by have h := HG.out (i + 1) hlt2; rw [he] at h; exact h
              have HEi : Hid (DT.In wr (fun k => k < wr.heap.size) e) := by
                have h := ((HD.out.each (i + 1) hlt2).below HBq.out).mono (S' := fun k => k < wr.heap.size) fun b _ h => h
                have h' : DT.In wr (fun k => k < wr.heap.size) (g (i + 1)) := h
                rw [he] at h'
                exact h'
              have HJn : Hid (∀ X, Below wr.heap.size wr X → Calls Try.prog 19 #[.agg #[.int .i64 j.num, .slice j.set.p j.set.n j.set.c, .slice j.gone.p j.gone.n j.gone.c], .agg #[.int .i64 e.num, .slice e.set.p e.set.n e.set.c, .slice e.gone.p e.gone.n e.gone.c]] X fun r w' => Below X.heap.size X w' ∧ ∃ (u : DT) (c : Int), r = .returned (.tuple #[.agg #[.int .i64 u.num, .slice u.set.p u.set.n u.set.c, .slice u.gone.p u.gone.n u.gone.c], .int .i64 c]) ∧ DT.In w' (fun k => X.heap.size ≤ k) u ∧ c = (joinE j e : Int) ∧ (c = 0 → Jnd j e u ∧ u.set.n ≤ 64 ∧ u.gone.n ≤ 64) ∧ DSz u) := fun X hX => join_one j e X (fun k => k < X.heap.size) ((HJi.out.below hX).mono fun b _ h => h) ((HEi.out.below hX).mono fun b _ h => h) (fun k h => h) HJl.out.1 HEd.out.sz
              clear hce
              go_upto_region 19 with fail
              go_cut [9, 10] (fun s9 s10 wy => ∃ (u : DT) (cc : Int) (bz : Nat), s9 = .pointer (some ⟨bz, 0, none⟩) ∧ s10 = .int .i64 cc ∧ Box wy bz #[.int .i64 u.num, .slice u.set.p u.set.n u.set.c, .slice u.gone.p u.gone.n u.gone.c] 30 ∧ DT.In wy (fun k => wr.heap.size ≤ k) u ∧ (cc = (joinE j e : Int) ∧ (cc = 0 → Jnd j e u ∧ u.set.n ≤ 64 ∧ u.gone.n ≤ 64) ∧ DSz u) ∧ wr.heap.size ≤ bz ∧ Below wr.heap.size wr wy)
              case first =>
                refine wp_region_calmE 30 (fun wx => Below wr.heap.size wr wx) [(0, false), (1, true), (2, true), (3, true), (4, false)] (.two 5 false [(6, true), (7, true), (8, true)] (.one 9 true [] (.one 10 false [(11, true)] .done)) 9 true [] (.one 5 false [(6, true), (7, true), (8, true)] (.one 10 false [(11, true)] .done))) (by kernel_rfl) (by kernel_rfl) (Below.refl _ _).drew ?_
                refine wpPre_e rfl rfl (fun K1 hK1 => ?_)
                apply Exists.intro
                refine And.intro (fun wx hx => ?_) ?_
                · have e0 := below_fact hx rfl j0
                  have e1 := below_fact hx rfl j1
                  have e2 := below_fact hx rfl j2
                  go_simp
                  try rfl
                go_simp
                refine hK1 _ ?_
                clear hK1 K1
                refine wpPre_e rfl rfl (fun K1 hK1 => ?_)
                apply Exists.intro
                refine And.intro (fun wx hx => ?_) ?_
                · go_simp
                  try rfl
                go_simp
                refine hK1 _ ?_
                clear hK1 K1
                refine wpPre_e rfl rfl (fun K1 hK1 => ?_)
                apply Exists.intro
                refine And.intro (fun wx hx => ?_) ?_
                · go_simp
                  try rfl
                go_simp
                refine hK1 _ ?_
                clear hK1 K1
                refine wpPre_e rfl rfl (fun K1 hK1 => ?_)
                apply Exists.intro
                refine And.intro (fun wx hx => ?_) ?_
                · go_simp
                  try rfl
                go_simp
                refine hK1 _ ?_
                clear hK1 K1
                refine wpPre_e rfl rfl (fun K1 hK1 => ?_)
                apply Exists.intro
                refine And.intro (fun wx hx => ?_) ?_
                · have e0 := below_fact hx rfl e0
                  have e1 := below_fact hx rfl e1
                  have e2 := below_fact hx rfl e2
                  go_simp
                  try rfl
                go_simp
                refine hK1 _ ?_
                clear hK1 K1
                refine wpPre_nil ?_
                refine wpTr_two rfl rfl (fun K1 hK1 => ?_) (fun K1 hK1 => ?_)
                · refine step_call rfl 19 #[.tmp 61, .tmp 65] _ rfl Try.f19 Try.func19 (by kernel_rfl) rfl #[.agg #[.int .i64 j.num, .slice j.set.p j.set.n j.set.c, .slice j.gone.p j.gone.n j.gone.c], .agg #[.int .i64 e.num, .slice e.set.p e.set.n e.set.c, .slice e.gone.p e.gone.n e.gone.c]] rfl _ (HJn.out _ ((Below.refl wr.heap.size wr).drew)) (fun r w18 h18 => ?_)
                  obtain ⟨hb18, u, cc, rfl, hti18, hxx18⟩ := h18
                  have HB18 : Hid (Below wr.heap.size wr w18) := ((Below.refl wr.heap.size wr).drew).trans (hb18.mono ((Below.refl wr.heap.size wr).drew).size)
                  have HBs18 := hid hb18
                  have HTi18 := hid hti18
                  have HXx18 := hid hxx18
                  clear hti18 hxx18
                  clear hb18
                  refine ⟨_, rfl, ?_⟩
                  go_simp
                  refine hK1 _ _ (fun h => by cases h) ?_
                  clear hK1 K1
                  refine wpPre_e rfl rfl (fun K1 hK1 => ?_)
                  apply Exists.intro
                  refine And.intro (fun wx hx => ?_) ?_
                  · go_simp
                    try rfl
                  go_simp
                  refine hK1 _ ?_
                  clear hK1 K1
                  refine wpPre_e rfl rfl (fun K1 hK1 => ?_)
                  apply Exists.intro
                  refine And.intro (fun wx hx => ?_) ?_
                  · go_simp
                    try rfl
                  go_simp
                  refine hK1 _ ?_
                  clear hK1 K1
                  refine wpPre_e rfl rfl (fun K1 hK1 => ?_)
                  apply Exists.intro
                  refine And.intro (fun wx hx => ?_) ?_
                  · go_simp
                    try rfl
                  go_simp
                  refine hK1 _ ?_
                  clear hK1 K1
                  refine wpPre_nil ?_
                  refine wpTr_e rfl (fun K1 hK1 => ?_)
                  go_simp
                  have hb19 : Below w18.heap.size w18 ((w18.alloc (.cells #[.int .i64 0, .slice none 0 0, .slice none 0 0] 30))) := ((Below.refl w18.heap.size w18).alloc (Nat.le_refl _) _)
                  have HB19 : Hid (Below wr.heap.size wr ((w18.alloc (.cells #[.int .i64 0, .slice none 0 0, .slice none 0 0] 30)))) := (HB18.out).trans (hb19.mono (HB18.out).size)
                  have hx19 : Box ((w18.alloc (.cells #[.int .i64 0, .slice none 0 0, .slice none 0 0] 30))) w18.heap.size #[.int .i64 0, .slice none 0 0, .slice none 0 0] 30 := Box.new _ _ _
                  have HX19 := hid hx19
                  have HBs19 := hid hb19
                  clear hx19 hb19
                  refine hK1 _ _ (fun _ => HB19.out) ?_
                  clear hK1 K1
                  refine wpPre_nil ?_
                  refine wpTr_e rfl (fun K1 hK1 => ?_)
                  have hz20 := HX19.out
                  have q0 := hz20.cell 0
                  have q1 := hz20.cell 1
                  have q2 := hz20.cell 2
                  have g0 := hz20.frozen 0
                  have g1 := hz20.frozen 1
                  have g2 := hz20.frozen 2
                  have ql := hz20.lt
                  simp at q0 q1 q2
                  have HZ20 := hid hz20
                  clear hz20
                  go_simp
                  refine hK1 _ _ (fun h => by cases h) ?_
                  clear hK1 K1 q0 g0 q1 g1 q2 g2 ql
                  refine wpPre_e rfl rfl (fun K1 hK1 => ?_)
                  apply Exists.intro
                  refine And.intro (fun wx hx => ?_) ?_
                  · go_simp
                    try rfl
                  go_simp
                  refine hK1 _ ?_
                  clear hK1 K1
                  refine wpPre_nil ?_
                  refine wpTr_done ?_
                  go_wp2_with fail
                  go_meet
                  exact ⟨u, cc, w18.heap.size, rfl, rfl, Box.new _ _ _, (((HTi18.out).below ((Below.refl _ _).alloc (Nat.le_refl _) _)).mono (S' := fun k => wr.heap.size ≤ k) fun b hb _ => Nat.le_trans (((Below.refl wr.heap.size wr).drew).size) hb), HXx18.out, (HB18.out).size, ((HB18.out).trans (((Below.refl _ _).alloc (Nat.le_refl _) _).mono (HB18.out).size))⟩
                · go_simp
                  have hb21 : Below wr.heap.size wr ((wr.alloc (.cells #[.int .i64 0, .slice none 0 0, .slice none 0 0] 30)).drew) := ((Below.refl wr.heap.size wr).alloc (Nat.le_refl _) _).drew
                  have HB21 : Hid (Below wr.heap.size wr ((wr.alloc (.cells #[.int .i64 0, .slice none 0 0, .slice none 0 0] 30)).drew)) := hb21
                  have hx21 : Box ((wr.alloc (.cells #[.int .i64 0, .slice none 0 0, .slice none 0 0] 30)).drew) wr.heap.size #[.int .i64 0, .slice none 0 0, .slice none 0 0] 30 := (Box.new _ _ _).below (Below.refl _ _).drew
                  have HX21 := hid hx21
                  have HBs21 := hid hb21
                  clear hx21 hb21
                  refine hK1 _ _ (fun _ => HB21.out) ?_
                  clear hK1 K1
                  refine wpPre_nil ?_
                  refine wpTr_e rfl (fun K1 hK1 => ?_)
                  refine step_call rfl 19 #[.tmp 61, .tmp 65] _ rfl Try.f19 Try.func19 (by kernel_rfl) rfl #[.agg #[.int .i64 j.num, .slice j.set.p j.set.n j.set.c, .slice j.gone.p j.gone.n j.gone.c], .agg #[.int .i64 e.num, .slice e.set.p e.set.n e.set.c, .slice e.gone.p e.gone.n e.gone.c]] rfl _ (HJn.out _ (HB21.out)) (fun r w22 h22 => ?_)
                  obtain ⟨hb22, u, cc, rfl, hti22, hxx22⟩ := h22
                  have HB22 : Hid (Below wr.heap.size wr w22) := (HB21.out).trans (hb22.mono (HB21.out).size)
                  have HBs22 := hid hb22
                  have HTi22 := hid hti22
                  have HXx22 := hid hxx22
                  clear hti22 hxx22
                  clear hb22
                  refine ⟨_, rfl, ?_⟩
                  go_simp
                  refine hK1 _ _ (fun h => by cases h) ?_
                  clear hK1 K1
                  refine wpPre_e rfl rfl (fun K1 hK1 => ?_)
                  apply Exists.intro
                  refine And.intro (fun wx hx => ?_) ?_
                  · go_simp
                    try rfl
                  go_simp
                  refine hK1 _ ?_
                  clear hK1 K1
                  refine wpPre_e rfl rfl (fun K1 hK1 => ?_)
                  apply Exists.intro
                  refine And.intro (fun wx hx => ?_) ?_
                  · go_simp
                    try rfl
                  go_simp
                  refine hK1 _ ?_
                  clear hK1 K1
                  refine wpPre_e rfl rfl (fun K1 hK1 => ?_)
                  apply Exists.intro
                  refine And.intro (fun wx hx => ?_) ?_
                  · go_simp
                    try rfl
                  go_simp
                  refine hK1 _ ?_
                  clear hK1 K1
                  refine wpPre_nil ?_
                  refine wpTr_e rfl (fun K1 hK1 => ?_)
                  have hz23 := (HX21.out).below HBs22.out
                  have q0 := hz23.cell 0
                  have q1 := hz23.cell 1
                  have q2 := hz23.cell 2
                  have g0 := hz23.frozen 0
                  have g1 := hz23.frozen 1
                  have g2 := hz23.frozen 2
                  have ql := hz23.lt
                  simp at q0 q1 q2
                  have HZ23 := hid hz23
                  have HBt23 : Hid (But (fun k => k = wr.heap.size) w22 (((w22.setCell ⟨wr.heap.size, 0, none⟩ (.int .i64 u.num)).setCell ⟨wr.heap.size, 1, none⟩ (.slice u.set.p u.set.n u.set.c)).setCell ⟨wr.heap.size, 2, none⟩ (.slice u.gone.p u.gone.n u.gone.c))) := (((But.one _ _).setAt 0 _).setAt 1 _).setAt 2 _
                  clear hz23
                  go_simp
                  refine hK1 _ _ (fun h => by cases h) ?_
                  clear hK1 K1 q0 g0 q1 g1 q2 g2 ql
                  refine wpPre_e rfl rfl (fun K1 hK1 => ?_)
                  apply Exists.intro
                  refine And.intro (fun wx hx => ?_) ?_
                  · go_simp
                    try rfl
                  go_simp
                  refine hK1 _ ?_
                  clear hK1 K1
                  refine wpPre_nil ?_
                  refine wpTr_done ?_
                  go_wp2_with fail
                  go_meet
                  exact ⟨u, cc, wr.heap.size, rfl, rfl, by simpa using (((HZ23.out.set 0 (.int .i64 u.num)).set 1 (.slice u.set.p u.set.n u.set.c)).set 2 (.slice u.gone.p u.gone.n u.gone.c)), (((HTi22.out).but HBt23.out (fun k hk _ e => absurd (e ▸ hk : ((wr.alloc (.cells #[.int .i64 0, .slice none 0 0, .slice none 0 0] 30)).drew).heap.size ≤ wr.heap.size) (by have := (HX21.out).lt; omega))).mono (S' := fun k => wr.heap.size ≤ k) fun b hb _ => Nat.le_trans ((HB21.out).size) hb), HXx22.out, Nat.le_refl wr.heap.size, ((HB22.out).trans (HBt23.out.below (HB22.out).size fun k hk => by have := Nat.le_refl wr.heap.size; omega))⟩
              case rest =>
                obtain ⟨u, cc, bz, rfl, rfl, hbx, hui, hcc, hbz, hbel⟩ := hcut
                obtain ⟨wy, hwc⟩ : ∃ x, x = wc := ⟨_, rfl⟩
                subst hwc
                clear j0 j1 j2 jl e0 e1 e2
                by_cases hc : cc = 0
                · subst hc
                  have HNx : Hid (Leads (chS L 0).2 u (chS L (i + 1 + 1)).1 (chS L (i + 1 + 1)).2) := HJl.out.2.next (HOk.out 0 (by omega)) (HOk.out (i + 1) (by omega)) (HOk.out (i + 1 + 1) (by omega)) HEd.out (hcc.2.1 rfl).1 (hcc.2.1 rfl).2
                  have HUz := hid hcc.2.2
                  have hjb := HXj.out.below hbel
                  have hjlt := HXj.out.lt
                  have u0 := hbx.cell 0
                  have u1 := hbx.cell 1
                  have u2 := hbx.cell 2
                  have ul := hbx.lt
                  simp at u0 u1 u2
                  have j0 := hjb.cell 0
                  have j1 := hjb.cell 1
                  have j2 := hjb.cell 2
                  have jl := hjb.lt
                  simp at j0 j1 j2
                  have g0 := hjb.frozen 0
                  have g1 := hjb.frozen 1
                  have g2 := hjb.frozen 2
                  have HJb := hid hjb
                  have HBt : Hid (But (fun k => k = wo.heap.size) wy (((wy.setCell ⟨wo.heap.size, 0, none⟩ (.int .i64 u.num)).setCell ⟨wo.heap.size, 1, none⟩ (.slice u.set.p u.set.n u.set.c)).setCell ⟨wo.heap.size, 2, none⟩ (.slice u.gone.p u.gone.n u.gone.c))) := (((But.one _ _).setAt 0 _).setAt 1 _).setAt 2 _
                  have HUi : Hid (DT.In wy (fun k => k ≠ wo.heap.size) u) := hui.mono fun b hb _ e => by omega
                  have HBy := hid (HBq.out.trans (hbel.mono HBq.out.size))
                  clear hbx hui hcc hbz hbel hjb
                  go_wp2
                  go_roundw
                  case rel => exact ⟨i + 1, u, by omega, by go_num, by simpa using ((HJb.out.set 0 (.int .i64 u.num)).set 1 (.slice u.set.p u.set.n u.set.c)).set 2 (.slice u.gone.p u.gone.n u.gone.c), HUi.out.but HBt.out (fun k hk _ e => hk e), HUz.out, HNx.out, HBy.out.trans (HBt.out.below HBy.out.size fun k hk => by omega)⟩
                  case measure => simp [intOf]; omega
                · have h111 : cc = 111 := by
                    have h := HJl.out.2.err (HOk.out 0 (by omega)) (HOk.out (i + 1) (by omega)) (HOk.out (i + 1 + 1) (by omega)) HEd.out (fun h0 => hc (by rw [hcc.1, h0]; rfl))
                    rw [hcc.1, h]; rfl
                  subst h111
                  have HBy := hid (HB.out.trans ((HBw.out.trans ((HBq.out.trans (hbel.mono HBq.out.size)).mono HBw.out.size)).mono HB.out.size))
                  clear hbx hui hcc hbz hbel
                  go_wp2
                  exact bodyPost_ret (v := .bool true) (by simp [results, Try.results6, go_sem]) rfl ⟨rfl, HBy.out⟩
            · have hlt2' : ¬ (i : Int) + 1 < (m : Int) := by omega
              have him : i + 1 = m := by omega
              have HBx : Hid (Below wx.heap.size wx wr) := HBw.out.trans (HBq.out.mono HBw.out.size)
              have hat := HAT.out
              have hce : ∀ i r u, i < L.n → (elS.cells (L.item i))[r]? = some u → wr.cell? ⟨bb, o + i * 2 + r, none⟩ = some u := fun i r u hi hu => (World.cell?_of_block (a := ⟨bb, o + i * 2 + r, none⟩) (HBx.out.block bb hbb)).trans (hat i hi r u hu)
              obtain ⟨an, a, hia⟩ : ∃ x y, L.item (0) = (x, y) := ⟨_, _, rfl⟩
              obtain ⟨cn1, a1, hs1⟩ : ∃ x y, chS L (0) = (x, y) := ⟨_, _, rfl⟩
              have hs1' : snd an a = (cn1, a1) := by have h := hs1; unfold chS at h; rw [hia] at h; exact h
              have HCa1 : Hid (chkState ⟨cn1, a1.p, a1.n, a1.c, a1.item⟩ = 0) := by have h := chS_ok L (0); rw [hs1] at h; exact h
              have HZa1 : Hid (CSz a1) := by have h := chS_sz (HZ.out (0) (by omega)); rw [hs1] at h; exact h
              have HIa1 : Hid (LT.In elCell wx (fun b => b < wx.heap.size) a1) := by have h := chS_in (HI.out.each (0) (by omega)); rw [hs1] at h; exact h
              have HSa : Hid (∀ X, Below wr.heap.size wr X → Calls Try.prog 11 #[.agg #[.int .i64 an, .slice a.p a.n a.c]] X fun e w' => e = .returned (.agg #[.int .i64 cn1, .slice a1.p a1.n a1.c]) ∧ Below X.heap.size X w') := fun X hX => by
                have hin := HI.out.each (0) (by omega)
                rw [hia] at hin
                have h := sound_any an a X (fun b => b < X.heap.size) (((hin.2.below HBx.out).below hX).mono fun b _ h => h) hin.1.1 hin.1.2 (fun b h => h)
                rw [hs1'] at h
                exact h
              obtain ⟨bn, b, hib⟩ : ∃ x y, L.item (m) = (x, y) := ⟨_, _, rfl⟩
              obtain ⟨dn1, b1, hs2⟩ : ∃ x y, chS L (m) = (x, y) := ⟨_, _, rfl⟩
              have hs2' : snd bn b = (dn1, b1) := by have h := hs2; unfold chS at h; rw [hib] at h; exact h
              have HCb1 : Hid (chkState ⟨dn1, b1.p, b1.n, b1.c, b1.item⟩ = 0) := by have h := chS_ok L (m); rw [hs2] at h; exact h
              have HZb1 : Hid (CSz b1) := by have h := chS_sz (HZ.out (m) (by omega)); rw [hs2] at h; exact h
              have HIb1 : Hid (LT.In elCell wx (fun b => b < wx.heap.size) b1) := by have h := chS_in (HI.out.each (m) (by omega)); rw [hs2] at h; exact h
              have HSb : Hid (∀ X, Below wr.heap.size wr X → Calls Try.prog 11 #[.agg #[.int .i64 bn, .slice b.p b.n b.c]] X fun e w' => e = .returned (.agg #[.int .i64 dn1, .slice b1.p b1.n b1.c]) ∧ Below X.heap.size X w') := fun X hX => by
                have hin := HI.out.each (m) (by omega)
                rw [hib] at hin
                have h := sound_any bn b X (fun b => b < X.heap.size) (((hin.2.below HBx.out).below hX).mono fun b _ h => h) hin.1.1 hin.1.2 (fun b h => h)
                rw [hs2'] at h
                exact h
              have c0 : wr.cell? ⟨bb, o, none⟩ = some (.int .i64 an) := by have h := hce 0 0 (.int .i64 an) (by omega) (by rw [hia]; rfl); simpa using h
              have c1 : wr.cell? ⟨bb, o + 1, none⟩ = some (.slice a.p a.n a.c) := by have h := hce 0 1 (.slice a.p a.n a.c) (by omega) (by rw [hia]; rfl); simpa using h
              have j0 := HXj.out.cell 0
              have j1 := HXj.out.cell 1
              have j2 := HXj.out.cell 2
              have jl := HXj.out.lt
              simp at j0 j1 j2
              have HAp : Hid (∀ X, Below wr.heap.size wr X → Calls Try.prog 14 #[.agg #[.int .i64 cn1, .slice a1.p a1.n a1.c], .agg #[.int .i64 j.num, .slice j.set.p j.set.n j.set.c, .slice j.gone.p j.gone.n j.gone.c]] X fun r w' => Below X.heap.size X w' ∧ ∃ (vn : Int) (v : LT VT) (c : Int), r = .returned (.tuple #[.agg #[.int .i64 vn, .slice v.p v.n v.c], .int .i64 c]) ∧ LT.In elCell w' (fun k => X.heap.size ≤ k) v ∧ c = (applyE cn1 a1 j : Int) ∧ (c = 0 → vn = j.num ∧ Apd a1 j v ∧ CSz v) ∧ -9223372036854775808 ≤ vn ∧ vn ≤ 9223372036854775807 ∧ CSz v) := fun X hX => apply_one cn1 a1 j X (fun k => k < X.heap.size) (((HIa1.out.below HBx.out).below hX).mono fun b _ h => h) (by have := (chkState_rise HCa1.out).2.2; omega) (by have := (chkState_rise HCa1.out).2.2; omega) ((HJi.out.below hX).mono fun b _ h => h) (fun k h => h) HZa1.out HJl.out.1
              have HLd : Hid (Leads a1 j dn1 b1) := by have h := HJl.out.2; rw [him, hs1, hs2] at h; exact h
              have HCE := hid hce
              have HIB := hid hib
              clear hce hat hs1 hs2 hs1' hs2' hia hib
              go_upto_region 23 with fail
              go_cut [11, 12] (fun s11 s12 wy => ∃ (tn : Int) (t : LT VT) (cc : Int) (bz : Nat), s11 = .pointer (some ⟨bz, 0, none⟩) ∧ s12 = .int .i64 cc ∧ Box wy bz #[.int .i64 tn, .slice t.p t.n t.c] 24 ∧ LT.In elCell wy (fun k => wr.heap.size ≤ k) t ∧ (cc = (applyE cn1 a1 j : Int) ∧ (cc = 0 → tn = j.num ∧ Apd a1 j t ∧ CSz t) ∧ -9223372036854775808 ≤ tn ∧ tn ≤ 9223372036854775807 ∧ CSz t) ∧ Below wr.heap.size wr wy)
              case first =>
                refine wp_region_calmE 30 (fun wx => Below wr.heap.size wr wx) [(0, true), (1, true), (2, false), (4, false)] (.two 3 true [] (.two 5 false [(6, true), (7, true), (8, true)] (.one 9 true [] (.one 10 false [(11, true)] .done)) 9 true [] (.one 5 false [(6, true), (7, true), (8, true)] (.one 10 false [(11, true)] .done))) 9 true [] (.one 3 true [] (.one 5 false [(6, true), (7, true), (8, true)] (.one 10 false [(11, true)] .done)))) (by kernel_rfl) (by kernel_rfl) (Below.refl _ _).drew ?_
                refine wpPre_e rfl rfl (fun K1 hK1 => ?_)
                apply Exists.intro
                refine And.intro (fun wx hx => ?_) ?_
                · go_simp
                  try rfl
                go_simp
                refine hK1 _ ?_
                clear hK1 K1
                refine wpPre_e rfl rfl (fun K1 hK1 => ?_)
                apply Exists.intro
                refine And.intro (fun wx hx => ?_) ?_
                · go_simp
                  try rfl
                go_simp
                refine hK1 _ ?_
                clear hK1 K1
                refine wpPre_e rfl rfl (fun K1 hK1 => ?_)
                apply Exists.intro
                refine And.intro (fun wx hx => ?_) ?_
                · have e0 := below_fact hx rfl c0
                  have e1 := below_fact hx rfl c1
                  go_simp
                  try rfl
                go_simp
                refine hK1 _ ?_
                clear hK1 K1
                refine wpPre_e rfl rfl (fun K1 hK1 => ?_)
                apply Exists.intro
                refine And.intro (fun wx hx => ?_) ?_
                · have e0 := below_fact hx rfl j0
                  have e1 := below_fact hx rfl j1
                  have e2 := below_fact hx rfl j2
                  go_simp
                  try rfl
                go_simp
                refine hK1 _ ?_
                clear hK1 K1
                refine wpPre_nil ?_
                refine wpTr_two rfl rfl (fun K1 hK1 => ?_) (fun K1 hK1 => ?_)
                · refine step_call rfl 11 #[.tmp 77] _ rfl Try.f11 Try.func11 (by kernel_rfl) rfl #[.agg #[.int .i64 an, .slice a.p a.n a.c]] rfl _ (HSa.out _ ((Below.refl wr.heap.size wr).drew)) (fun r w24 h24 => ?_)
                  obtain ⟨rfl, hb24⟩ := h24
                  have HB24 : Hid (Below wr.heap.size wr w24) := ((Below.refl wr.heap.size wr).drew).trans (hb24.mono ((Below.refl wr.heap.size wr).drew).size)
                  have HBs24 := hid hb24
                  clear hb24
                  refine ⟨_, rfl, ?_⟩
                  go_simp
                  refine hK1 _ _ (fun _ => HB24.out) ?_
                  clear hK1 K1
                  refine wpPre_nil ?_
                  refine wpTr_two rfl rfl (fun K1 hK1 => ?_) (fun K1 hK1 => ?_)
                  · refine step_call rfl 14 #[.tmp 78, .tmp 79] _ rfl Try.f14 Try.func14 (by kernel_rfl) rfl #[.agg #[.int .i64 cn1, .slice a1.p a1.n a1.c], .agg #[.int .i64 j.num, .slice j.set.p j.set.n j.set.c, .slice j.gone.p j.gone.n j.gone.c]] rfl _ (HAp.out _ (HB24.out)) (fun r w25 h25 => ?_)
                    obtain ⟨hb25, tn, t, cc, rfl, hti25, hxx25⟩ := h25
                    have HB25 : Hid (Below wr.heap.size wr w25) := (HB24.out).trans (hb25.mono (HB24.out).size)
                    have HBs25 := hid hb25
                    have HTi25 := hid hti25
                    have HXx25 := hid hxx25
                    clear hti25 hxx25
                    clear hb25
                    refine ⟨_, rfl, ?_⟩
                    go_simp
                    refine hK1 _ _ (fun h => by cases h) ?_
                    clear hK1 K1
                    refine wpPre_e rfl rfl (fun K1 hK1 => ?_)
                    apply Exists.intro
                    refine And.intro (fun wx hx => ?_) ?_
                    · go_simp
                      try rfl
                    go_simp
                    refine hK1 _ ?_
                    clear hK1 K1
                    refine wpPre_e rfl rfl (fun K1 hK1 => ?_)
                    apply Exists.intro
                    refine And.intro (fun wx hx => ?_) ?_
                    · go_simp
                      try rfl
                    go_simp
                    refine hK1 _ ?_
                    clear hK1 K1
                    refine wpPre_e rfl rfl (fun K1 hK1 => ?_)
                    apply Exists.intro
                    refine And.intro (fun wx hx => ?_) ?_
                    · go_simp
                      try rfl
                    go_simp
                    refine hK1 _ ?_
                    clear hK1 K1
                    refine wpPre_nil ?_
                    refine wpTr_e rfl (fun K1 hK1 => ?_)
                    go_simp
                    have hb26 : Below w25.heap.size w25 ((w25.alloc (.cells #[.int .i64 0, .slice none 0 0] 24))) := ((Below.refl w25.heap.size w25).alloc (Nat.le_refl _) _)
                    have HB26 : Hid (Below wr.heap.size wr ((w25.alloc (.cells #[.int .i64 0, .slice none 0 0] 24)))) := (HB25.out).trans (hb26.mono (HB25.out).size)
                    have hx26 : Box ((w25.alloc (.cells #[.int .i64 0, .slice none 0 0] 24))) w25.heap.size #[.int .i64 0, .slice none 0 0] 24 := Box.new _ _ _
                    have HX26 := hid hx26
                    have HBs26 := hid hb26
                    clear hx26 hb26
                    refine hK1 _ _ (fun _ => HB26.out) ?_
                    clear hK1 K1
                    refine wpPre_nil ?_
                    refine wpTr_e rfl (fun K1 hK1 => ?_)
                    have hz27 := HX26.out
                    have q0 := hz27.cell 0
                    have q1 := hz27.cell 1
                    have g0 := hz27.frozen 0
                    have g1 := hz27.frozen 1
                    have ql := hz27.lt
                    simp at q0 q1
                    have HZ27 := hid hz27
                    clear hz27
                    go_simp
                    refine hK1 _ _ (fun h => by cases h) ?_
                    clear hK1 K1 q0 g0 q1 g1 ql
                    refine wpPre_e rfl rfl (fun K1 hK1 => ?_)
                    apply Exists.intro
                    refine And.intro (fun wx hx => ?_) ?_
                    · go_simp
                      try rfl
                    go_simp
                    refine hK1 _ ?_
                    clear hK1 K1
                    refine wpPre_nil ?_
                    refine wpTr_done ?_
                    go_wp2_with fail
                    go_meet
                    exact ⟨tn, t, cc, w25.heap.size, rfl, rfl, Box.new _ _ _, (((HTi25.out).below ((Below.refl _ _).alloc (Nat.le_refl _) _)).mono (S' := fun k => wr.heap.size ≤ k) fun b hb _ => Nat.le_trans ((HB24.out).size) hb), HXx25.out, ((HB25.out).trans (((Below.refl _ _).alloc (Nat.le_refl _) _).mono (HB25.out).size))⟩
                  · go_simp
                    have hb28 : Below w24.heap.size w24 ((w24.alloc (.cells #[.int .i64 0, .slice none 0 0] 24))) := ((Below.refl w24.heap.size w24).alloc (Nat.le_refl _) _)
                    have HB28 : Hid (Below wr.heap.size wr ((w24.alloc (.cells #[.int .i64 0, .slice none 0 0] 24)))) := (HB24.out).trans (hb28.mono (HB24.out).size)
                    have hx28 : Box ((w24.alloc (.cells #[.int .i64 0, .slice none 0 0] 24))) w24.heap.size #[.int .i64 0, .slice none 0 0] 24 := Box.new _ _ _
                    have HX28 := hid hx28
                    have HBs28 := hid hb28
                    clear hx28 hb28
                    refine hK1 _ _ (fun _ => HB28.out) ?_
                    clear hK1 K1
                    refine wpPre_nil ?_
                    refine wpTr_e rfl (fun K1 hK1 => ?_)
                    refine step_call rfl 14 #[.tmp 78, .tmp 79] _ rfl Try.f14 Try.func14 (by kernel_rfl) rfl #[.agg #[.int .i64 cn1, .slice a1.p a1.n a1.c], .agg #[.int .i64 j.num, .slice j.set.p j.set.n j.set.c, .slice j.gone.p j.gone.n j.gone.c]] rfl _ (HAp.out _ (HB28.out)) (fun r w29 h29 => ?_)
                    obtain ⟨hb29, tn, t, cc, rfl, hti29, hxx29⟩ := h29
                    have HB29 : Hid (Below wr.heap.size wr w29) := (HB28.out).trans (hb29.mono (HB28.out).size)
                    have HBs29 := hid hb29
                    have HTi29 := hid hti29
                    have HXx29 := hid hxx29
                    clear hti29 hxx29
                    clear hb29
                    refine ⟨_, rfl, ?_⟩
                    go_simp
                    refine hK1 _ _ (fun h => by cases h) ?_
                    clear hK1 K1
                    refine wpPre_e rfl rfl (fun K1 hK1 => ?_)
                    apply Exists.intro
                    refine And.intro (fun wx hx => ?_) ?_
                    · go_simp
                      try rfl
                    go_simp
                    refine hK1 _ ?_
                    clear hK1 K1
                    refine wpPre_e rfl rfl (fun K1 hK1 => ?_)
                    apply Exists.intro
                    refine And.intro (fun wx hx => ?_) ?_
                    · go_simp
                      try rfl
                    go_simp
                    refine hK1 _ ?_
                    clear hK1 K1
                    refine wpPre_e rfl rfl (fun K1 hK1 => ?_)
                    apply Exists.intro
                    refine And.intro (fun wx hx => ?_) ?_
                    · go_simp
                      try rfl
                    go_simp
                    refine hK1 _ ?_
                    clear hK1 K1
                    refine wpPre_nil ?_
                    refine wpTr_e rfl (fun K1 hK1 => ?_)
                    have hz30 := (HX28.out).below HBs29.out
                    have q0 := hz30.cell 0
                    have q1 := hz30.cell 1
                    have g0 := hz30.frozen 0
                    have g1 := hz30.frozen 1
                    have ql := hz30.lt
                    simp at q0 q1
                    have HZ30 := hid hz30
                    have HBt30 : Hid (But (fun k => k = w24.heap.size) w29 ((w29.setCell ⟨w24.heap.size, 0, none⟩ (.int .i64 tn)).setCell ⟨w24.heap.size, 1, none⟩ (.slice t.p t.n t.c))) := ((But.one _ _).setAt 0 _).setAt 1 _
                    clear hz30
                    go_simp
                    refine hK1 _ _ (fun h => by cases h) ?_
                    clear hK1 K1 q0 g0 q1 g1 ql
                    refine wpPre_e rfl rfl (fun K1 hK1 => ?_)
                    apply Exists.intro
                    refine And.intro (fun wx hx => ?_) ?_
                    · go_simp
                      try rfl
                    go_simp
                    refine hK1 _ ?_
                    clear hK1 K1
                    refine wpPre_nil ?_
                    refine wpTr_done ?_
                    go_wp2_with fail
                    go_meet
                    exact ⟨tn, t, cc, w24.heap.size, rfl, rfl, by simpa using ((HZ30.out.set 0 (.int .i64 tn)).set 1 (.slice t.p t.n t.c)), (((HTi29.out).but HBt30.out (fun k hk _ e => absurd (e ▸ hk : ((w24.alloc (.cells #[.int .i64 0, .slice none 0 0] 24))).heap.size ≤ w24.heap.size) (by have := (HX28.out).lt; omega))).mono (S' := fun k => wr.heap.size ≤ k) fun b hb _ => Nat.le_trans ((HB28.out).size) hb), HXx29.out, ((HB29.out).trans (HBt30.out.below (HB29.out).size fun k hk => by have := (HB24.out).size; omega))⟩
                · go_simp
                  have hb31 : Below wr.heap.size wr ((wr.alloc (.cells #[.int .i64 0, .slice none 0 0] 24)).drew) := ((Below.refl wr.heap.size wr).alloc (Nat.le_refl _) _).drew
                  have HB31 : Hid (Below wr.heap.size wr ((wr.alloc (.cells #[.int .i64 0, .slice none 0 0] 24)).drew)) := hb31
                  have hx31 : Box ((wr.alloc (.cells #[.int .i64 0, .slice none 0 0] 24)).drew) wr.heap.size #[.int .i64 0, .slice none 0 0] 24 := (Box.new _ _ _).below (Below.refl _ _).drew
                  have HX31 := hid hx31
                  have HBs31 := hid hb31
                  clear hx31 hb31
                  refine hK1 _ _ (fun _ => HB31.out) ?_
                  clear hK1 K1
                  refine wpPre_nil ?_
                  refine wpTr_e rfl (fun K1 hK1 => ?_)
                  refine step_call rfl 11 #[.tmp 77] _ rfl Try.f11 Try.func11 (by kernel_rfl) rfl #[.agg #[.int .i64 an, .slice a.p a.n a.c]] rfl _ (HSa.out _ (HB31.out)) (fun r w32 h32 => ?_)
                  obtain ⟨rfl, hb32⟩ := h32
                  have HB32 : Hid (Below wr.heap.size wr w32) := (HB31.out).trans (hb32.mono (HB31.out).size)
                  have HBs32 := hid hb32
                  clear hb32
                  refine ⟨_, rfl, ?_⟩
                  go_simp
                  refine hK1 _ _ (fun _ => HB32.out) ?_
                  clear hK1 K1
                  refine wpPre_nil ?_
                  refine wpTr_e rfl (fun K1 hK1 => ?_)
                  refine step_call rfl 14 #[.tmp 78, .tmp 79] _ rfl Try.f14 Try.func14 (by kernel_rfl) rfl #[.agg #[.int .i64 cn1, .slice a1.p a1.n a1.c], .agg #[.int .i64 j.num, .slice j.set.p j.set.n j.set.c, .slice j.gone.p j.gone.n j.gone.c]] rfl _ (HAp.out _ (HB32.out)) (fun r w33 h33 => ?_)
                  obtain ⟨hb33, tn, t, cc, rfl, hti33, hxx33⟩ := h33
                  have HB33 : Hid (Below wr.heap.size wr w33) := (HB32.out).trans (hb33.mono (HB32.out).size)
                  have HBs33 := hid hb33
                  have HTi33 := hid hti33
                  have HXx33 := hid hxx33
                  clear hti33 hxx33
                  clear hb33
                  refine ⟨_, rfl, ?_⟩
                  go_simp
                  refine hK1 _ _ (fun h => by cases h) ?_
                  clear hK1 K1
                  refine wpPre_e rfl rfl (fun K1 hK1 => ?_)
                  apply Exists.intro
                  refine And.intro (fun wx hx => ?_) ?_
                  · go_simp
                    try rfl
                  go_simp
                  refine hK1 _ ?_
                  clear hK1 K1
                  refine wpPre_e rfl rfl (fun K1 hK1 => ?_)
                  apply Exists.intro
                  refine And.intro (fun wx hx => ?_) ?_
                  · go_simp
                    try rfl
                  go_simp
                  refine hK1 _ ?_
                  clear hK1 K1
                  refine wpPre_e rfl rfl (fun K1 hK1 => ?_)
                  apply Exists.intro
                  refine And.intro (fun wx hx => ?_) ?_
                  · go_simp
                    try rfl
                  go_simp
                  refine hK1 _ ?_
                  clear hK1 K1
                  refine wpPre_nil ?_
                  refine wpTr_e rfl (fun K1 hK1 => ?_)
                  have hz34 := ((HX31.out).below HBs32.out).below HBs33.out
                  have q0 := hz34.cell 0
                  have q1 := hz34.cell 1
                  have g0 := hz34.frozen 0
                  have g1 := hz34.frozen 1
                  have ql := hz34.lt
                  simp at q0 q1
                  have HZ34 := hid hz34
                  have HBt34 : Hid (But (fun k => k = wr.heap.size) w33 ((w33.setCell ⟨wr.heap.size, 0, none⟩ (.int .i64 tn)).setCell ⟨wr.heap.size, 1, none⟩ (.slice t.p t.n t.c))) := ((But.one _ _).setAt 0 _).setAt 1 _
                  clear hz34
                  go_simp
                  refine hK1 _ _ (fun h => by cases h) ?_
                  clear hK1 K1 q0 g0 q1 g1 ql
                  refine wpPre_e rfl rfl (fun K1 hK1 => ?_)
                  apply Exists.intro
                  refine And.intro (fun wx hx => ?_) ?_
                  · go_simp
                    try rfl
                  go_simp
                  refine hK1 _ ?_
                  clear hK1 K1
                  refine wpPre_nil ?_
                  refine wpTr_done ?_
                  go_wp2_with fail
                  go_meet
                  exact ⟨tn, t, cc, wr.heap.size, rfl, rfl, by simpa using ((HZ34.out.set 0 (.int .i64 tn)).set 1 (.slice t.p t.n t.c)), (((HTi33.out).but HBt34.out (fun k hk _ e => absurd (e ▸ hk : w32.heap.size ≤ wr.heap.size) (by have := ((HX31.out).below HBs32.out).lt; omega))).mono (S' := fun k => wr.heap.size ≤ k) fun b hb _ => Nat.le_trans ((HB32.out).size) hb), HXx33.out, ((HB33.out).trans (HBt34.out.below (HB33.out).size fun k hk => by have := Nat.le_refl wr.heap.size; omega))⟩
              case rest =>
                obtain ⟨tn, t, cc, bz, rfl, rfl, hbx, hti, hcc, hbel⟩ := hcut
                obtain ⟨wy, hwc⟩ : ∃ x, x = wc := ⟨_, rfl⟩
                subst hwc
                have HBy : Hid (Below w.heap.size w wy) := HB.out.trans ((HBx.out.trans (hbel.mono HBx.out.size)).mono HB.out.size)
                have HLa := HLd.out.apply HCa1.out (chkState_rise HCb1.out).2.1
                clear c0 c1 j0 j1 j2 jl
                by_cases hc : cc = 0
                · subst hc
                  have HSm : Hid (tn = dn1 ∧ LsAlk t b1) := ⟨(hcc.2.1 rfl).1.trans HLd.out.num, HLa.2 t (hcc.2.1 rfl).2.1⟩
                  have hbel' := hbel
                  have d0 : wy.cell? ⟨bb, o + m * 2, none⟩ = some (.int .i64 bn) := (World.cell?_of_block (a := ⟨bb, o + m * 2, none⟩) (hbel.block bb (Nat.lt_of_lt_of_le hbb HBx.out.size))).trans (HCE.out m 0 _ (by omega) (by rw [HIB.out]; rfl))
                  have d1 : wy.cell? ⟨bb, o + m * 2 + 1, none⟩ = some (.slice b.p b.n b.c) := (World.cell?_of_block (a := ⟨bb, o + m * 2 + 1, none⟩) (hbel.block bb (Nat.lt_of_lt_of_le hbb HBx.out.size))).trans (HCE.out m 1 _ (by omega) (by rw [HIB.out]; rfl))
                  have s0 := hbx.cell 0
                  have s1 := hbx.cell 1
                  have sl := hbx.lt
                  simp at s0 s1
                  have HSb' : Hid (∀ X, Below wy.heap.size wy X → Calls Try.prog 11 #[.agg #[.int .i64 bn, .slice b.p b.n b.c]] X fun e w' => e = .returned (.agg #[.int .i64 dn1, .slice b1.p b1.n b1.c]) ∧ Below X.heap.size X w') := fun X hX => HSb.out X (hbel'.trans (hX.mono hbel'.size))
                  have HYs : Hid (∀ X, Below wy.heap.size wy X → Calls Try.prog 15 #[.agg #[.int .i64 tn, .slice t.p t.n t.c], .agg #[.int .i64 dn1, .slice b1.p b1.n b1.c]] X fun e w' => YesNo (tn = dn1 ∧ LsAlk t b1) e X w') := fun X hX => yStat tn dn1 t b1 X _ _ (hti.below hX) (((HIb1.out.below HBx.out).below hbel').below hX)
                  have HBz := hid hbel
                  clear hbx hti hcc hbel hbel' HLa HSb HSa HAp
                  have HSb := HSb'
                  have hmm : (m : Int) < (m : Int) + 1 := by omega
                  go_upto_region 26 with fail
                  refine wp_region_calmE 30 (fun wx => Below wy.heap.size wy wx) [(0, false), (1, true), (2, true), (3, true), (4, true), (5, true), (6, false)] (.one 7 true [] (.one 8 false [(9, true)] .done)) (by kernel_rfl) (by kernel_rfl) (Below.refl _ _).drew ?_
                  refine wpPre_e rfl rfl (fun K1 hK1 => ?_)
                  apply Exists.intro
                  refine And.intro (fun wx hx => ?_) ?_
                  · have e0 := below_fact hx rfl s0
                    have e1 := below_fact hx rfl s1
                    go_simp
                    try rfl
                  go_simp
                  refine hK1 _ ?_
                  clear hK1 K1
                  refine wpPre_e rfl rfl (fun K1 hK1 => ?_)
                  apply Exists.intro
                  refine And.intro (fun wx hx => ?_) ?_
                  · go_simp
                    try rfl
                  go_simp
                  refine hK1 _ ?_
                  clear hK1 K1
                  refine wpPre_e rfl rfl (fun K1 hK1 => ?_)
                  apply Exists.intro
                  refine And.intro (fun wx hx => ?_) ?_
                  · go_simp
                    try rfl
                  go_simp
                  refine hK1 _ ?_
                  clear hK1 K1
                  refine wpPre_e rfl rfl (fun K1 hK1 => ?_)
                  apply Exists.intro
                  refine And.intro (fun wx hx => ?_) ?_
                  · go_simp
                    try rfl
                  go_simp
                  refine hK1 _ ?_
                  clear hK1 K1
                  refine wpPre_e rfl rfl (fun K1 hK1 => ?_)
                  apply Exists.intro
                  refine And.intro (fun wx hx => ?_) ?_
                  · go_simp
                    try rfl
                  go_simp
                  refine hK1 _ ?_
                  clear hK1 K1
                  rw [show IntKind.i64.wrap (m : Int) = (m : Int) from by rw [IntKind.wrap_i64]; omega]
                  refine wpPre_e rfl rfl (fun K1 hK1 => ?_)
                  apply Exists.intro
                  refine And.intro (fun wx hx => ?_) ?_
                  · go_simp
                    try rfl
                  go_simp
                  refine hK1 _ ?_
                  clear hK1 K1
                  refine wpPre_e rfl rfl (fun K1 hK1 => ?_)
                  apply Exists.intro
                  refine And.intro (fun wx hx => ?_) ?_
                  · have e0 := below_fact hx rfl d0
                    have e1 := below_fact hx rfl d1
                    go_simp
                    try rfl
                  go_simp
                  refine hK1 _ ?_
                  clear hK1 K1
                  refine wpPre_nil ?_
                  refine wpTr_e rfl (fun K1 hK1 => ?_)
                  refine step_call rfl 11 #[.tmp 93] _ rfl Try.f11 Try.func11 (by kernel_rfl) rfl #[.agg #[.int .i64 bn, .slice b.p b.n b.c]] rfl _ (HSb.out _ (Below.refl wy.heap.size wy).drew) (fun r w3 h3 => ?_)
                  obtain ⟨rfl, hb3⟩ := h3
                  have HB3 : Hid (Below wy.heap.size wy w3) := (Below.refl wy.heap.size wy).drew.trans hb3
                  clear hb3
                  refine ⟨_, rfl, ?_⟩
                  go_simp
                  refine hK1 _ _ (fun _ => HB3.out) ?_
                  clear hK1 K1
                  refine wpPre_nil ?_
                  refine wpTr_e rfl (fun K1 hK1 => ?_)
                  refine step_call rfl 15 #[.tmp 87, .tmp 94] _ rfl Try.f15 Try.func15 (by kernel_rfl) rfl #[.agg #[.int .i64 tn, .slice t.p t.n t.c], .agg #[.int .i64 dn1, .slice b1.p b1.n b1.c]] rfl _ (HYs.out _ HB3.out) (fun r w4 h4 => ?_)
                  obtain ⟨q, rfl, hq, hb4⟩ := h4
                  obtain rfl : q = true := hq.2 HSm.out
                  have HB4 : Hid (Below wy.heap.size wy w4) := HB3.out.trans (hb4.mono HB3.out.size)
                  clear hb4 hq
                  refine ⟨_, rfl, ?_⟩
                  go_simp
                  refine hK1 _ _ (fun h => by cases h) ?_
                  clear hK1 K1
                  refine wpPre_e rfl rfl (fun K1 hK1 => ?_)
                  apply Exists.intro
                  refine And.intro (fun wx hx => ?_) ?_
                  · go_simp
                    try rfl
                  go_simp
                  refine hK1 _ ?_
                  clear hK1 K1
                  refine wpPre_nil ?_
                  refine wpTr_done ?_
                  have HBf : Hid (Below w.heap.size w w4) := HBy.out.trans (HB4.out.mono HBy.out.size)
                  have HBg : Hid (Below wo.heap.size wo w4) := HBq.out.trans ((HBz.out.trans (HB4.out.mono HBz.out.size)).mono HBq.out.size)
                  clear d0 d1 s0 s1 sl HYs HSb
                  by_cases h3 : m < 3
                  · have h3' : (m : Int) < 3 := by omega
                    go_wp2
                    exact bodyPost_ret (v := .bool true) (by simp [results, Try.results6, go_sem]) rfl ⟨rfl, HBf.out⟩
                  · have h3' : ¬ (m : Int) < 3 := by omega
                    have hcf : ∀ i r u, i < m → (elD.cells (g i))[r]? = some u → w4.cell? ⟨db, dq + i * 3 + r, none⟩ = some u := fun i r u hi hu => (World.cell?_of_block (a := ⟨db, dq + i * 3 + r, none⟩) (HBg.out.block db HDB.out.2)).trans (HCD.out i r u hi hu)
                    have f0 : w4.cell? ⟨db, dq, none⟩ = some (.int .i64 (g 0).num) := by have h := hcf 0 0 _ (by omega) rfl; simpa using h
                    have f1 : w4.cell? ⟨db, dq + 1, none⟩ = some (.slice (g 0).set.p (g 0).set.n (g 0).set.c) := by have h := hcf 0 1 _ (by omega) rfl; simpa using h
                    have f2 : w4.cell? ⟨db, dq + 2, none⟩ = some (.slice (g 0).gone.p (g 0).gone.n (g 0).gone.c) := by have h := hcf 0 2 _ (by omega) rfl; simpa using h
                    have g0 : w4.cell? ⟨db, dq + 3, none⟩ = some (.int .i64 (g 1).num) := by have h := hcf 1 0 _ (by omega) rfl; simpa using h
                    have g1 : w4.cell? ⟨db, dq + 4, none⟩ = some (.slice (g 1).set.p (g 1).set.n (g 1).set.c) := by have h := hcf 1 1 _ (by omega) rfl; simpa using h
                    have g2 : w4.cell? ⟨db, dq + 5, none⟩ = some (.slice (g 1).gone.p (g 1).gone.n (g 1).gone.c) := by have h := hcf 1 2 _ (by omega) rfl; simpa using h
                    have h0 : w4.cell? ⟨db, dq + 6, none⟩ = some (.int .i64 (g 2).num) := by have h := hcf 2 0 _ (by omega) rfl; simpa using h
                    have h1 : w4.cell? ⟨db, dq + 7, none⟩ = some (.slice (g 2).set.p (g 2).set.n (g 2).set.c) := by have h := hcf 2 1 _ (by omega) rfl; simpa using h
                    have h2 : w4.cell? ⟨db, dq + 8, none⟩ = some (.slice (g 2).gone.p (g 2).gone.n (g 2).gone.c) := by have h := hcf 2 2 _ (by omega) rfl; simpa using h
                    have HDi : Hid (∀ q, q < m → DT.In w4.drew (fun k => k < w4.drew.heap.size) (g q)) := fun q hq => (((HD.out.each q hq).below HBg.out).below (Below.refl _ _).drew).mono fun b _ h => h
                    have HAs := hid (assoc_any (g 0) (g 1) (g 2) w4.drew (fun k => k < w4.drew.heap.size) (HDi.out 0 (by omega)) (HDi.out 1 (by omega)) (HDi.out 2 (by omega)) (fun k h => h) (HG.out 0 (by omega)).sz (HG.out 1 (by omega)).sz (HG.out 2 (by omega)).sz)
                    have k1 : (1 : Int) < (m : Int) := by omega
                    have k2 : (2 : Int) < (m : Int) := by omega
                    clear hcf
                    go_upto_region 30 with fail
                    refine wp_region_calmE 30 (fun wx => Below w4.heap.size w4 wx) [(0, true), (1, true), (2, false), (3, true), (4, true), (5, false), (6, true), (7, true), (8, false)] (.one 9 false [(10, true)] .done) (by kernel_rfl) (by kernel_rfl) (Below.refl _ _).drew ?_
                    refine wpPre_e rfl rfl (fun K1 hK1 => ?_)
                    apply Exists.intro
                    refine And.intro (fun wx hx => ?_) ?_
                    · go_simp
                      try rfl
                    go_simp
                    refine hK1 _ ?_
                    clear hK1 K1
                    refine wpPre_e rfl rfl (fun K1 hK1 => ?_)
                    apply Exists.intro
                    refine And.intro (fun wx hx => ?_) ?_
                    · go_simp
                      try rfl
                    go_simp
                    refine hK1 _ ?_
                    clear hK1 K1
                    refine wpPre_e rfl rfl (fun K1 hK1 => ?_)
                    apply Exists.intro
                    refine And.intro (fun wx hx => ?_) ?_
                    · have e0 := below_fact hx rfl f0
                      have e1 := below_fact hx rfl f1
                      have e2 := below_fact hx rfl f2
                      go_simp
                      try rfl
                    go_simp
                    refine hK1 _ ?_
                    clear hK1 K1
                    refine wpPre_e rfl rfl (fun K1 hK1 => ?_)
                    apply Exists.intro
                    refine And.intro (fun wx hx => ?_) ?_
                    · go_simp
                      try rfl
                    go_simp
                    refine hK1 _ ?_
                    clear hK1 K1
                    refine wpPre_e rfl rfl (fun K1 hK1 => ?_)
                    apply Exists.intro
                    refine And.intro (fun wx hx => ?_) ?_
                    · go_simp
                      try rfl
                    go_simp
                    refine hK1 _ ?_
                    clear hK1 K1
                    refine wpPre_e rfl rfl (fun K1 hK1 => ?_)
                    apply Exists.intro
                    refine And.intro (fun wx hx => ?_) ?_
                    · have e0 := below_fact hx rfl g0
                      have e1 := below_fact hx rfl g1
                      have e2 := below_fact hx rfl g2
                      go_simp
                      try rfl
                    go_simp
                    refine hK1 _ ?_
                    clear hK1 K1
                    refine wpPre_e rfl rfl (fun K1 hK1 => ?_)
                    apply Exists.intro
                    refine And.intro (fun wx hx => ?_) ?_
                    · go_simp
                      try rfl
                    go_simp
                    refine hK1 _ ?_
                    clear hK1 K1
                    refine wpPre_e rfl rfl (fun K1 hK1 => ?_)
                    apply Exists.intro
                    refine And.intro (fun wx hx => ?_) ?_
                    · go_simp
                      try rfl
                    go_simp
                    refine hK1 _ ?_
                    clear hK1 K1
                    refine wpPre_e rfl rfl (fun K1 hK1 => ?_)
                    apply Exists.intro
                    refine And.intro (fun wx hx => ?_) ?_
                    · have e0 := below_fact hx rfl h0
                      have e1 := below_fact hx rfl h1
                      have e2 := below_fact hx rfl h2
                      go_simp
                      try rfl
                    go_simp
                    refine hK1 _ ?_
                    clear hK1 K1
                    refine wpPre_nil ?_
                    refine wpTr_e rfl (fun K1 hK1 => ?_)
                    refine step_call rfl 21 #[.tmp 102, .tmp 105, .tmp 108] _ rfl Try.f21 Try.func21 (by kernel_rfl) rfl #[.agg #[.int .i64 (g 0).num, .slice (g 0).set.p (g 0).set.n (g 0).set.c, .slice (g 0).gone.p (g 0).gone.n (g 0).gone.c], .agg #[.int .i64 (g 1).num, .slice (g 1).set.p (g 1).set.n (g 1).set.c, .slice (g 1).gone.p (g 1).gone.n (g 1).gone.c], .agg #[.int .i64 (g 2).num, .slice (g 2).set.p (g 2).set.n (g 2).set.c, .slice (g 2).gone.p (g 2).gone.n (g 2).gone.c]] rfl _ HAs.out (fun r w5 h5 => ?_)
                    obtain ⟨rfl, hb5⟩ := h5
                    have HB5 : Hid (Below w.heap.size w w5) := HBf.out.trans ((Below.refl w4.heap.size w4).drew.trans hb5 |>.mono HBf.out.size)
                    clear hb5
                    refine ⟨_, rfl, ?_⟩
                    go_simp
                    refine hK1 _ _ (fun h => by cases h) ?_
                    clear hK1 K1
                    refine wpPre_e rfl rfl (fun K1 hK1 => ?_)
                    apply Exists.intro
                    refine And.intro (fun wx hx => ?_) ?_
                    · go_simp
                      try rfl
                    go_simp
                    refine hK1 _ ?_
                    clear hK1 K1
                    refine wpPre_nil ?_
                    refine wpTr_done ?_
                    go_wp2
                    exact bodyPost_ret (v := .bool true) (by simp [results, Try.results6, go_sem]) rfl ⟨rfl, HB5.out⟩
                · have h110 : cc = 110 := by
                    have h := HLa.1 (fun h0 => hc (by rw [hcc.1, h0]; rfl))
                    rw [hcc.1, h]; rfl
                  subst h110
                  clear hbx hti hcc hbel HLa
                  go_wp2
                  exact bodyPost_ret (v := .bool true) (by simp [results, Try.results6, go_sem]) rfl ⟨rfl, HBy.out⟩
end Go.Proofs.Ytckopbkhpbhljaa
