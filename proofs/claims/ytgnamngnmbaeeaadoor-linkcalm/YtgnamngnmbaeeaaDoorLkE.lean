import Derived.Test.YtgnamngnmbaeeaaDoorPack11
namespace Go.Proofs.YtgnamngnmbaeeaaDoor
open Go.RowKit
set_option maxRecDepth 8000
theorem oneu8 (zs : List Int) : ∀ u ∈ zs.map (Value.int .u8), u.oneCell' = true := by
  intro u hu
  obtain ⟨z, _, rfl⟩ := List.mem_map.1 hu
  rfl
theorem grp_byt : ∀ u : Nat, ∀ z ∈ grpB u, 0 ≤ z ∧ z < 256 := by
  intro u
  induction u using Nat.strongRecOn with
  | _ u ih =>
    by_cases h : u < 128
    · rw [grpB_small h]
      intro z hz
      simp only [List.mem_singleton] at hz
      omega
    · rw [grpB_great h]
      intro z hz
      rcases List.mem_cons.1 hz with rfl | hz
      · omega
      · exact ih (u / 128) (by omega) z hz
theorem OwnBy.bytes {base : Nat} {w : World} {p : Option Addr} {n c : Nat} {zs : List Int} (h : OwnBy base w (.slice p n c) zs) (hz : ∀ z ∈ zs, 0 ≤ z ∧ z < 256) : Bytes w p zs := by
  refine ⟨fun hn => ?_, hz⟩
  obtain ⟨b, c', e, _, hl⟩ := h.slice hn
  simp only [Value.slice.injEq] at e
  refine ⟨b, 0, e.1, hl.1, fun i hi => ?_⟩
  have h1 := @World.ownsRow.cells _ _ _ _ _ _ _ h
  have hg : (Value.slice p n c).ownBlock = some b := by rw [e.1]; rfl
  have h2 := h1 hg i (.int .u8 (zs.getD i 0)) (by rw [List.getElem?_map, List.getElem?_eq_getElem hi, List.getD_eq_getElem?_getD, List.getElem?_eq_getElem hi]; rfl)
  rw [Go.WideShapes.add_plain] at h2
  exact h2
theorem own_shape {base : Nat} {w : World} {v : Value} {zs : List Int} (h : OwnBy base w v zs) : ∃ p c, v = .slice p zs.length c := by
  obtain ⟨hl, ⟨hv, h0⟩ | ⟨g, cap, cur, hv, _⟩⟩ := h
  · exact ⟨none, 0, by rw [hv, h0]⟩
  · exact ⟨_, _, hv⟩
/-- the numbers of a packet, one behind the other -/
def numsB (l : List Nat) : List Int := l.flatMap grpB
theorem numsB_len : ∀ l : List Nat, (∀ u ∈ l, u < 34359738368) → (numsB l).length ≤ l.length * 10
  | [], _ => by simp [numsB]
  | u :: l, h => by
    have h1 := grpB_len 9 u (Nat.lt_of_lt_of_le (h u List.mem_cons_self) (by decide))
    have h2 := numsB_len l fun x hx => h x (List.mem_cons_of_mem _ hx)
    unfold numsB at h2 ⊢
    rw [List.flatMap_cons, List.length_append, List.length_cons]
    omega
theorem numsB_take {l : List Nat} {i : Nat} {u : Nat} (h : l[i]? = some u) : numsB (l.take (i + 1)) = numsB (l.take i) ++ grpB u := by
  unfold numsB
  obtain ⟨hi, rfl⟩ := List.getElem?_eq_some_iff.1 h
  rw [List.take_succ_eq_append_getElem hi, List.flatMap_append]
  simp
theorem numsB_byt (l : List Nat) : ∀ z ∈ numsB l, 0 ≤ z ∧ z < 256 := fun z hz => by
  obtain ⟨u, _, h⟩ := List.mem_flatMap.1 hz
  exact grp_byt u z h
/-- what a packet's body is -/
def bodyB (kd : Int) (nums : List Nat) (ms : List Int) : List Int := kd :: (numsB nums ++ ms)
def PktQ (B : List Int) (w : World) (e : Ending) (w' : World) : Prop := ∃ p c, e = .returned (.slice p (frameOf B).length c) ∧ OwnB w.heap.size w' p c (frameOf B) ∧ Below w.heap.size w w'
set_option maxHeartbeats 8000000 in
theorem packet_core (kd : Int) (c1 c2 c3 : Int) (nums : List Nat) (ms : BS) (w V : World) (lb : Nat) (pcs : Array Value)
    (hk : 0 ≤ kd ∧ kd < 256) (hlb : lb = w.heap.size) (hV : V = w.alloc (.cells #[.int .u8 kd, .int .i64 c1, .int .i64 c2, .int .i64 c3, ms.val] 100))
    (HP : ∀ W, Below V.heap.size V W → Calls Tryd.prog 69 #[.pointer (some ⟨lb, 0, none⟩)] W fun e w' => ∃ g, e = .returned (.slice (some ⟨g, 0, none⟩) (nums.length + 1) (nums.length + 1)) ∧ W.heap.size ≤ g ∧ Box w' g pcs 129 ∧ Below W.heap.size W w')
    (hp0 : ∀ i, i < nums.length → pcs[i * 3]? = some (.pointer (some ⟨lb, i + 1, none⟩)) ∧ ∃ x y, pcs[i * 3 + 1]? = some (.int .i64 x) ∧ pcs[i * 3 + 2]? = some (.int .i64 y)) (hp1 : pcs[nums.length * 3]? = some (.pointer none) ∧ ∃ x y, pcs[nums.length * 3 + 1]? = some (.int .i64 x) ∧ pcs[nums.length * 3 + 2]? = some (.int .i64 y))
    (hn : ∀ i u, nums[i]? = some u → u < 34359738368 ∧ (#[.int .u8 kd, .int .i64 c1, .int .i64 c2, .int .i64 c3, ms.val] : Array Value)[i + 1]? = some (.int .i64 (u : Int)))
    (hl : nums.length ≤ 3) (hm : ms.In w (fun k => k < w.heap.size)) (hmz : ms.zs.length ≤ 4096) (hT : Tab w) :
    Calls Tryd.prog 50 #[.agg #[.int .u8 kd, .int .i64 c1, .int .i64 c2, .int .i64 c3, ms.val]] w fun e w' => PktQ (bodyB kd nums ms.zs) w e w' := by
  obtain ⟨i0, K0⟩ := kindB
  have hB : Below w.heap.size w V := by rw [hV]; exact (Below.refl _ _).alloc (Nat.le_refl _) _
  have hX : Box V lb #[.int .u8 kd, .int .i64 c1, .int .i64 c2, .int .i64 c3, ms.val] 100 := by rw [hV, hlb]; exact Box.new _ _ _
  obtain ⟨N, hN⟩ : ∃ N, N = nums.length := ⟨_, rfl⟩
  rw [← hN] at HP hp0 hp1 hl
  have HV := hid hV
  have HLb := hid hlb
  have HB := hid hB
  have HX := hid hX
  have HK := hid K0
  have HPp := hid HP
  have Hp0 := hid hp0
  have Hp1 := hid hp1
  have Hn := hid hn
  have HNn := hid hN
  have Hm := hid hm
  have HTb := hid hT
  have Hmz := hid hmz
  obtain ⟨mp, mc, mz⟩ := ms
  obtain ⟨M, hM⟩ : ∃ M, M = mz.length := ⟨_, rfl⟩
  have HM := hid hM
  simp only [BS.val, ← hM] at HV HX ⊢
  have x0 := hX.cell 0
  have xl := hX.lt
  simp at x0
  clear hV hlb hB hX K0 HP hp0 hp1 hn hN hm hT hmz hM
  go_enter Tryd.func50, Tryd.ntmps50
  go_upto_region 1 with fail
  rw [← HV.out, ← HLb.out]
  obtain ⟨V1, hV1⟩ : ∃ W, W = V.alloc (.cells #[.int .u8 kd] 5) := ⟨_, rfl⟩
  have hB1 : Below V.heap.size V V1 := by rw [hV1]; exact (Below.refl _ _).alloc (Nat.le_refl _) _
  have hO1 : OwnBy w.heap.size V1 (.slice (some ⟨V.heap.size, 0, none⟩) 1 1) [kd] := by
    refine ⟨rfl, .inr ⟨V.heap.size, 1, #[.int .u8 kd], rfl, HB.out.size, by rw [hV1]; exact Box.new V _ _, Nat.le_refl _, by unfold maxLen; omega, rfl, rfl⟩⟩
  have HB1 := hid hB1
  have HO1 := hid hO1
  have HC := hid (HPp.out V1 hB1)
  have HV1 := hid hV1
  clear hV1 hB1 hO1
  go_upto_region 2 with fail
  rw [← HV1.out]
  clear x0 xl
  go_wp2_with fail
  refine HC.out.mono ?_
  rintro e w2 ⟨g, rfl, hg, hXg, hb2⟩
  have HXg := hid hXg
  have HB2 : Hid (Below V.heap.size V w2) := HB1.out.trans (hb2.mono HB1.out.size)
  have HXl := hid (HX.out.below HB2.out)
  have HO2 := hid (HO1.out.below hb2)
  clear hg hXg hb2 HC
  have hN3 : (N : Int) ≤ 3 := by omega
  go_wp2_with fail
  go_loopw [3, 13] (fun v x wr => ∃ i : Nat, i ≤ N + 1 ∧ x = .int .i64 (i : Int) ∧ OwnBy w.heap.size wr v (kd :: numsB (nums.take i)) ∧ Box wr g pcs 129 ∧ Box wr lb #[.int .u8 kd, .int .i64 c1, .int .i64 c2, .int .i64 c3, .slice mp M mc] 100 ∧ Below w.heap.size w wr) (fun _ x _ => N + 1 - (intOf x).toNat)
  case atStart => exact ⟨0, by omega, rfl, HO2.out, HXg.out, HXl.out, HB.out.trans (HB2.out.mono HB.out.size)⟩
  case round =>
    obtain ⟨i, hi, rfl, hO, hXg, hXl, hbw⟩ := hrel
    have HO := hid hO
    have HXg2 := hid hXg
    have HXl2 := hid hXl
    have HBw := hid hbw
    clear hO hbw HO2 HXg HXl
    by_cases hlt : i < N + 1
    case neg =>
      as_aux_lemma =>
      obtain rfl : i = N + 1 := by omega
      have hlt' : ¬ ((N : Int) + 1) < ((N : Int) + 1) := by omega
      have hnt : nums.take (N + 1) = nums := List.take_of_length_le (by rw [← HNn.out]; omega)
      rw [hnt] at HO
      obtain ⟨L, hL⟩ : ∃ L, L = kd :: numsB nums := ⟨_, rfl⟩
      rw [← hL] at HO
      have hLl : L.length ≤ 31 := by
        have h1 := numsB_len nums fun u hu => by
          obtain ⟨j, hj⟩ := List.mem_iff_getElem?.1 hu
          exact (Hn.out j u hj).1
        rw [hL, List.length_cons]
        rw [← HNn.out] at h1
        omega
      have HL := hid hL
      have hMm : M ≤ 4096 := by rw [HM.out]; exact Hmz.out
      have hrow := HO.out
      have hrow2 : wr.ownsRow w.heap.size 5 1 u3 L.length (L.map (Value.int .u8)) := hrow
      have hbs : w.heap.size ≤ wr.heap.size := HBw.out.size
      have x4 := hXl.cell 4
      have xl := hXl.lt
      simp at x4
      have hsr : Hid (Src wr mp M mc 1 (mz.map (.int .u8))) := by
        have h := (Hm.out.below HBw.out).bsrc
        rw [← HM.out] at h
        exact h
      clear hL hXg hXl hlt hi hnt hrow
      go_wp2_with (at_builtin; refine wpList_appS rfl (.tmp 28) (.tmp 30) 36 5 i0 _ 1 1 HK.out rfl w.heap.size u3 L.length _ rfl hrow2 mp M mc (mz.map (.int .u8)) rfl hsr.out (oneu8 _) (by omega) (by omega) hbs ?_)
      intro v2 w2 ho2 hg2 _
      obtain ⟨B, hBe⟩ : ∃ B, B = bodyB kd nums mz := ⟨_, rfl⟩
      have hBL : B = L ++ mz := by rw [hBe, HL.out]; rfl
      have hBl : L.length + M = B.length := by rw [hBL, List.length_append, HM.out]
      have ho3 : OwnBy w.heap.size w2 v2 B := by
        unfold OwnBy
        rw [hBL, List.length_append, List.map_append, ← HM.out]
        exact ho2
      have hB2 : Below w.heap.size w w2 := HBw.out.grown hg2 hbs fun k hk => (hrow2.lt k hk).1
      obtain ⟨p2, c2', hv2⟩ := own_shape ho3
      subst hv2
      have hbz : ∀ z ∈ B, 0 ≤ z ∧ z < 256 := by
        intro z hz
        rw [hBe] at hz
        rcases List.mem_cons.1 hz with rfl | hz
        · exact hk
        · rcases List.mem_append.1 hz with hz | hz
          · exact numsB_byt _ z hz
          · exact Hm.out.byte z hz
      have hB32 : B.length ≤ 32768 := by omega
      have HWr := hid (wrap_any p2 B.length c2' B w2 rfl (ho3.bytes hbz) (fun hp => by
        obtain ⟨b, c3, e, _⟩ := ho3.slice (by rw [← hBl]; rw [HL.out]; simp; omega)
        rw [hp] at e
        cases e) (HTb.out.later hB2) hB32)
      have HB2' := hid hB2
      have HBe := hid hBe
      clear ho2 hg2 ho3 hrow2 hsr x4 xl hBe hBL hbz hB2
      go_wp2_with fail
      refine HWr.out.mono ?_
      rintro e w3 ⟨p3, c3, rfl, hO3, hb3⟩
      have HO3 := hid hO3
      have HB3 : Hid (Below w.heap.size w w3) := HB2'.out.trans (hb3.mono HB2'.out.size)
      have hs2 := HB2'.out.size
      clear hO3 hb3 HWr
      have HR : Hid (PktQ (bodyB kd nums mz) w (.returned (.slice p3 (B.length + 8) c3)) w3) := by
        refine ⟨p3, c3, ?_, ⟨ownsRow_mono (by rw [← HBe.out]; exact HO3.out.1) hs2, by rw [← HBe.out]; exact HO3.out.2⟩, HB3.out⟩
        rw [← HBe.out, frameOf_length]
      go_wp2
      exact bodyPost_ret (v := .slice p3 (B.length + 8) c3) (by simp [results, Tryd.results50, go_sem]) rfl HR.out
    case pos =>
      have hlt' : (i : Int) < (N : Int) + 1 := by omega
      have hgl := hXg.lt
      by_cases hiN : i < N
      · as_aux_lemma =>
        obtain ⟨q0, x, y, q1, q2⟩ := Hp0.out i hiN
        have y0 : wr.cell? ⟨g, i * 3, none⟩ = some (.pointer (some ⟨lb, i + 1, none⟩)) := by rw [hXg.cell]; exact q0
        have y1 : wr.cell? ⟨g, i * 3 + 1, none⟩ = some (.int .i64 x) := by rw [hXg.cell]; exact q1
        have y2 : wr.cell? ⟨g, i * 3 + 2, none⟩ = some (.int .i64 y) := by rw [hXg.cell]; exact q2
        obtain ⟨u, hu⟩ : ∃ u, nums[i]? = some u := ⟨_, List.getElem?_eq_getElem (by rw [← HNn.out]; exact hiN)⟩
        obtain ⟨hu1, hu2⟩ := Hn.out i u hu
        obtain ⟨V4, hV4⟩ : ∃ W, W = wr.alloc (.cells #[.pointer (some ⟨lb, i + 1, none⟩), .int .i64 x, .int .i64 y] 129) := ⟨_, rfl⟩
        have hb4 : Below wr.heap.size wr V4 := by rw [hV4]; exact (Below.refl _ _).alloc (Nat.le_refl _) _
        have hX4 : Box V4 wr.heap.size #[.pointer (some ⟨lb, i + 1, none⟩), .int .i64 x, .int .i64 y] 129 := by rw [hV4]; exact Box.new _ _ _
        have z0 := hX4.cell 0
        have zl := hX4.lt
        simp at z0
        have zi : V4.cell? ⟨lb, i + 1, none⟩ = some (.int .i64 (u : Int)) := by
          rw [(hXl.below hb4).cell]
          rw [← hu2]
          simp [BS.val, HM.out]
        have zil : lb < V4.heap.size := (hXl.below hb4).lt
        have HXg4 := hid (hXg.below hb4)
        have HXl4 := hid (hXl.below hb4)
        have HBw4 : Hid (Below w.heap.size w V4) := HBw.out.trans (hb4.mono HBw.out.size)
        have HAp := hid (wpNumber_any u hu1 w.heap.size V4 u3 _ (HO.out.below hb4) HBw4.out.size (by
          have h1 := numsB_len (nums.take i) fun v hv => by
            obtain ⟨j, hj⟩ := List.mem_iff_getElem?.1 (List.mem_of_mem_take hv)
            exact (Hn.out j v hj).1
          rw [List.length_take] at h1
          rw [List.length_cons]
          have := HNn.out
          omega))
        have HV4 := hid hV4
        have Hu := hid hu
        clear hV4 hb4 hX4 hu hu2 q0 q1 q2 hXg hXl HXl2 HXg2 HO
        go_upto_region 5 with fail
        rw [← HV4.out]
        clear y0 y1 y2
        go_wp2_with fail
        refine HAp.out.mono ?_
        rintro e w5 ⟨v5, rfl, hL5⟩
        have HO5 : Hid (OwnBy w.heap.size w5 v5 (kd :: numsB (nums.take (i + 1)))) := by
          rw [numsB_take Hu.out]
          exact hL5.own
        have HG5 := hid (hL5.keep.box (by decide) HXg4.out)
        have HX5 := hid (hL5.keep.box (by decide) HXl4.out)
        have HB5 : Hid (Below w.heap.size w w5) := HBw4.out.trans hL5.bel
        clear hL5 HAp z0 zi zl zil
        go_wp2
        go_roundw
        case rel => exact ⟨i + 1, by omega, by go_num, HO5.out, HG5.out, HX5.out, HB5.out⟩
        case measure => simp [intOf]; omega
      · as_aux_lemma =>
        obtain rfl : i = N := by omega
        obtain ⟨q0, x, y, q1, q2⟩ := Hp1.out
        have y0 : wr.cell? ⟨g, i * 3, none⟩ = some (.pointer none) := by rw [hXg.cell]; exact q0
        have y1 : wr.cell? ⟨g, i * 3 + 1, none⟩ = some (.int .i64 x) := by rw [hXg.cell]; exact q1
        have y2 : wr.cell? ⟨g, i * 3 + 2, none⟩ = some (.int .i64 y) := by rw [hXg.cell]; exact q2
        obtain ⟨V4, hV4⟩ : ∃ W, W = wr.alloc (.cells #[.pointer none, .int .i64 x, .int .i64 y] 129) := ⟨_, rfl⟩
        have hb4 : Below wr.heap.size wr V4 := by rw [hV4]; exact (Below.refl _ _).alloc (Nat.le_refl _) _
        have hX4 : Box V4 wr.heap.size #[.pointer none, .int .i64 x, .int .i64 y] 129 := by rw [hV4]; exact Box.new _ _ _
        have z0 := hX4.cell 0
        have zl := hX4.lt
        simp at z0
        have HXg4 := hid (hXg.below hb4)
        have HXl4 := hid (hXl.below hb4)
        have HBw4 : Hid (Below w.heap.size w V4) := HBw.out.trans (hb4.mono HBw.out.size)
        have HO4 : Hid (OwnBy w.heap.size V4 u3 (kd :: numsB (nums.take (i + 1)))) := by
          have e : nums.take (i + 1) = nums.take i := by rw [List.take_of_length_le (by rw [← HNn.out]; omega), List.take_of_length_le (by rw [← HNn.out]; omega)]
          rw [e]
          exact HO.out.below hb4
        have HV4 := hid hV4
        clear hV4 hb4 hX4 q0 q1 q2 hXg hXl HXl2 HXg2 HO hlt hiN
        go_upto_region 5 with fail
        rw [← HV4.out]
        clear y0 y1 y2
        go_wp2
        go_roundw
        case rel => exact ⟨i + 1, by omega, by go_num, HO4.out, HXg4.out, HXl4.out, HBw4.out⟩
        case measure => simp [intOf]
end Go.Proofs.YtgnamngnmbaeeaaDoor
