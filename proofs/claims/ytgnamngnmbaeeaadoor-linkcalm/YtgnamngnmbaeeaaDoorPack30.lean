import Derived.Test.YtgnamngnmbaeeaaDoorPack29
namespace Go.Proofs.YtgnamngnmbaeeaaDoor
open Go.RowKit
set_option maxRecDepth 8000
theorem kindIy : ∃ i, Kind 32 3 i (.int .i64 0) 1 8 := by
  obtain ⟨i0, hi, hz0, hz1, hz2⟩ := info_parts (show (Tryd.prog.info? 3).map (fun i => (i.zero, i.size, i.bytes)) = some (some (.int .i64 0), 1, 8) by kernel_rfl)
  exact ⟨i0, Tryd.underlying32, hi, hz0, hz1, hz2, rfl, by decide⟩
theorem LM.wrd {w w' : World} {C : Nat → Nat} {c lb sb rb : Nat} {dv nv bv pv wv v' : Value} {D N P : List BS} {S : LS} {l' : List Int} {td' : Int} (h : LM w C c lb sb rb dv nv bv pv wv D N P S)
    (hX : Box w' lb #[.pointer (some ⟨sb, 0, none⟩), .pointer (some ⟨rb, 0, none⟩), dv, nv, bv, pv, .int .i64 (S.gv : Int), .int .i64 td', v', .int .i64 S.wd, .int .i64 S.dn] 34) (hR : w'.ownsRow 0 3 1 v' l'.length (l'.map (Value.int .i64))) (hc : ∀ g, v'.ownBlock = some g → C g = c + 6 ∧ g < w.heap.size ∨ w.heap.size ≤ g) (hb : But (fun k => k = lb ∨ ¬ Zc w C (c + 6) k) w w') :
    LM w' (upC w C (c + 6)) c lb sb rb dv nv bv pv v' D N P { S with td := td', ws := l' } ∧ (∀ k, k < w.heap.size → upC w C (c + 6) k = C k) ∧ (∀ k, w.heap.size ≤ k → In8 (upC w C (c + 6)) c k) ∧ But (In7 C c) w w' := by
  have hl := h.bx.lt
  have hcol : ∀ k, k < w.heap.size → (k = lb ∨ ¬ Zc w C (c + 6) k) → C k = c ∨ C k = c + 6 := fun k hk e => e.elim (fun e => .inl (by rw [e]; exact h.cl)) fun e => .inr (by
    by_cases e2 : C k = c + 6
    · exact e2
    · exact absurd ⟨hk, e2⟩ e)
  have hbd : ∀ e, e ≠ 0 ∧ e ≠ 6 → But (Zc w C (c + e)) w w' := fun e he => hb.mono fun k hk hn => ⟨hk, by have := hcol k hk hn; omega⟩
  have hz : ∀ e, ∀ k, k < w.heap.size → Zc w' (upC w C (c + 6)) e k → Zc w C e k := fun e k hk => zc_old hk
  refine ⟨⟨hX, by rw [upC_old hl]; exact h.cl, h.s.but (hbd 1 (by omega)) (hz _), h.r.but (hbd 2 (by omega)) (hz _), h.d.but (hbd 3 (by omega)) (hz _), h.n.but (hbd 4 (by omega)) (hz _), h.p.but (hbd 5 (by omega)) (hz _), ⟨hR, fun g hg => ?_⟩, h.hd, h.hn, h.hp⟩, fun k hk => upC_old hk, fun k hk => ?_, hb.mono fun k hk hn => ?_⟩
  · rcases hc g hg with e | e
    · rw [upC_old e.2]; exact e.1
    · exact upC_new e
  · unfold In8; rw [upC_new hk]; omega
  · have := hcol k hk hn; unfold In7; omega
/-- a word is told -/
def stTell (S : LS) (i : Int) : LS := if S.td < min i 1073741824 then { S with R := tellR S.R i, td := min i 1073741824, ws := S.ws ++ [min i 1073741824] } else { S with R := tellR S.R i }
set_option maxHeartbeats 16000000 in
theorem step_tell (w : World) (C : Nat → Nat) (c lb : Nat) (S : LS) (h : LI w C c lb S) (hn : ∀ k, w.heap.size ≤ k → In8 C c k) (hT : Tab w) (hO : Out8 C c) (s2 : Bool) (i bit : Int) (bp : Option Addr) (bn bc : Nat)
    (hws : S.ws.length + 1 ≤ 1073741824) : Calls Tryd.prog 20 #[.pointer (some ⟨lb, 0, none⟩), .agg #[.int .i64 6, .bool s2, .int .i64 i, .int .i64 bit, .slice bp bn bc]] w fun e w' => e = .returned (.bool true) ∧ LQ w C c lb (stTell S i) w' := by
  obtain ⟨sb, rb, dv, nv, bv, pv, wv, D, N, P, hM⟩ := h
  obtain ⟨V1, hV1⟩ : ∃ V, V = w.alloc (.cells #[.int .i64 6, .bool s2, .int .i64 i, .int .i64 bit, .slice bp bn bc] 46) := ⟨_, rfl⟩
  obtain ⟨ob, hob⟩ : ∃ b, b = w.heap.size := ⟨_, rfl⟩
  have hb1 : Below w.heap.size w V1 := by rw [hV1]; exact (Below.refl _ _).alloc (Nat.le_refl _) _
  have hOb : Box V1 ob #[.int .i64 6, .bool s2, .int .i64 i, .int .i64 bit, .slice bp bn bc] 46 := by rw [hV1, hob]; exact Box.new _ _ _
  obtain ⟨C1, hC1⟩ : ∃ D, D = upC w C (c + 7) := ⟨_, rfl⟩
  have hX1 := (LX.refl hM hn).below hb1
  rw [← hC1] at hX1
  have HX1 := hid hX1
  have HV1 := hid hV1
  have HOb := hid hob
  have HT := hid hT
  have HO := hid hO
  have HBx := hid hOb
  have hcob : C1 ob = c + 7 := by rw [hC1, hob]; exact upC_new (Nat.le_refl _)
  have HCob := hid hcob
  have HWs := hid hws
  have c1 := hX1.m.bx.cell 1
  have cl := hX1.m.bx.lt
  simp at c1
  have k0 := hOb.cell 0
  have k2 := hOb.cell 2
  have kl := hOb.lt
  simp at k0 k2
  have HTl := hid (tell_any V1.drew (Zc V1 C1 (c + 2)) rb S.R (hX1.m.r.below (Below.refl _ _).drew fun _ _ h => h) i)
  clear hM hV1 hob hb1 hOb hC1 hX1 hT hO hn hcob hws
  go_enter Tryd.func20, Tryd.ntmps20
  go_upto_region 1 with fail
  rw [← HV1.out, ← HOb.out]
  go_upto_region 27 with fail
  refine wp_region_calmE 30 (fun wx => Below V1.heap.size V1 wx) [(0, true), (1, true), (2, true), (3, false), (4, true), (5, false)] (.one 6 false [] .done) (by kernel_rfl) (by kernel_rfl) (Below.refl _ _).drew ?_
  refine wpPre_e rfl rfl (fun K1 hK1 => ?_)
  apply Exists.intro
  refine And.intro (fun wx hx => ?_) ?_
  · go_simp
    try rfl
  go_simp
  refine hK1 _ ?_
  clear hK1 K1
  refine wpPre_e rfl rfl (fun K1 hK1 => ?_)
  apply Exists.intro
  refine And.intro (fun wx hx => ?_) ?_
  · go_simp
    try rfl
  go_simp
  refine hK1 _ ?_
  clear hK1 K1
  refine wpPre_e rfl rfl (fun K1 hK1 => ?_)
  apply Exists.intro
  refine And.intro (fun wx hx => ?_) ?_
  · go_simp
    try rfl
  go_simp
  refine hK1 _ ?_
  clear hK1 K1
  refine wpPre_e rfl rfl (fun K1 hK1 => ?_)
  apply Exists.intro
  refine And.intro (fun wx hx => ?_) ?_
  · have e0 := below_fact hx rfl c1
    have e1 := below_fact hx rfl k2
    go_simp
    try rfl
  go_simp
  refine hK1 _ ?_
  clear hK1 K1
  refine wpPre_e rfl rfl (fun K1 hK1 => ?_)
  apply Exists.intro
  refine And.intro (fun wx hx => ?_) ?_
  · go_simp
    try rfl
  go_simp
  refine hK1 _ ?_
  clear hK1 K1
  refine wpPre_e rfl rfl (fun K1 hK1 => ?_)
  apply Exists.intro
  refine And.intro (fun wx hx => ?_) ?_
  · have e0 := below_fact hx rfl c1
    have e1 := below_fact hx rfl k2
    go_simp
    try rfl
  go_simp
  refine hK1 _ ?_
  clear hK1 K1
  refine wpPre_nil ?_
  refine wpTr_e rfl (fun K1 hK1 => ?_)
  refine step_callG (by first | rfl | go_simp) 45 #[.tmp 131, .tmp 133] _ rfl Tryd.f45 Tryd.func45 (by kernel_rfl) rfl #[.pointer (some ⟨rb, 0, none⟩), .int .i64 i] rfl _ (HTl.out) ?_
  rintro e_ w2 ⟨rfl, hq⟩
  refine ⟨_, rfl, ?_⟩
  have hF : Fr (Zc V1 C1 (c + 2)) V1 w2 := (Fr.below (Below.refl _ _).drew).trans hq.2
  obtain ⟨C2, hC2⟩ : ∃ D, D = upC V1 C1 (c + 2) := ⟨_, rfl⟩
  have hX2 := HX1.out.rcv ⟨hq.1, hF⟩
  rw [← hC2] at hX2
  have HX2 := hid hX2
  have HOb2 := hid (HBx.out.but hF fun e => e ⟨HBx.out.lt, by rw [HCob.out]; omega⟩)
  clear hq hF hC2 hX2 HTl
  go_simp
  refine hK1 _ _ (fun h => by cases h) ?_
  clear hK1 K1
  refine wpPre_nil ?_
  refine wpTr_done ?_
  clear c1 cl k0 k2 kl
  have k2 := HOb2.out.cell 2
  have kl := HOb2.out.lt
  have c7 := HX2.out.m.bx.cell 7
  have c8 := HX2.out.m.bx.cell 8
  have cl := HX2.out.m.bx.lt
  have cf := HX2.out.m.bx.frozen
  simp at k2 c7 c8
  obtain ⟨m1, hm1⟩ : ∃ m1 : Int, m1 = min i 1073741824 := ⟨_, rfl⟩
  have HM1 : MnP i m1 := by show _ = m1; rw [hm1]; split <;> omega
  have HMn := hid hm1
  clear hm1
  go_upto_region 28 with fail
  refine wp_region_lit ?_
  iterate 2 (refine wpList_step (fun K1 hK1 => ?_); go_simp; refine hK1 _ _ ?_; clear hK1 K1)
  refine wpList_min rfl (.tmp 136) (.const (.int .i64 1073741824)) rfl i 1073741824 m1 rfl rfl HM1 ?_
  iterate 1 (refine wpList_step (fun K1 hK1 => ?_); go_simp; refine hK1 _ _ ?_; clear hK1 K1)
  refine wpList_nil ?_
  by_cases hgt : S.td < m1
  case neg =>
    as_aux_lemma =>
    have HS : Hid (stTell S i = { S with R := tellR S.R i }) := by show stTell S i = _; unfold stTell; rw [if_neg (by rw [← HMn.out]; exact hgt)]
    clear HM1
    go_wp2
    exact bodyPost_ret (v := .bool true) (by simp [results, Tryd.results20, go_sem]) rfl ⟨rfl, by rw [HS.out]; exact HX2.out.lq⟩
  case pos =>
    as_aux_lemma =>
    have HS : Hid (stTell S i = { S with R := tellR S.R i, td := m1, ws := S.ws ++ [m1] }) := by show stTell S i = _; unfold stTell; rw [← HMn.out, if_pos hgt]
    clear HM1
    obtain ⟨i0, Kd⟩ := kindIy
    have hm2 := HX2.out.m
    obtain ⟨W3, hW3⟩ : ∃ W, W = w2.setCell ⟨lb, 7, none⟩ (.int .i64 m1) := ⟨_, rfl⟩
    obtain ⟨V4, hV4⟩ : ∃ W, W = W3.alloc (.cells #[.int .i64 m1] 3) := ⟨_, rfl⟩
    have hgl : ∀ g, wv.ownBlock = some g → C2 g = c + 6 ∧ g < w2.heap.size ∧ g ≠ lb := fun g hg => ⟨hm2.w.col g hg, (hm2.w.row.lt g hg).2, fun e => by have h1 := hm2.w.col g hg; have h2 := hm2.cl; rw [e] at h1; omega⟩
    have hbt3 : But (fun k => k = lb) w2 W3 := by rw [hW3]; exact (But.one _ _).setAt _ _
    have hb4 : Below W3.heap.size W3 V4 := by rw [hV4]; exact (Below.refl _ _).alloc (Nat.le_refl _) _
    have hX3 := hm2.bx.set 7 (.int .i64 m1)
    rw [← hW3] at hX3
    have hX4 := hX3.below hb4
    have hN4 : Box V4 W3.heap.size #[.int .i64 m1] 3 := by rw [hV4]; exact Box.new _ _ _
    have ho4 : V4.ownsRow 0 3 1 wv S.ws.length (S.ws.map (Value.int .i64)) := ownsRow_keep (ownsRow_keep hm2.w.row fun g hg hl => hbt3.block g hl (hgl g hg).2.2) fun g _ hl => hb4.block g hl
    have hnews : ∀ (j : Nat) (u : Value), [Value.int .i64 m1][j]? = some u → V4.cell? ((⟨W3.heap.size, 0, none⟩ : Addr).add j) = some u := fun j u hu => by
      cases j with
      | zero => simp at hu; subst hu; exact hN4.cell 0
      | succ j => simp at hu
    have HV4 := hid hV4
    have HW3 := hid hW3
    have Ho4 := hid ho4
    have Hnews := hid hnews
    have HX4 := hid hX4
    have HGl := hid hgl
    have HB24 : Hid (But (fun k => k = lb) w2 V4) := hbt3.trans (But.ofBelow hb4)
    have d8 : W3.cell? ⟨lb, 8, none⟩ = some wv := by rw [hX3.cell]; rfl
    have dl : lb < W3.heap.size := hX3.lt
    have HD8 := hid d8
    have HDl := hid dl
    clear hm2 hV4 hW3 hgl hbt3 hb4 hX3 hX4 hN4 ho4 hnews c8 k2 kl d8 dl
    go_upto_region 31 with fail
    rw [← HW3.out]
    have d8 : W3.cell? ⟨lb, 8, none⟩ = some wv := HD8.out
    have dl : lb < W3.heap.size := HDl.out
    clear c7 cl cf hgt
    go_wp2_with (at_builtin; rw [← HV4.out]; refine wpList_app rfl (.tmp 152) (.tmp 154) 32 3 i0 _ 1 8 Kd rfl 0 wv S.ws.length _ rfl Ho4.out ⟨W3.heap.size, 0, none⟩ 1 1 [.int .i64 m1] rfl rfl Hnews.out (fun u hu => by simp only [List.mem_singleton] at hu; subst hu; rfl) (by have := HWs.out; omega) (by have := HWs.out; omega) (Nat.zero_le _) ?_)
    intro v5 w5 ho5 hg5 hn5
    obtain ⟨p5, n5, c5, hv5⟩ : ∃ p n c, v5 = .slice p n c := by
      rcases ho5 with ⟨_, ⟨hv, _⟩ | ⟨g, cap, cur, hv, _⟩⟩
      · exact ⟨_, _, _, hv⟩
      · exact ⟨_, _, _, hv⟩
    subst hv5
    have hX5 := HX4.out.but (But.grow hg5) fun e => (HGl.out lb e).2.2 rfl
    have HX5 := hid hX5
    have HO5 := hid ho5
    have HG5 := hid (But.grow hg5)
    have HN5 := hid hn5
    have f8 : w5.cell? ⟨lb, 8, none⟩ = some wv := by rw [hX5.cell]; rfl
    have fl : lb < w5.heap.size := hX5.lt
    have ff : w5.frozen? ⟨lb, 8, none⟩ = false := hX5.frozen 8
    clear ho5 hg5 hn5 hX5 d8 dl
    obtain ⟨W6, hW6⟩ : ∃ W, W = w5.setCell ⟨lb, 8, none⟩ (.slice p5 n5 c5) := ⟨_, rfl⟩
    have HQ : Hid (LQ w C c lb (stTell S i) W6) := by
      have hm2 := HX2.out.m
      have hbt : But (fun k => k = lb) w5 W6 := by rw [hW6]; exact (But.one _ _).setAt _ _
      have hX6 := HX5.out.set 8 (.slice p5 n5 c5)
      rw [← hW6] at hX6
      have hv5 : ∀ g, (Value.slice p5 n5 c5).ownBlock = some g → (C2 g = c + 6 ∧ g < w2.heap.size ∨ w2.heap.size ≤ g) ∧ g ≠ lb := fun g hg => by
        rcases HN5.out with e | e
        · rw [e] at hg
          obtain ⟨h1, h2, h3⟩ := HGl.out g hg
          exact ⟨.inl ⟨h1, h2⟩, h3⟩
        · have h1 := e g hg
          have h2 := HB24.out.size
          have h3 := hm2.bx.lt
          exact ⟨.inr (by omega), by omega⟩
      have hR : W6.ownsRow 0 3 1 (.slice p5 n5 c5) (S.ws ++ [m1]).length ((S.ws ++ [m1]).map (Value.int .i64)) := by
        rw [List.length_append, List.map_append]
        exact ownsRow_keep HO5.out fun g hg hl => hbt.block g hl (hv5 g hg).2
      obtain ⟨p1, p2, p3, p4⟩ := hm2.wrd (l' := S.ws ++ [m1]) (td' := m1) hX6 hR (fun g hg => (hv5 g hg).1)
        (((HB24.out.mono fun k _ e => .inl e).trans (HG5.out.mono fun k _ e => .inr fun n => n.2 (HGl.out k e).1)).trans (hbt.mono fun k _ e => .inl e))
      rw [HS.out]
      exact (HX2.out.on p1 p2 p3 p4).lq
    have HW6 := hid hW6
    clear hW6
    go_wp2
    rw [← HW6.out]
    exact bodyPost_ret (v := .bool true) (by simp [results, Tryd.results20, go_sem]) rfl ⟨rfl, HQ.out⟩
end Go.Proofs.YtgnamngnmbaeeaaDoor

namespace Go.Proofs.YtgnamngnmbaeeaaDoor
open Go.RowKit
set_option maxRecDepth 8000
theorem Rw.tmp {w w' : World} {C : Nat → Nat} {c d : Nat} {v : Value} {L : List BS} (h : Rw w (Zc w C (c + 7)) v L) (hb : Fr (fun k => k < w.heap.size ∧ C k = c + 7) w w') : Rw w' (Zc w' (upC w C d) (c + 7)) v L :=
  h.but (hb.mono fun k hk e => ⟨hk, fun e2 => e ⟨hk, e2⟩⟩) fun k hk e => ⟨hk, by have := e.2; rw [upC_old hk] at this; exact this⟩
theorem AddQ.drew {w : World} {Z : Nat → Prop} {b o : Nat} {cs : Array Value} {ty : TypeId} {v : Value} {L : List BS} {x : List Int} {e : Ending} {w' : World} (h : AddQ w.drew Z b o cs ty v L x e w') : AddQ w Z b o cs ty v L x e w' := by
  obtain ⟨a1, a2, a3, a4, a5, a6, a7⟩ := h
  exact ⟨a1, a2, a3, a4, a5, a6, (But.ofBelow (Below.refl _ _).drew).trans a7⟩
/-- a tick: its packets go to the data pool -/
def stTick (S : LS) : LS := { S with D := (tickL S.A).foldl addP S.D }
set_option maxHeartbeats 16000000 in
theorem step_tick (w : World) (C : Nat → Nat) (c lb : Nat) (S : LS) (h : LI w C c lb S) (hn : ∀ k, w.heap.size ≤ k → In8 C c k) (hT : Tab w) (hO : Out8 C c) (s2 : Bool) (i bit : Int) (bp : Option Addr) (bn bc : Nat) : Calls Tryd.prog 20 #[.pointer (some ⟨lb, 0, none⟩), .agg #[.int .i64 2, .bool s2, .int .i64 i, .int .i64 bit, .slice bp bn bc]] w fun e w' => e = .returned (.bool true) ∧ LQ w C c lb (stTick S) w' := by
  obtain ⟨sb, rb, dv, nv, bv, pv, wv, D, N, P, hM⟩ := h
  obtain ⟨V1, hV1⟩ : ∃ V, V = w.alloc (.cells #[.int .i64 2, .bool s2, .int .i64 i, .int .i64 bit, .slice bp bn bc] 46) := ⟨_, rfl⟩
  obtain ⟨ob, hob⟩ : ∃ b, b = w.heap.size := ⟨_, rfl⟩
  have hb1 : Below w.heap.size w V1 := by rw [hV1]; exact (Below.refl _ _).alloc (Nat.le_refl _) _
  have hOb : Box V1 ob #[.int .i64 2, .bool s2, .int .i64 i, .int .i64 bit, .slice bp bn bc] 46 := by rw [hV1, hob]; exact Box.new _ _ _
  obtain ⟨C1, hC1⟩ : ∃ D, D = upC w C (c + 7) := ⟨_, rfl⟩
  have hX1 := (LX.refl hM hn).below hb1
  rw [← hC1] at hX1
  have HX1 := hid hX1
  have HV1 := hid hV1
  have HOb := hid hob
  have HT := hid hT
  have HO := hid hO
  have HBx := hid hOb
  have HTi := hid (tick_any V1 (Zc V1 C1 (c + 1)) sb S.A hX1.m.s (hX1.tab hT hO))
  have hok := hX1.m.s.ok
  have HOk := hid hok
  have c0 := hX1.m.bx.cell 0
  have cl := hX1.m.bx.lt
  simp at c0
  have k0 := hOb.cell 0
  have kl := hOb.lt
  simp at k0
  clear hM hV1 hob hb1 hOb hC1 hX1 hT hO hn hok
  go_enter Tryd.func20, Tryd.ntmps20
  go_upto_region 1 with fail
  rw [← HV1.out, ← HOb.out]
  go_wp2_with fail
  refine HTi.out.mono ?_
  rintro e w2 ⟨v, L, rfl, hR, hL, hb2⟩
  obtain ⟨C2, hC2⟩ : ∃ D, D = upC V1 C1 (c + 7) := ⟨_, rfl⟩
  have hX2 := HX1.out.below hb2
  rw [← hC2] at hX2
  have hR2 : Rw w2 (Zc w2 C2 (c + 7)) v L := hR.but (Z' := Zc w2 C2 (c + 7)) (But.refl _ _) fun k hk e => by
    rcases Nat.lt_or_ge k V1.heap.size with h1 | h1
    · exact h1
    · exact absurd (by rw [hC2]; exact upC_new h1) e.2
  obtain ⟨p, pc, hv⟩ := hR.slice
  obtain ⟨n, hnn⟩ : ∃ n, n = L.length := ⟨_, rfl⟩
  rw [← hnn] at hv
  subst hv
  have HR2 := hid hR2
  have HX2 := hid hX2
  have HL := hid hL
  have HNn := hid hnn
  clear hR hb2 hC2 hX2 hR2 hL hnn c0 cl k0 kl HTi
  go_wp2_with fail
  go_loopw [7] (fun x wr => ∃ (k : Nat) (Cr : Nat → Nat) (dv' : Value) (D' : List BS), k ≤ n ∧ x = .int .i64 (k : Int) ∧ LX w C c lb sb rb dv' nv bv pv wv D' N P { S with D := ((tickL S.A).take k).foldl addP S.D } wr Cr ∧ Rw wr (Zc wr Cr (c + 7)) (.slice p n pc) L) (fun x _ => n - (intOf x).toNat)
  case atStart => exact ⟨0, C2, dv, D, Nat.zero_le _, rfl, HX2.out, HR2.out⟩
  case round =>
    obtain ⟨k, Cr, dv', D', hk, rfl, hX, hR⟩ := hrel
    have HX := hid hX
    have HR := hid hR
    have htl : (tickL S.A).length = n := by rw [← HL.out, List.length_map, HNn.out]
    have HTl := hid htl
    by_cases hlt : k < n
    case neg =>
      as_aux_lemma =>
      obtain rfl : k = n := by omega
      have HOp := hid (open_any wr _ sb S.A hX.m.s)
      have HS : Hid (stTick S = { S with D := ((tickL S.A).take k).foldl addP S.D }) := by show stTick S = _; unfold stTick; rw [List.take_of_length_le (by omega)]
      obtain ⟨q, hq⟩ : ∃ q, q = S.A.q.length := ⟨_, rfl⟩
      rw [← hq] at HOp
      have hqk : (k = 0) = (q = 0) := by
        have h1 := HOk.out.wi
        have h2 : (tickL S.A).length = min S.A.q.length S.A.wi := by unfold tickL; rw [List.length_map, List.length_range]
        apply propext
        omega
      have c0 := hX.m.bx.cell 0
      have cl := hX.m.bx.lt
      simp at c0
      clear hX hR htl hq hlt hk
      by_cases hk0 : k = 0
      · as_aux_lemma =>
        have hq0 : q = 0 := by rw [← hqk]; exact hk0
        subst hk0 hq0
        clear hqk
        go_wp2_with fail
        refine HOp.out.mono ?_
        rintro e w9 ⟨rfl, rfl⟩
        go_wp2
        exact bodyPost_ret (v := .bool true) (by simp [results, Tryd.results20, go_sem]) rfl ⟨rfl, by rw [HS.out]; exact HX.out.lq⟩
      · as_aux_lemma =>
        have hq0 : ¬ q = 0 := by rw [← hqk]; exact hk0
        have k1 : ((k : Int) == 0) = false := beq_eq_false_iff_ne.2 (by omega)
        have q1 : ((q : Int) == 0) = false := beq_eq_false_iff_ne.2 (by omega)
        clear hqk
        go_wp2_with fail
        refine HOp.out.mono ?_
        rintro e w9 ⟨rfl, rfl⟩
        go_wp2
        exact bodyPost_ret (v := .bool true) (by simp [results, Tryd.results20, go_sem]) rfl ⟨rfl, by rw [HS.out]; exact HX.out.lq⟩
    case pos =>
      as_aux_lemma =>
      have hkL : k < L.length := by rw [← HNn.out]; exact hlt
      obtain ⟨x, hx⟩ : ∃ x, L[k]? = some x := ⟨_, List.getElem?_eq_getElem hkL⟩
      have hxz : (tickL S.A)[k]? = some x.zs := by rw [← HL.out, List.getElem?_map, hx]; rfl
      obtain ⟨g, o, cap, hv2, hg, hcx, _, _, hIn⟩ := hR.at_ hx
      simp only [Value.slice.injEq] at hv2
      obtain ⟨hp2, hnL, hpc⟩ := hv2
      subst hp2 hpc
      clear hnL
      have hXi : x.In wr (fun k => Cr k = c + 7 ∧ k < wr.heap.size) := hIn.mono fun k hk hl => ⟨Classical.byContradiction fun e => hk.1 ⟨hl, e⟩, hl⟩
      have HAd := hid (padd_any wr.drew (Zc wr Cr (c + 3)) lb 2 _ 34 (hX.m.bx.below (Below.refl _ _).drew) dv' rfl D' (hX.m.d.below (Below.refl _ _).drew fun _ _ h => h) hX.m.zdat zc_lt x _ (hXi.below (Below.refl _ _).drew))
      obtain ⟨xv, hxv⟩ : ∃ v, v = x.val := ⟨_, rfl⟩
      rw [← hxv] at HAd hcx
      have HXz := hid hxz
      have HLt := hid hlt
      have hli : (k : Int) < (n : Int) := by omega
      have hn30 : n ≤ 16 := by
        have h1 := HOk.out.wi
        have h2 : (tickL S.A).length = min S.A.q.length S.A.wi := by unfold tickL; rw [List.length_map, List.length_range]
        have h3 := HTl.out
        omega
      have hwk : IntKind.i64.wrap ((k : Int) + 1) = (k : Int) + 1 := wr64 (by omega) (by omega)
      clear hX hR htl hlt hk hkL hx hxz hIn hXi hxv hn30
      go_upto_region 13 with fail
      refine wp_region_calmE 30 (fun wx => Below wr.heap.size wr wx) [(0, true), (1, true), (2, true), (3, true), (4, true), (5, true), (6, false)] (.one 7 false [] .done) (by kernel_rfl) (by kernel_rfl) (Below.refl _ _).drew ?_
      refine wpPre_e rfl rfl (fun K1 hK1 => ?_)
      apply Exists.intro
      refine And.intro (fun wx hx => ?_) ?_
      · go_simp
        try rfl
      go_simp
      refine hK1 _ ?_
      clear hK1 K1
      refine wpPre_e rfl rfl (fun K1 hK1 => ?_)
      apply Exists.intro
      refine And.intro (fun wx hx => ?_) ?_
      · go_simp
        try rfl
      go_simp
      refine hK1 _ ?_
      clear hK1 K1
      refine wpPre_e rfl rfl (fun K1 hK1 => ?_)
      apply Exists.intro
      refine And.intro (fun wx hx => ?_) ?_
      · go_simp
        try rfl
      go_simp
      refine hK1 _ ?_
      clear hK1 K1
      refine wpPre_e rfl rfl (fun K1 hK1 => ?_)
      apply Exists.intro
      refine And.intro (fun wx hx => ?_) ?_
      · go_simp
        try rfl
      go_simp
      refine hK1 _ ?_
      clear hK1 K1
      refine wpPre_e rfl rfl (fun K1 hK1 => ?_)
      apply Exists.intro
      refine And.intro (fun wx hx => ?_) ?_
      · go_simp
        try rfl
      go_simp
      refine hK1 _ ?_
      clear hK1 K1
      refine wpPre_e rfl rfl (fun K1 hK1 => ?_)
      apply Exists.intro
      refine And.intro (fun wx hx => ?_) ?_
      · go_simp
        try rfl
      go_simp
      refine hK1 _ ?_
      clear hK1 K1
      refine wpPre_e rfl rfl (fun K1 hK1 => ?_)
      apply Exists.intro
      refine And.intro (fun wx hx => ?_) ?_
      · have e0 := below_fact hx rfl hcx
        go_simp
        try rfl
      go_simp
      refine hK1 _ ?_
      clear hK1 K1
      refine wpPre_nil ?_
      refine wpTr_e rfl (fun K1 hK1 => ?_)
      refine step_callG (by first | rfl | go_simp) 36 #[.tmp 58, .tmp 62] _ rfl Tryd.f36 Tryd.func36 (by kernel_rfl) rfl #[.pointer (some ⟨lb, 2, none⟩), xv] rfl _ (HAd.out) ?_
      rintro e_ w3 hq
      obtain ⟨he, v3, L3, hX3, hF3⟩ := HX.out.dat hq.drew
      have hR3 := HR.out.tmp (d := c + 3) hF3
      subst he
      refine ⟨_, rfl, ?_⟩
      have HX3 := hid hX3
      have HR3 := hid hR3
      clear hX3 hR3 hF3 hq
      go_simp
      refine hK1 _ _ (fun h => by cases h) ?_
      clear hK1 K1
      refine wpPre_nil ?_
      refine wpTr_done ?_
      clear hcx hg
      have HNx : Hid (LX w C c lb sb rb v3 nv bv pv wv L3 N P { S with D := ((tickL S.A).take (k + 1)).foldl addP S.D } w3 (upC wr Cr (c + 3))) := by
        show LX _ _ _ _ _ _ _ _ _ _ _ _ _ _ { S with D := ((tickL S.A).take (k + 1)).foldl addP S.D } _ _
        rw [List.take_add_one, HXz.out, Option.toList_some, List.foldl_append]
        exact HX3.out
      go_wp2
      have hl := HLt.out
      exact ⟨⟨k + 1, _, v3, L3, hl, by push_cast; rfl, HNx.out, HR3.out⟩, by simp only [intOf]; omega⟩
end Go.Proofs.YtgnamngnmbaeeaaDoor

namespace Go.Proofs.YtgnamngnmbaeeaaDoor
open Go.RowKit
set_option maxRecDepth 8000
/-- the words' row, one of its cells -/
theorem IRow.at_ {w : World} {C : Nat → Nat} {c : Nat} {v : Value} {l : List Int} (h : IRow w C c v l) {k : Nat} (hk : k < l.length) : ∃ g cap, v = .slice (some ⟨g, 0, none⟩) l.length cap ∧ g < w.heap.size ∧ w.cell? ⟨g, k, none⟩ = some (.int .i64 (l.getD k 0)) := by
  obtain ⟨hl, ⟨hv, h0⟩ | ⟨g, cap, cur, hv, hb, hh, hnc, hcm, hcs, ht⟩⟩ := h.row
  · omega
  · have hX : Box w g cur 3 := hh
    refine ⟨g, cap, hv, hX.lt, ?_⟩
    have h1 : (l.map (Value.int .i64))[k]? = some (.int .i64 (l.getD k 0)) := by
      rw [List.getElem?_map, List.getElem?_eq_getElem hk, List.getD_eq_getElem?_getD, List.getElem?_eq_getElem hk]; rfl
    rw [← ht, List.getElem?_take] at h1
    split at h1
    · rw [hX.cell, ← Array.getElem?_toList]; exact h1
    · cases h1
set_option maxHeartbeats 8000000 in
theorem had_any (w : World) (C : Nat → Nat) (c lb : Nat) (S : LS) (h : LI w C c lb S) (word : Int) (hm : word ∈ S.ws) (hl : S.ws.length ≤ 1073741825) : Calls Tryd.prog 31 #[.pointer (some ⟨lb, 0, none⟩), .int .i64 word] w fun e w' => e = .returned (.bool true) ∧ w' = w := by
  obtain ⟨sb, rb, dv, nv, bv, pv, wv, D, N, P, hM⟩ := h
  obtain ⟨n, hn⟩ : ∃ n, n = S.ws.length := ⟨_, rfl⟩
  have hn0 : 0 < n := by rw [hn]; exact List.length_pos_iff.2 fun e => by rw [e] at hm; cases hm
  obtain ⟨g, cap, hv, hg, _⟩ := hM.w.at_ (k := 0) (by rw [← hn]; exact hn0)
  have hat : ∀ k, k < n → w.cell? ⟨g, k, none⟩ = some (.int .i64 (S.ws.getD k 0)) := fun k hk => by
    obtain ⟨g', cap', hv', _, h1⟩ := hM.w.at_ (k := k) (by rw [← hn]; exact hk)
    rw [hv] at hv'
    simp only [Value.slice.injEq, Option.some.injEq, Addr.mk.injEq, and_true] at hv'
    rw [hv'.1]; exact h1
  have c8 := hM.bx.cell 8
  have cl := hM.bx.lt
  simp at c8
  rw [hv, ← hn] at c8
  have HAt := hid hat
  have HMm := hid hm
  have HN := hid hn
  have hn30 : n ≤ 1073741825 := by omega
  clear hM hv hat hm hn hl
  go_enter Tryd.func31, Tryd.ntmps31
  go_wp2_with fail
  go_loopw [5] (fun x wr => ∃ k : Nat, k ≤ n ∧ x = .int .i64 (k : Int) ∧ wr = w ∧ ∀ j, j < k → S.ws.getD j 0 ≠ word) (fun x _ => n - (intOf x).toNat)
  case atStart => exact ⟨0, Nat.zero_le _, rfl, rfl, fun j hj => absurd hj (by omega)⟩
  case round =>
    obtain ⟨k, hk, rfl, rfl, hne⟩ := hrel
    have hkn : k < n := by
      refine Classical.byContradiction fun hge => ?_
      obtain ⟨j, hj, e⟩ := List.mem_iff_getElem.1 HMm.out
      have h1 := HN.out
      refine hne j (by omega) ?_
      rw [List.getD_eq_getElem?_getD, List.getElem?_eq_getElem hj, e]; rfl
    have hli : (k : Int) < (n : Int) := by omega
    have hwk : IntKind.i64.wrap ((k : Int) + 1) = (k : Int) + 1 := wr64 (by omega) (by omega)
    have ck := HAt.out k hkn
    obtain ⟨u, hu⟩ : ∃ u, u = S.ws.getD k 0 := ⟨_, rfl⟩
    rw [← hu] at ck
    have HU := hid hu
    have HNe := hid hne
    have HKn := hid hkn
    clear hne hk hu
    by_cases hw : u = word
    · as_aux_lemma =>
      have hb : (u == word) = true := by simpa using hw
      clear hw
      go_wp2
      exact bodyPost_ret (v := .bool true) (by simp [results, Tryd.results31, go_sem]) rfl ⟨rfl, rfl⟩
    · as_aux_lemma =>
      have hb : (u == word) = false := by simpa using hw
      have HW : Hid (u ≠ word) := hw
      clear hw
      go_wp2
      have h1 := HKn.out
      refine ⟨⟨k + 1, h1, by push_cast; rfl, trivial, fun j hj => ?_⟩, by simp only [intOf]; omega⟩
      rcases Nat.lt_or_ge j k with h2 | h2
      · exact HNe.out j h2
      · obtain rfl : j = k := by omega
        rw [← HU.out]; exact HW.out
end Go.Proofs.YtgnamngnmbaeeaaDoor
