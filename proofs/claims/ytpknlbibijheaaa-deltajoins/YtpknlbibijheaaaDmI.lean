import Derived.Test.YtpknlbibijheaaaPack27
namespace Go.Proofs.Ytpknlbibijheaaa
open Go.RowKit
set_option maxRecDepth 8000
theorem LT.In.src {α : Type} {E : El α} {w : World} {S : Nat → Prop} {l : LT α} (h : LT.In E w S l) : Src w l.p l.n l.c E.size ((List.range l.n).flatMap fun j => E.cells (l.item j)) := by
  cases hp : l.p with
  | none =>
    obtain ⟨h1, h2⟩ := h.nil hp
    rw [h1, h2]
    exact .inl ⟨rfl, rfl, rfl, rfl⟩
  | some ad =>
    refine .inr ⟨ad, rfl, range_flat_len E l.item l.n, fun j u hu => ?_⟩
    have hj : j < l.n * E.size := by
      rcases Nat.lt_or_ge j (l.n * E.size) with h1 | h1
      · exact h1
      · rw [List.getElem?_eq_none (by rw [range_flat_len]; exact h1)] at hu; cases hu
    have hs : 0 < E.size := by
      rcases Nat.eq_zero_or_pos E.size with h1 | h1
      · rw [h1] at hj; omega
      · exact h1
    have hq : j / E.size < l.n := Nat.div_lt_of_lt_mul (by rw [Nat.mul_comm]; exact hj)
    have hr : j % E.size < E.size := Nat.mod_lt _ hs
    have e : j / E.size * E.size + j % E.size = j := by rw [Nat.mul_comm]; exact Nat.div_add_mod j E.size
    obtain ⟨b, o, e1, _, _, ha⟩ := h.at_ (Nat.lt_of_le_of_lt (Nat.zero_le _) hq)
    rw [hp] at e1
    cases e1
    rw [← e, range_flat_get E l.item l.n _ _ hq hr] at hu
    have := ha _ hq _ u hu
    rw [Nat.add_assoc, e] at this
    rw [Go.WideShapes.add_plain]
    exact this

set_option maxHeartbeats 4000000 in
theorem rcopy_any (d : DT) (w : World) (S : Nat → Prop) (hd : DT.In w S d) (hz : DSz d) :
    Calls Try.prog 23 #[.agg #[.int .i64 d.num, .slice d.set.p d.set.n d.set.c, .slice d.gone.p d.gone.n d.gone.c]] w fun e w' => ∃ u : DT, e = .returned (.agg #[.int .i64 u.num, .slice u.set.p u.set.n u.set.c, .slice u.gone.p u.gone.n u.gone.c]) ∧ DT.Alike d u ∧ DT.In w' (fun b => w.heap.size ≤ b) u ∧ Below w.heap.size w w' := by
  obtain ⟨i0, Kd⟩ := kindS
  have HKd := hid Kd
  obtain ⟨W, hW⟩ : ∃ X, X = (w.alloc (.cells #[.int .i64 d.num, .slice d.set.p d.set.n d.set.c, .slice d.gone.p d.gone.n d.gone.c] 30)).alloc (.cells #[.int .i64 0, .slice none 0 0, .slice none 0 0] 30) := ⟨_, rfl⟩
  have HT : Hid (TwoK w W #[.int .i64 d.num, .slice d.set.p d.set.n d.set.c, .slice d.gone.p d.gone.n d.gone.c] #[.int .i64 0, .slice none 0 0, .slice none 0 0] 30) := by rw [hW]; exact TwoK.start _ _ _ _
  have HW := hid hW
  have HD := hid hd
  have HC := hid (rs8 d.num d.set W S (hd.set.below HT.out.bel) hz.set hz.item)
  have hgn := hz.gone
  have x0 := HT.out.ba.cell 0
  have x1 := HT.out.ba.cell 1
  have xl := HT.out.ba.lt
  simp at x0 x1
  clear hd hz hW Kd
  go_enter Try.func23, Try.ntmps23
  go_upto_region 1 with fail
  rw [← HW.out]
  go_wp2_with fail
  refine HC.out.mono ?_
  rintro e w1 ⟨s, rfl, hal, hsi, hb1⟩
  obtain ⟨V, hV⟩ : ∃ X, X = w1.alloc (.cells #[.int .i64 d.num, .slice s.p s.n s.c] 24) := ⟨_, rfl⟩
  have hBV : Below w1.heap.size w1 V := by rw [hV]; exact (Below.refl _ _).alloc (Nat.le_refl _) _
  have HXS : Hid (Box V w1.heap.size #[.int .i64 d.num, .slice s.p s.n s.c] 24) := by rw [hV]; exact Box.new _ _ _
  have HV := hid hV
  have hBW : Below W.heap.size W V := hb1.trans (hBV.mono hb1.size)
  have HT1 := hid (HT.out.below hBW)
  have HSi := hid ((hsi.below hBV).mono (S' := fun k => W.heap.size ≤ k ∧ k < V.heap.size) fun b hb hl => ⟨hb, hl⟩)
  have HAl := hid hal
  have HSrc := hid (HD.out.gone.below HT1.out.bel).src
  have HWs : Hid (W.heap.size = w.heap.size + 2) := by show _ = _; rw [HW.out]; simp
  clear x0 x1 xl hal hsi hb1 hV hBV hBW HC HT
  have y2 := HT1.out.ba.cell 2
  have yl := HT1.out.ba.lt
  simp at y2
  go_upto_region 3 with fail
  rw [← HV.out]
  go_wp2_with (at_builtin; refine wpList_appS rfl (.tmp 11) (.tmp 13) 28 9 i0 _ 1 16 HKd.out rfl V.heap.size (.slice none 0 0) 0 [] rfl (World.ownsRow_nil _ _ _ _) d.gone.p d.gone.n d.gone.c _ rfl HSrc.out (fun u hu => by
    obtain ⟨q, _, hq⟩ := List.mem_flatMap.1 hu
    exact elStr.one _ u hq) (by omega) (by omega) (Nat.le_refl _) ?_; intro v3 w3 ho3 hg3 hn3; obtain ⟨pp, cc, rfl⟩ := ownsRow_slice ho3; have HO := hid ho3; have HG := hid hg3; have HT3 := hid (HT1.out.grown hg3 (fun j h => by simp [Value.ownBlock] at h)); have HXS3 := hid (HXS.out.kept (hg3.block _ HXS.out.lt (by simp [Value.ownBlock]))); have t0 := HT3.out.ba.cell 0; have tl := HT3.out.ba.lt; have s1 := HXS3.out.cell 1; have sl := HXS3.out.lt; have z0 := HT3.out.bb.cell 0; have z1 := HT3.out.bb.cell 1; have z2 := HT3.out.bb.cell 2; have f0 := HT3.out.bb.frozen 0; have f1 := HT3.out.bb.frozen 1; have f2 := HT3.out.bb.frozen 2; have zl := HT3.out.bb.lt; simp at t0 s1 z0 z1 z2; clear ho3 hg3 hn3 y2 yl)
  have r9 := ((HT3.out.bb.set 0 (.int .i64 d.num)).set 1 (.slice s.p s.n s.c)).set 2 (.slice pp (0 + d.gone.n) cc)
  have r0 := r9.cell 0
  have r1 := r9.cell 1
  have r2 := r9.cell 2
  simp at r0 r1 r2
  have hbt : But (fun k => k = w.heap.size + 1) w3 (((w3.setCell ⟨w.heap.size + 1, 0, none⟩ (.int .i64 d.num)).setCell ⟨w.heap.size + 1, 1, none⟩ (.slice s.p s.n s.c)).setCell ⟨w.heap.size + 1, 2, none⟩ (.slice pp d.gone.n cc)) := (((But.one w3 (w.heap.size + 1)).setAt 0 _).setAt 1 _).setAt 2 _
  refine bodyPost_ret (v := .agg #[.int .i64 d.num, .slice s.p s.n s.c, .slice pp d.gone.n cc]) (by simp [results, Try.results23, go_sem, r0, r1, r2]) rfl ?_
  have hsz := HT1.out.bel.size
  have hbb := HT3.out.bb.lt
  have ho := HO.out
  have ho2 := ownsRow_keep ho (fun k hk hl => hbt.block k hl fun e => by
    have := (ho.lt k hk).1
    have := HT1.out.bb.lt
    omega)
  have hO : OwnL elStr V.heap.size (((w3.setCell ⟨w.heap.size + 1, 0, none⟩ (.int .i64 d.num)).setCell ⟨w.heap.size + 1, 1, none⟩ (.slice s.p s.n s.c)).setCell ⟨w.heap.size + 1, 2, none⟩ (.slice pp d.gone.n cc)) (.slice pp d.gone.n cc) d.gone.n d.gone.item := ⟨by simp at ho2; exact ho2, fun j hj => HD.out.gone.each j hj⟩
  obtain ⟨p4, c4, hv4, hL⟩ := hO.in_ (by omega)
  cases hv4
  refine ⟨⟨d.num, s, ⟨pp, d.gone.n, cc, d.gone.item⟩⟩, rfl, ⟨rfl, HAl.out.n, HAl.out.item, rfl, fun _ _ => rfl⟩, ⟨?_, hL.mono fun b hb _ => Nat.le_trans hsz hb, HD.out.n0, HD.out.n1⟩, HT3.out.bel.trans (hbt.below HT3.out.bel.size fun k hk => by omega)⟩
  have hs3 : LT.In elCell w3 (fun k => W.heap.size ≤ k ∧ k < V.heap.size) s := HSi.out.kept HG.out.size fun b hb hl => HG.out.block b hl (by simp [Value.ownBlock])
  exact (hs3.but hbt (fun b hb _ e => by have := HWs.out; omega)).mono fun b hb _ => by have := HWs.out; omega
end Go.Proofs.Ytpknlbibijheaaa
