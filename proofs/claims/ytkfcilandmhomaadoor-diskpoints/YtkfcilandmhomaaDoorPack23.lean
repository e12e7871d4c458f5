import Derived.Test.YtkfcilandmhomaaDoorPack22
namespace Go.Proofs.YtkfcilandmhomaaDoor
open Go.RowKit
set_option maxRecDepth 8000
theorem step_del {E : Prop} {w : World} {ops : Array Oper} {o : Oper} {a : Act} {K : Act → World → Prop} {Q : Exit → Act → World → Prop} (hg : o.guard = none) (m x : Operand) (hop : o.op = Op.call { callee := Callee.builtin Builtin.delete, args := #[m, x], argTypes := #[59, 69] }) {b : Nat} {Es : List (ByteArray × Value)} {s : ByteArray} (hm : a.eval m = .map (some b)) (hx : a.eval x = labV s) (h : MpI w b Es) (hs : Nm s)
    (hK : ∀ w' v', MpI w' b (Es.filter fun p => !decide (p.1 = s)) → But (fun k => k = b) w w' → K (a.put o.dst v') w') :
    if Region.wanted o (yielded ops a.tmps) = true then Oper.wp Tryd.prog o a w K Q else E := by
  have hw : Region.wanted o (yielded ops a.tmps) = true := by simp [Region.wanted, hg]
  rw [if_pos hw]
  obtain ⟨ob, hrun, h1⟩ := run_del h hs o.type
  unfold Oper.wp
  simp [execOp, hop, resolve, invoke, builtin, hm, hx, hrun, Result.andThen]
  exact hK _ _ h1 (But.block1 _)
def DK.rem (D : DK) (s : ByteArray) : DK := { D with fs := D.fs.filter fun f => !decide (f.name = s) }
theorem DkI.rem {w w' : World} {C : Nat → Prop} {db : Nat} {D : DK} {s : ByteArray} (h : DkI w C db D) (hm : MpI w' D.mb (D.ents.filter fun p => !decide (p.1 = s))) (hb : But (fun k => k = D.mb) w w') : DkI w' C db (D.rem s) := by
  have hents : (D.rem s).ents = D.ents.filter fun p => !decide (p.1 = s) := by
    show (D.fs.filter _).map _ = (D.fs.map _).filter _
    rw [List.filter_map]
    rfl
  have hmem : ∀ f, f ∈ (D.rem s).fs → f ∈ D.fs := fun f hf => (List.mem_filter.1 hf).1
  refine ⟨h.bx.kept (hb.block _ h.bx.lt h.ne), by rw [hents]; exact hm, h.cb, h.cm, h.ne, fun f hf => ?_, fun f hf => h.low f (hmem f hf), h.apart.sublist List.filter_sublist, Nat.le_trans (List.length_filter_le _ _) h.n, h.bu, h.ba, h.bc⟩
  exact (h.each f (hmem f hf)).kept (fun k hk => hb.block k ((h.each f (hmem f hf)).blk hk).2 (h.low f (hmem f hf) k hk).2) (fun _ hk => ((h.each f (hmem f hf)).blk hk).1)
def rmD (D : DK) (s : ByteArray) : DK := if chE D s = 0 then (chD D s).rem s else chD D s
set_option maxHeartbeats 8000000 in
theorem dremove_any (D : DK) (s : ByteArray) (w : World) (C : Nat → Prop) (db : Nat) (hD : DkI w C db D) (hO : D.Ok) (hmx : s.size ≤ 140737488355328) :
    Calls Tryd.prog 29 #[.pointer (some ⟨db, 0, none⟩), .string s] w fun e w' => e = .returned (.int .i64 (chE D s)) ∧ Chg (rmD D s) C db w w' := by
  have HRc := hid (dchange_any D s w C db hD hO hmx)
  clear hD hO
  go_enter Tryd.func29, Tryd.ntmps29
  go_wp2_with fail
  refine HRc.out.mono ?_
  rintro e w2 ⟨t, rfl, ht, hQ⟩
  have HT := hid ht
  have HQ := hid hQ
  clear hQ ht
  rw [labV_at]
  obtain ⟨W3, hW3⟩ : ∃ V, V = w2.alloc (.cells #[.int .u8 (bat t 0), .int .u8 (bat t 1), .int .u8 (bat t 2), .int .u8 (bat t 3), .int .u8 (bat t 4), .int .u8 (bat t 5), .int .u8 (bat t 6), .int .u8 (bat t 7), .int .u8 (bat t 8), .int .u8 (bat t 9), .int .u8 (bat t 10), .int .u8 (bat t 11)] 69) := ⟨_, rfl⟩
  have HBx : Hid (Below w2.heap.size w2 W3) := by show Below _ _ _; rw [hW3]; exact (Below.refl _ _).alloc (Nat.le_refl _) _
  have HY3 : Hid (Box W3 w2.heap.size #[.int .u8 (bat t 0), .int .u8 (bat t 1), .int .u8 (bat t 2), .int .u8 (bat t 3), .int .u8 (bat t 4), .int .u8 (bat t 5), .int .u8 (bat t 6), .int .u8 (bat t 7), .int .u8 (bat t 8), .int .u8 (bat t 9), .int .u8 (bat t 10), .int .u8 (bat t 11)] 69) := by show Box _ _ _ _; rw [hW3]; exact Box.new _ _ _
  have HW3 := hid hW3
  clear hW3
  go_upto_region 2 with fail
  rw [← HW3.out]
  by_cases hr : chE D s = 0
  · rw [hr]
    obtain ⟨hts, hNm, _⟩ := HT.out hr
    subst hts
    obtain ⟨E, hE⟩ : ∃ E, E = chD D t := ⟨_, rfl⟩
    have HRd : Hid (rmD D t = E.rem t) := by show rmD D t = _; rw [rmD, if_pos hr, hE]
    rw [← hE] at HQ
    have HD3 : Hid (DkI W3 C db E) := HQ.out.1.below HBx.out
    have HNm := hid hNm
    have HD4 : Hid (DkI W3.drew C db E) := HD3.out.kept fun _ _ _ => rfl
    have HM4 : Hid (MpI W3.drew E.mb E.ents) := HD4.out.mp
    have d0 := HD3.out.bx.cell 0
    simp at d0
    have y0 := HY3.out.cell 0
    have y1 := HY3.out.cell 1
    have y2 := HY3.out.cell 2
    have y3 := HY3.out.cell 3
    have y4 := HY3.out.cell 4
    have y5 := HY3.out.cell 5
    have y6 := HY3.out.cell 6
    have y7 := HY3.out.cell 7
    have y8 := HY3.out.cell 8
    have y9 := HY3.out.cell 9
    have y10 := HY3.out.cell 10
    have y11 := HY3.out.cell 11
    have yl := HY3.out.lt
    simp at y0 y1 y2 y3 y4 y5 y6 y7 y8 y9 y10 y11
    clear hNm hE
    go_upto_region 4 with fail
    refine wp_region_calmE 30 (fun wx => Below W3.heap.size W3 wx) [(0, true), (1, true), (2, true), (3, false), (4, false)] (.one 5 false [] .done) (by kernel_rfl) (by kernel_rfl) (Below.refl _ _).drew ?_
    refine wpPre_e rfl rfl (fun K1 hK1 => ?_)
    apply Exists.intro
    refine And.intro (fun wx hx => ?_) ?_
    · go_simp
      try rfl
    go_simp
    refine hK1 _ ?_
    clear hK1 K1
    refine wpPre_e rfl rfl (fun K1 hK1 => ?_)
    apply Exists.intro
    refine And.intro (fun wx hx => ?_) ?_
    · go_simp
      try rfl
    go_simp
    refine hK1 _ ?_
    clear hK1 K1
    refine wpPre_e rfl rfl (fun K1 hK1 => ?_)
    apply Exists.intro
    refine And.intro (fun wx hx => ?_) ?_
    · go_simp
      try rfl
    go_simp
    refine hK1 _ ?_
    clear hK1 K1
    refine wpPre_e rfl rfl (fun K1 hK1 => ?_)
    apply Exists.intro
    refine And.intro (fun wx hx => ?_) ?_
    · have e0 := below_fact hx rfl d0
      go_simp
      try rfl
    go_simp
    refine hK1 _ ?_
    clear hK1 K1
    refine wpPre_e rfl rfl (fun K1 hK1 => ?_)
    apply Exists.intro
    refine And.intro (fun wx hx => ?_) ?_
    · have e0 := below_fact hx rfl y0
      have e1 := below_fact hx rfl y1
      have e2 := below_fact hx rfl y2
      have e3 := below_fact hx rfl y3
      have e4 := below_fact hx rfl y4
      have e5 := below_fact hx rfl y5
      have e6 := below_fact hx rfl y6
      have e7 := below_fact hx rfl y7
      have e8 := below_fact hx rfl y8
      have e9 := below_fact hx rfl y9
      have e10 := below_fact hx rfl y10
      have e11 := below_fact hx rfl y11
      go_simp
      try rfl
    go_simp
    refine hK1 _ ?_
    clear hK1 K1
    refine wpPre_nil ?_
    refine wpTr_e rfl (fun K1 hK1 => ?_)
    refine step_del rfl (.tmp 19) (.tmp 20) rfl (b := E.mb) (Es := E.ents) (s := t) rfl rfl HM4.out HNm.out (fun w5 v5 hm5 hb5 => ?_)
    have HM5 := hid hm5
    have HB5 := hid hb5
    clear hm5 hb5
    go_simp
    refine hK1 _ _ (fun h => by cases h) ?_
    clear hK1 K1
    refine wpPre_nil ?_
    refine wpTr_done ?_
    clear y0 y1 y2 y3 y4 y5 y6 y7 y8 y9 y10 y11 yl d0
    go_wp2
    have hU := HD4.out.rem HM5.out HB5.out
    have hB4 : But C w W3.drew := (HQ.out.2.mono (fun k _ e => by subst e; exact HQ.out.1.cb)).trans (But.ofBelow HBx.out).drew
    refine bodyPost_ret (v := .int .i64 0) (by simp [results, Tryd.results29, go_sem]) rfl ⟨by first | rfl | rw [hr], ?_⟩
    rw [HRd.out]
    exact ⟨hU.mono fun k hk _ => .inl hk, hB4.trans (HB5.out.mono fun k _ e => by subst e; exact HD4.out.cm)⟩
  · have HRd : Hid (rmD D s = chD D s) := by show rmD D s = _; rw [rmD, if_neg hr]
    go_wp2
    refine bodyPost_ret (v := .int .i64 (chE D s)) (by simp [results, Tryd.results29, go_sem]) rfl ⟨rfl, ?_⟩
    rw [HRd.out]
    have h := HQ.out.chg
    exact ⟨h.1.below HBx.out, h.2.trans (But.ofBelow HBx.out)⟩
end Go.Proofs.YtkfcilandmhomaaDoor

namespace Go.Proofs.YtkfcilandmhomaaDoor
open Go.RowKit
set_option maxRecDepth 8000
/-- so many bytes of the file survive -/
def FT.svN (f : FT) (u : Int) : Nat := f.sure + (min (max u 0) ((f.zs.length : Int) - (f.sure : Int))).toNat
def SvQ (f : FT) (u : Int) (C : Nat → Prop) (w w' : World) : Prop :=
  ∃ (p : Option Addr) (c : Nat), FtI w' (fun k => C k ∨ w.heap.size ≤ k) ((f.cutd (f.svN u) p c).syn) ∧ But f.blk w w' ∧ ∀ k, ((f.cutd (f.svN u) p c).syn).blk k → f.blk k ∨ w.heap.size ≤ k
set_option maxHeartbeats 8000000 in
theorem dsurvive_any (f : FT) (u : Int) (w : World) (C : Nat → Prop) (hF : FtI w C f) (hu : u ≤ 9223372036854775807) :
    Calls Tryd.prog 35 #[.pointer (some ⟨f.fb, 0, none⟩), .int .i64 u] w fun e w' => e = .returned (.tuple #[]) ∧ SvQ f u C w w' := by
  have q0 := hF.bx.cell 0
  have q1 := hF.bx.cell 1
  have ql := hF.bx.lt
  have hle := hF.le
  have hsu := hF.su
  simp at q0 q1
  obtain ⟨W4, hW4⟩ : ∃ V, V = w.drew := ⟨_, rfl⟩
  have HF4 : Hid (FtI W4 C f) := by show FtI _ _ _; rw [hW4]; exact hF.kept (fun _ _ => rfl) (fun k hk => (hF.blk hk).1)
  have HB4 : Hid (Below w.heap.size w W4) := by show Below _ _ _; rw [hW4]; exact (Below.refl _ _).drew
  have HF := hid hF
  have HW4 := hid hW4
  clear hF hW4
  obtain ⟨m, hm⟩ : ∃ m, m = f.svN u := ⟨_, rfl⟩
  have hmv : (f.sure : Int) + min (max u 0) ((f.zs.length : Int) - (f.sure : Int)) = (m : Int) := by rw [hm, FT.svN]; omega
  have hmb : m ≤ f.zs.length := by omega
  have HCt := hid (dcut_any f m W4 C HF4.out (by omega))
  have HM := hid hm
  clear hm
  go_enter Tryd.func35, Tryd.ntmps35
  go_upto_region 0 with fail
  refine wp_region_calmE 30 (fun wx => Below w.heap.size w wx) [(0, true), (1, true), (2, true), (3, false), (4, true), (5, true), (6, true), (7, true), (8, false), (9, true), (10, true)] .done (by kernel_rfl) (by kernel_rfl) (Below.refl _ _).drew ?_
  refine wpPre_e rfl rfl (fun K1 hK1 => ?_)
  apply Exists.intro
  refine And.intro (fun wx hx => ?_) ?_
  · go_simp
    try rfl
  go_simp
  refine hK1 _ ?_
  clear hK1 K1
  refine wpPre_e rfl rfl (fun K1 hK1 => ?_)
  apply Exists.intro
  refine And.intro (fun wx hx => ?_) ?_
  · go_simp
    try rfl
  go_simp
  refine hK1 _ ?_
  clear hK1 K1
  refine wpPre_e rfl rfl (fun K1 hK1 => ?_)
  apply Exists.intro
  refine And.intro (fun wx hx => ?_) ?_
  · go_simp
    try rfl
  go_simp
  refine hK1 _ ?_
  clear hK1 K1
  refine wpPre_e rfl rfl (fun K1 hK1 => ?_)
  apply Exists.intro
  refine And.intro (fun wx hx => ?_) ?_
  · have e0 := below_fact hx rfl q0
    go_simp
    try rfl
  go_simp
  refine hK1 _ ?_
  clear hK1 K1
  refine wpPre_e rfl rfl (fun K1 hK1 => ?_)
  apply Exists.intro
  refine And.intro (fun wx hx => ?_) ?_
  · go_simp
    try rfl
  go_simp
  refine hK1 _ ?_
  clear hK1 K1
  refine wpPre_e rfl rfl (fun K1 hK1 => ?_)
  apply Exists.intro
  refine And.intro (fun wx hx => ?_) ?_
  · go_simp
    try rfl
  go_simp
  refine hK1 _ ?_
  clear hK1 K1
  refine wpPre_e rfl rfl (fun K1 hK1 => ?_)
  apply Exists.intro
  refine And.intro (fun wx hx => ?_) ?_
  · go_simp
    try rfl
  go_simp
  refine hK1 _ ?_
  clear hK1 K1
  refine wpPre_e rfl rfl (fun K1 hK1 => ?_)
  apply Exists.intro
  refine And.intro (fun wx hx => ?_) ?_
  · go_simp
    try rfl
  go_simp
  refine hK1 _ ?_
  clear hK1 K1
  refine wpPre_e rfl rfl (fun K1 hK1 => ?_)
  apply Exists.intro
  refine And.intro (fun wx hx => ?_) ?_
  · have e0 := below_fact hx rfl q1
    go_simp
    try rfl
  go_simp
  refine hK1 _ ?_
  clear hK1 K1
  refine wpPre_e rfl rfl (fun K1 hK1 => ?_)
  apply Exists.intro
  refine And.intro (fun wx hx => ?_) ?_
  · go_simp
    try rfl
  go_simp
  refine hK1 _ ?_
  clear hK1 K1
  refine wpPre_e rfl rfl (fun K1 hK1 => ?_)
  apply Exists.intro
  refine And.intro (fun wx hx => ?_) ?_
  · go_simp
    try rfl
  go_simp
  refine hK1 _ ?_
  clear hK1 K1
  refine wpPre_nil ?_
  refine wpTr_done ?_
  rw [← HW4.out]
  clear q0 q1
  have q0 := HF4.out.bx.cell 0
  have q1 := HF4.out.bx.cell 1
  simp at q0 q1
  go_wp2_with fail
  refine HCt.out.mono ?_
  rintro e w5 ⟨rfl, p5, c5, hI5, hb5, hn5⟩
  have HI5 := hid hI5
  have HB5 := hid hb5
  have HN5 := hid hn5
  clear hI5 hb5 hn5 q0 q1
  have q0 : w5.cell? ⟨f.fb, 0, none⟩ = some (.slice p5 (f.zs.take m).length c5) := by have h := HI5.out.bx.cell 0; simpa [FT.cutd] using h
  have q1 : w5.cell? ⟨f.fb, 1, none⟩ = some (.int .i64 ((min f.sure (f.zs.take m).length : Nat) : Int)) := by have h := HI5.out.bx.cell 1; simpa [FT.cutd] using h
  have qz : w5.frozen? ⟨f.fb, 1, none⟩ = false := HI5.out.bx.frozen 1
  have ql5 : f.fb < w5.heap.size := HI5.out.bx.lt
  obtain ⟨L, hL⟩ : ∃ L, L = (f.zs.take m).length := ⟨_, rfl⟩
  have hL6 : L ≤ 65536 := by rw [hL, List.length_take]; omega
  have HLe := hid hL
  rw [← hL] at q0 q1
  clear hL
  go_wp2
  go_end0
  rw [HLe.out]
  have hsz := HB4.out.size
  have hbx := HI5.out.bx.set 1 (.int .i64 ((f.zs.take m).length : Int))
  have hbt : But f.blk w5 (w5.setCell ⟨f.fb, 1, none⟩ (.int .i64 ((f.zs.take m).length : Int))) := (But.refl _ _).setCell (p := ⟨f.fb, 1, none⟩) (fun _ => .inl rfl) _
  unfold SvQ
  rw [← HM.out]
  refine ⟨rfl, p5, c5, ?_, (But.ofBelow HB4.out).trans (HB5.out.trans hbt), fun k hk => (HN5.out k hk).imp_right fun h => Nat.le_trans hsz h⟩
  refine ⟨HI5.out.nm, ?_, ?_, fun g hg => ⟨(HI5.out.rc g hg).1.imp_right fun h => Nat.le_trans hsz h, (HI5.out.rc g hg).2⟩, HI5.out.fc.imp_right fun h => Nat.le_trans hsz h, HI5.out.le, Nat.le_refl _, HI5.out.by_⟩
  · have h : Box (w5.setCell ⟨f.fb, 1, none⟩ (.int .i64 ((f.zs.take m).length : Int))) f.fb #[.slice p5 (f.zs.take m).length c5, .int .i64 ((f.zs.take m).length : Int)] 76 := by
      simpa [FT.cutd] using hbx
    exact h
  · exact ownsRow_keep HI5.out.row fun g hg _ => Below.heap_setCell _ _ _ _ (fun e => (HI5.out.rc g hg).2 e)
end Go.Proofs.YtkfcilandmhomaaDoor
