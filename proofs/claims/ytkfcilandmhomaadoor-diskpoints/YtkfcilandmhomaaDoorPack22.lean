import Derived.Test.YtkfcilandmhomaaDoorPack21
namespace Go.Proofs.YtkfcilandmhomaaDoor
open Go.RowKit
set_option maxRecDepth 8000
theorem ch_fs (D : DK) (s : ByteArray) : (chD D s).fs = D.fs ∧ (chD D s).mb = D.mb := by
  unfold chD
  split
  · exact ⟨(pays_fs _ 1).1.trans (beg_fs D s).1, (pays_fs _ 1).2.trans (beg_fs D s).2⟩
  · exact beg_fs D s
theorem DK.Ok.ch {D : DK} (h : D.Ok) (ha : 0 ≤ D.after) (s : ByteArray) : (chD D s).Ok := by
  unfold chD
  split
  · exact (h.beg ha s).pays 1
  · exact h.beg ha s
/-- what a call made of the disk: its territory grew by new blocks, nothing else changed -/
def Chg (D' : DK) (C : Nat → Prop) (db : Nat) (w w' : World) : Prop := DkI w' (fun k => C k ∨ w.heap.size ≤ k) db D' ∧ But C w w'
theorem RigQ.chg {D' : DK} {C : Nat → Prop} {db : Nat} {w w' : World} (h : RigQ D' C db w w') : Chg D' C db w w' :=
  ⟨h.1.mono fun _ hk _ => .inl hk, h.2.mono fun k _ e => by subst e; exact h.1.cb⟩
def syD (D : DK) (s : ByteArray) (u : FT → FT) : DK := if chE D s = 0 then (match fnd D s with | some f => (chD D s).upd s (u f) | none => chD D s) else chD D s
def FT.syn (f : FT) : FT := { f with sure := f.zs.length }
set_option maxHeartbeats 8000000 in
theorem dsync_any (D : DK) (s : ByteArray) (w : World) (C : Nat → Prop) (db : Nat) (hD : DkI w C db D) (hO : D.Ok) (hmx : s.size ≤ 140737488355328) :
    Calls Tryd.prog 16 #[.pointer (some ⟨db, 0, none⟩), .string s] w fun e w' => e = .returned (.int .i64 (chE D s)) ∧ Chg (syD D s FT.syn) C db w w' := by
  have HRc := hid (dchange_any D s w C db hD hO hmx)
  clear hD hO
  go_enter Tryd.func16, Tryd.ntmps16
  go_wp2_with fail
  refine HRc.out.mono ?_
  rintro e w2 ⟨t, rfl, ht, hQ⟩
  have HT := hid ht
  have HQ := hid hQ
  clear hQ ht
  rw [labV_at]
  obtain ⟨W3, hW3⟩ : ∃ V, V = w2.alloc (.cells #[.int .u8 (bat t 0), .int .u8 (bat t 1), .int .u8 (bat t 2), .int .u8 (bat t 3), .int .u8 (bat t 4), .int .u8 (bat t 5), .int .u8 (bat t 6), .int .u8 (bat t 7), .int .u8 (bat t 8), .int .u8 (bat t 9), .int .u8 (bat t 10), .int .u8 (bat t 11)] 69) := ⟨_, rfl⟩
  have HBx : Hid (Below w2.heap.size w2 W3) := by show Below _ _ _; rw [hW3]; exact (Below.refl _ _).alloc (Nat.le_refl _) _
  have HY3 : Hid (Box W3 w2.heap.size #[.int .u8 (bat t 0), .int .u8 (bat t 1), .int .u8 (bat t 2), .int .u8 (bat t 3), .int .u8 (bat t 4), .int .u8 (bat t 5), .int .u8 (bat t 6), .int .u8 (bat t 7), .int .u8 (bat t 8), .int .u8 (bat t 9), .int .u8 (bat t 10), .int .u8 (bat t 11)] 69) := by show Box _ _ _ _; rw [hW3]; exact Box.new _ _ _
  have HW3 := hid hW3
  clear hW3
  go_upto_region 2 with fail
  rw [← HW3.out]
  by_cases hr : chE D s = 0
  · rw [hr]
    obtain ⟨hts, hNm, f, hf0⟩ := HT.out hr
    subst hts
    obtain ⟨E, hE⟩ : ∃ E, E = chD D t := ⟨_, rfl⟩
    have HRd : Hid (syD D t FT.syn = E.upd t f.syn) := by show syD D t FT.syn = _; rw [syD, if_pos hr, hf0, hE]
    have hf : fnd E t = some f := by unfold fnd at hf0 ⊢; rw [hE, (ch_fs D t).1]; exact hf0
    have HF := hid hf
    rw [← hE] at HQ
    have HD3 : Hid (DkI W3 C db E) := HQ.out.1.below HBx.out
    have HNm := hid hNm
    have HM : Hid (MpI W3 E.mb E.ents) := HD3.out.mp
    have d0 := HD3.out.bx.cell 0
    simp at d0
    have y0 := HY3.out.cell 0
    have y1 := HY3.out.cell 1
    have y2 := HY3.out.cell 2
    have y3 := HY3.out.cell 3
    have y4 := HY3.out.cell 4
    have y5 := HY3.out.cell 5
    have y6 := HY3.out.cell 6
    have y7 := HY3.out.cell 7
    have y8 := HY3.out.cell 8
    have y9 := HY3.out.cell 9
    have y10 := HY3.out.cell 10
    have y11 := HY3.out.cell 11
    have yl := HY3.out.lt
    simp at y0 y1 y2 y3 y4 y5 y6 y7 y8 y9 y10 y11
    have hlk : lk E.ents t = some (.pointer (some ⟨f.fb, 0, none⟩)) := by rw [lk_ents, hf]; rfl
    clear hNm hE hf hf0
    go_upto_region 4 with fail
    refine wp_region_calmE 30 (fun wx => Below W3.heap.size W3 wx) [(0, true), (1, true), (2, true), (3, false), (4, false), (5, false), (6, true)] .done (by kernel_rfl) (by kernel_rfl) (Below.refl _ _).drew ?_
    refine wpPre_e rfl rfl (fun K1 hK1 => ?_)
    apply Exists.intro
    refine And.intro (fun wx hx => ?_) ?_
    · go_simp
      try rfl
    go_simp
    refine hK1 _ ?_
    clear hK1 K1
    refine wpPre_e rfl rfl (fun K1 hK1 => ?_)
    apply Exists.intro
    refine And.intro (fun wx hx => ?_) ?_
    · go_simp
      try rfl
    go_simp
    refine hK1 _ ?_
    clear hK1 K1
    refine wpPre_e rfl rfl (fun K1 hK1 => ?_)
    apply Exists.intro
    refine And.intro (fun wx hx => ?_) ?_
    · go_simp
      try rfl
    go_simp
    refine hK1 _ ?_
    clear hK1 K1
    refine wpPre_e rfl rfl (fun K1 hK1 => ?_)
    apply Exists.intro
    refine And.intro (fun wx hx => ?_) ?_
    · have e0 := below_fact hx rfl d0
      go_simp
      try rfl
    go_simp
    refine hK1 _ ?_
    clear hK1 K1
    refine wpPre_e rfl rfl (fun K1 hK1 => ?_)
    apply Exists.intro
    refine And.intro (fun wx hx => ?_) ?_
    · have e0 := below_fact hx rfl y0
      have e1 := below_fact hx rfl y1
      have e2 := below_fact hx rfl y2
      have e3 := below_fact hx rfl y3
      have e4 := below_fact hx rfl y4
      have e5 := below_fact hx rfl y5
      have e6 := below_fact hx rfl y6
      have e7 := below_fact hx rfl y7
      have e8 := below_fact hx rfl y8
      have e9 := below_fact hx rfl y9
      have e10 := below_fact hx rfl y10
      have e11 := below_fact hx rfl y11
      go_simp
      try rfl
    go_simp
    refine hK1 _ ?_
    clear hK1 K1
    refine wpPre_e rfl rfl (fun K1 hK1 => ?_)
    apply Exists.intro
    refine And.intro (fun wx hx => ?_) ?_
    · have hx2 := hx.resolve_left (by simp)
      have e0 := run_look (HM.out.kept (hx2.block _ HM.out.lt)) HNm.out false
      simp only [labV, labC, hlk, Option.getD_some, Bool.false_eq_true, if_false] at e0
      go_simp
      try rfl
    go_simp
    refine hK1 _ ?_
    clear hK1 K1
    refine wpPre_e rfl rfl (fun K1 hK1 => ?_)
    apply Exists.intro
    refine And.intro (fun wx hx => ?_) ?_
    · go_simp
      try rfl
    go_simp
    refine hK1 _ ?_
    clear hK1 K1
    refine wpPre_nil ?_
    refine wpTr_done ?_
    clear hlk y0 y1 y2 y3 y4 y5 y6 y7 y8 y9 y10 y11 yl d0
    obtain ⟨W4, hW4⟩ : ∃ V, V = W3.drew := ⟨_, rfl⟩
    rw [← hW4]
    have HD4 : Hid (DkI W4 C db E) := by show DkI _ _ _ _; rw [hW4]; exact HD3.out.kept fun _ _ _ => rfl
    have HBt4 : Hid (But C w W4) := by
      show But _ _ _
      rw [hW4]
      exact (HQ.out.2.mono (fun k _ e => by subst e; exact HQ.out.1.cb)).trans (But.ofBelow HBx.out).drew
    clear hW4
    have HF4 := hid (HD4.out.each f (fnd_at HF.out).1)
    have q0 := HF4.out.bx.cell 0
    have q1 := HF4.out.bx.cell 1
    have qz := HF4.out.bx.frozen 1
    have ql := HF4.out.bx.lt
    simp at q0 q1
    go_wp2
    have hbx := HF4.out.bx.set 1 (.int .i64 (f.zs.length : Int))
    have hbt : But f.blk W4 (W4.setCell ⟨f.fb, 1, none⟩ (.int .i64 (f.zs.length : Int))) := (But.refl _ _).setCell (p := ⟨f.fb, 1, none⟩) (fun _ => .inl rfl) _
    have hI : FtI (W4.setCell ⟨f.fb, 1, none⟩ (.int .i64 (f.zs.length : Int))) (fun k => C k ∨ W4.heap.size ≤ k) f.syn := by
      refine ⟨HF4.out.nm, by simpa [FT.syn] using hbx, ?_, fun g hg => ⟨.inl (HF4.out.rc g hg).1, (HF4.out.rc g hg).2⟩, .inl HF4.out.fc, HF4.out.le, Nat.le_refl _, HF4.out.by_⟩
      exact ownsRow_keep HF4.out.row fun g hg _ => Below.heap_setCell _ _ _ _ (fun e => (HF4.out.rc g hg).2 e)
    have hU := HD4.out.upd (f' := f.syn) HF.out rfl rfl hI hbt (fun k hk => .inl hk)
    refine bodyPost_ret (v := .int .i64 0) (by simp [results, Tryd.results16, go_sem]) rfl ⟨by first | rfl | rw [hr], ?_⟩
    rw [HRd.out]
    refine ⟨hU.mono fun k hk _ => hk.imp_right fun h => Nat.le_trans HBt4.out.size h, HBt4.out.trans (hbt.mono fun k _ hk => (HF4.out.blk hk).1)⟩
  · have HRd : Hid (syD D s FT.syn = chD D s) := by show syD D s FT.syn = _; rw [syD, if_neg hr]
    go_wp2
    refine bodyPost_ret (v := .int .i64 (chE D s)) (by simp [results, Tryd.results16, go_sem]) rfl ⟨rfl, ?_⟩
    rw [HRd.out]
    have h := HQ.out.chg
    exact ⟨h.1.below HBx.out, h.2.trans (But.ofBelow HBx.out)⟩
end Go.Proofs.YtkfcilandmhomaaDoor

namespace Go.Proofs.YtkfcilandmhomaaDoor
open Go.RowKit
set_option maxRecDepth 8000
/-- the file cut -/
def FT.cutd (f : FT) (n : Nat) (p : Option Addr) (c : Nat) : FT := ⟨f.name, f.fb, p, c, f.zs.take n, min f.sure (f.zs.take n).length⟩
def CutQ (f : FT) (n : Nat) (C : Nat → Prop) (w w' : World) : Prop :=
  ∃ (p : Option Addr) (c : Nat), FtI w' (fun k => C k ∨ w.heap.size ≤ k) (f.cutd n p c) ∧ But f.blk w w' ∧ ∀ k, (f.cutd n p c).blk k → f.blk k ∨ w.heap.size ≤ k
theorem Src.take {w : World} {p : Option Addr} {c : Nat} {zs : List Int} (h : Src w p zs.length c 1 (zs.map (.int .u8))) (n : Nat) (hn : n ≤ zs.length) : Src w p n c 1 ((zs.take n).map (.int .u8)) := by
  rcases h with ⟨h1, h2, h3, h4⟩ | ⟨ad, h1, h2, h3⟩
  · obtain rfl : zs = [] := List.eq_nil_of_length_eq_zero h2
    have : n = 0 := by simpa using hn
    subst this
    exact .inl ⟨h1, rfl, h3, rfl⟩
  · refine .inr ⟨ad, h1, by simp; omega, fun j u hu => h3 j u ?_⟩
    rw [List.getElem?_map] at hu ⊢
    rw [List.getElem?_take] at hu
    split at hu
    · exact hu
    · cases hu
set_option maxHeartbeats 8000000 in
theorem dcut_any (f : FT) (n : Nat) (w : World) (C : Nat → Prop) (hF : FtI w C f) (hn : n ≤ 9223372036854775807) :
    Calls Tryd.prog 44 #[.pointer (some ⟨f.fb, 0, none⟩), .int .i64 (n : Int)] w fun e w' => e = .returned (.tuple #[]) ∧ CutQ f n C w w' := by
  have HF := hid hF
  have q0 := hF.bx.cell 0
  have q1 := hF.bx.cell 1
  have qz0 := hF.bx.frozen 0
  have qz := hF.bx.frozen 1
  have ql := hF.bx.lt
  have hle := hF.le
  have hsu := hF.su
  simp at q0 q1
  clear hF
  by_cases h0 : n < f.zs.length
  · have h0' : (n : Int) < (f.zs.length : Int) := by omega
    have hcc : f.zs.length ≤ f.c := (own_byts HF.out.row (S := fun _ => True) (fun _ _ => trivial) HF.out.by_ (by omega)).nc
    have hnc : (n : Int) ≤ (f.c : Int) := by omega
    have HCl := hid (bclone_any f.p f.c (f.zs.take n) w (by rw [List.length_take, Nat.min_eq_left (Nat.le_of_lt h0)]; exact (HF.out.row.src rfl).take n (Nat.le_of_lt h0)) (by simp; omega))
    have HTl : Hid ((f.zs.take n).length = n) := by show (f.zs.take n).length = n; rw [List.length_take, Nat.min_eq_left (Nat.le_of_lt h0)]
    rw [HTl.out] at HCl
    go_enter Tryd.func44, Tryd.ntmps44
    go_wp2_with fail
    refine HCl.out.mono ?_
    rintro e w2 ⟨p', c', rfl, hr2, hb2⟩
    have HR2 := hid hr2
    have HB2 := hid hb2
    have HX2 := hid (HF.out.bx.below hb2)
    clear hr2 hb2 q0 q1 qz0 qz
    have q0 := HX2.out.cell 0
    have qz0 := HX2.out.frozen 0
    have ql2 := HX2.out.lt
    simp at q0
    obtain ⟨V, hV⟩ : ∃ V, V = w2.setCell ⟨f.fb, 0, none⟩ (.slice p' n c') := ⟨_, rfl⟩
    have HXV : Hid (Box V f.fb #[.slice p' n c', .int .i64 (f.sure : Int)] 76) := by
      show Box _ _ _ _
      rw [hV]
      have h := HX2.out.set 0 (.slice p' n c')
      simpa using h
    have HVb : Hid (∀ k, k ≠ f.fb → V.heap[k]? = w2.heap[k]?) := fun k hk => by rw [hV]; exact Below.heap_setCell _ _ _ _ hk
    have HBtV : Hid (But f.blk w V) := by show But _ _ _; rw [hV]; exact (But.ofBelow HB2.out).setCell (p := ⟨f.fb, 0, none⟩) (fun _ => .inl rfl) _
    have HVe := hid hV
    clear hV
    go_upto_region 2 with fail
    rw [← HVe.out]
    clear q0 qz0 ql2
    have q0 := HXV.out.cell 0
    have q1 := HXV.out.cell 1
    have qz := HXV.out.frozen 1
    have ql := HXV.out.lt
    simp at q0 q1
    refine wp_region_calmE 30 (fun wx => Below V.heap.size V wx) [(0, true), (1, true), (2, true), (3, true), (4, false), (5, true), (6, true), (7, true), (8, false), (9, true), (10, true), (11, true), (12, true)] (.one 13 false [] .done) (by kernel_rfl) (by kernel_rfl) (Below.refl _ _).drew ?_
    refine wpPre_e rfl rfl (fun K1 hK1 => ?_)
    apply Exists.intro
    refine And.intro (fun wx hx => ?_) ?_
    · go_simp
      try rfl
    go_simp
    refine hK1 _ ?_
    clear hK1 K1
    refine wpPre_e rfl rfl (fun K1 hK1 => ?_)
    apply Exists.intro
    refine And.intro (fun wx hx => ?_) ?_
    · go_simp
      try rfl
    go_simp
    refine hK1 _ ?_
    clear hK1 K1
    refine wpPre_e rfl rfl (fun K1 hK1 => ?_)
    apply Exists.intro
    refine And.intro (fun wx hx => ?_) ?_
    · go_simp
      try rfl
    go_simp
    refine hK1 _ ?_
    clear hK1 K1
    refine wpPre_e rfl rfl (fun K1 hK1 => ?_)
    apply Exists.intro
    refine And.intro (fun wx hx => ?_) ?_
    · go_simp
      try rfl
    go_simp
    refine hK1 _ ?_
    clear hK1 K1
    refine wpPre_e rfl rfl (fun K1 hK1 => ?_)
    apply Exists.intro
    refine And.intro (fun wx hx => ?_) ?_
    · have e0 := below_fact hx rfl q1
      go_simp
      try rfl
    go_simp
    refine hK1 _ ?_
    clear hK1 K1
    refine wpPre_e rfl rfl (fun K1 hK1 => ?_)
    apply Exists.intro
    refine And.intro (fun wx hx => ?_) ?_
    · go_simp
      try rfl
    go_simp
    refine hK1 _ ?_
    clear hK1 K1
    refine wpPre_e rfl rfl (fun K1 hK1 => ?_)
    apply Exists.intro
    refine And.intro (fun wx hx => ?_) ?_
    · go_simp
      try rfl
    go_simp
    refine hK1 _ ?_
    clear hK1 K1
    refine wpPre_e rfl rfl (fun K1 hK1 => ?_)
    apply Exists.intro
    refine And.intro (fun wx hx => ?_) ?_
    · go_simp
      try rfl
    go_simp
    refine hK1 _ ?_
    clear hK1 K1
    refine wpPre_e rfl rfl (fun K1 hK1 => ?_)
    apply Exists.intro
    refine And.intro (fun wx hx => ?_) ?_
    · have e0 := below_fact hx rfl q0
      go_simp
      try rfl
    go_simp
    refine hK1 _ ?_
    clear hK1 K1
    refine wpPre_e rfl rfl (fun K1 hK1 => ?_)
    apply Exists.intro
    refine And.intro (fun wx hx => ?_) ?_
    · go_simp
      try rfl
    go_simp
    refine hK1 _ ?_
    clear hK1 K1
    refine wpPre_e rfl rfl (fun K1 hK1 => ?_)
    apply Exists.intro
    refine And.intro (fun wx hx => ?_) ?_
    · go_simp
      try rfl
    go_simp
    refine hK1 _ ?_
    clear hK1 K1
    refine wpPre_e rfl rfl (fun K1 hK1 => ?_)
    apply Exists.intro
    refine And.intro (fun wx hx => ?_) ?_
    · go_simp
      try rfl
    go_simp
    refine hK1 _ ?_
    clear hK1 K1
    refine wpPre_e rfl rfl (fun K1 hK1 => ?_)
    apply Exists.intro
    refine And.intro (fun wx hx => ?_) ?_
    · go_simp
      try rfl
    go_simp
    refine hK1 _ ?_
    clear hK1 K1
    refine wpPre_nil ?_
    refine wpTr_e rfl (fun K1 hK1 => ?_)
    have s1 : V.drew.cell? ⟨f.fb, 1, none⟩ = some (.int .i64 (f.sure : Int)) := q1
    have s2 : V.drew.frozen? ⟨f.fb, 1, none⟩ = false := qz
    have s3 : f.fb < V.drew.heap.size := ql
    go_simp
    refine hK1 _ _ (fun h => by cases h) ?_
    clear s1 s2 s3
    clear hK1 K1
    refine wpPre_nil ?_
    refine wpTr_done ?_
    go_end0
    have em : (min (f.sure : Int) (n : Int)) = ((min f.sure (f.zs.take n).length : Nat) : Int) := by rw [HTl.out]; omega
    rw [em]
    have hbx := HXV.out.set 1 (.int .i64 ((min f.sure (f.zs.take n).length : Nat) : Int))
    refine ⟨rfl, p', c', ⟨HF.out.nm, ?_, ?_, ?_, .inl HF.out.fc, ?_, Nat.min_le_right _ _, fun z hz => HF.out.by_ z (List.mem_of_mem_take hz)⟩, (HBtV.out.setCell (p := ⟨f.fb, 1, none⟩) (fun _ => .inl rfl) _).drew, ?_⟩
    · have h : Box (V.setCell ⟨f.fb, 1, none⟩ (.int .i64 ((min f.sure (f.zs.take n).length : Nat) : Int))) f.fb #[.slice p' (f.zs.take n).length c', .int .i64 ((min f.sure (f.zs.take n).length : Nat) : Int)] 76 := by
        rw [HTl.out] at hbx ⊢
        simpa using hbx
      exact h
    · show OwnBy 0 _ (.slice p' (f.zs.take n).length c') (f.zs.take n)
      rw [HTl.out]
      refine ownsRow_keep (ownBy_ge HR2.out (Nat.zero_le _)) fun g hg _ => ?_
      have hge := (HR2.out.lt g hg).1
      have hfl := HF.out.bx.lt
      exact (Below.heap_setCell _ _ _ _ (by show ¬ g = f.fb; omega)).trans (HVb.out g (by omega))
    · intro g hg
      have hg' : (Value.slice p' (f.zs.take n).length c').ownBlock = some g := hg
      rw [HTl.out] at hg'
      have hge := (HR2.out.lt g hg').1
      have hfl := HF.out.bx.lt
      exact ⟨.inr hge, by show g ≠ f.fb; omega⟩
    · show (f.zs.take n).length ≤ 65536
      rw [HTl.out]; omega
    · intro k hk
      rcases hk with hk | hk
      · exact .inl (.inl hk)
      · have hg' : (Value.slice p' (f.zs.take n).length c').ownBlock = some k := hk
        rw [HTl.out] at hg'
        exact .inr (HR2.out.lt k hg').1
  · have h0' : ¬ (n : Int) < (f.zs.length : Int) := by omega
    have HTk : Hid (f.zs.take n = f.zs) := List.take_of_length_le (by omega)
    go_enter Tryd.func44, Tryd.ntmps44
    go_upto_region 2 with fail
    refine wp_region_calmE 30 (fun wx => Below w.heap.size w wx) [(0, true), (1, true), (2, true), (3, true), (4, false), (5, true), (6, true), (7, true), (8, false), (9, true), (10, true), (11, true), (12, true)] (.one 13 false [] .done) (by kernel_rfl) (by kernel_rfl) (Below.refl _ _).drew ?_
    refine wpPre_e rfl rfl (fun K1 hK1 => ?_)
    apply Exists.intro
    refine And.intro (fun wx hx => ?_) ?_
    · go_simp
      try rfl
    go_simp
    refine hK1 _ ?_
    clear hK1 K1
    refine wpPre_e rfl rfl (fun K1 hK1 => ?_)
    apply Exists.intro
    refine And.intro (fun wx hx => ?_) ?_
    · go_simp
      try rfl
    go_simp
    refine hK1 _ ?_
    clear hK1 K1
    refine wpPre_e rfl rfl (fun K1 hK1 => ?_)
    apply Exists.intro
    refine And.intro (fun wx hx => ?_) ?_
    · go_simp
      try rfl
    go_simp
    refine hK1 _ ?_
    clear hK1 K1
    refine wpPre_e rfl rfl (fun K1 hK1 => ?_)
    apply Exists.intro
    refine And.intro (fun wx hx => ?_) ?_
    · go_simp
      try rfl
    go_simp
    refine hK1 _ ?_
    clear hK1 K1
    refine wpPre_e rfl rfl (fun K1 hK1 => ?_)
    apply Exists.intro
    refine And.intro (fun wx hx => ?_) ?_
    · have e0 := below_fact hx rfl q1
      go_simp
      try rfl
    go_simp
    refine hK1 _ ?_
    clear hK1 K1
    refine wpPre_e rfl rfl (fun K1 hK1 => ?_)
    apply Exists.intro
    refine And.intro (fun wx hx => ?_) ?_
    · go_simp
      try rfl
    go_simp
    refine hK1 _ ?_
    clear hK1 K1
    refine wpPre_e rfl rfl (fun K1 hK1 => ?_)
    apply Exists.intro
    refine And.intro (fun wx hx => ?_) ?_
    · go_simp
      try rfl
    go_simp
    refine hK1 _ ?_
    clear hK1 K1
    refine wpPre_e rfl rfl (fun K1 hK1 => ?_)
    apply Exists.intro
    refine And.intro (fun wx hx => ?_) ?_
    · go_simp
      try rfl
    go_simp
    refine hK1 _ ?_
    clear hK1 K1
    refine wpPre_e rfl rfl (fun K1 hK1 => ?_)
    apply Exists.intro
    refine And.intro (fun wx hx => ?_) ?_
    · have e0 := below_fact hx rfl q0
      go_simp
      try rfl
    go_simp
    refine hK1 _ ?_
    clear hK1 K1
    refine wpPre_e rfl rfl (fun K1 hK1 => ?_)
    apply Exists.intro
    refine And.intro (fun wx hx => ?_) ?_
    · go_simp
      try rfl
    go_simp
    refine hK1 _ ?_
    clear hK1 K1
    refine wpPre_e rfl rfl (fun K1 hK1 => ?_)
    apply Exists.intro
    refine And.intro (fun wx hx => ?_) ?_
    · go_simp
      try rfl
    go_simp
    refine hK1 _ ?_
    clear hK1 K1
    refine wpPre_e rfl rfl (fun K1 hK1 => ?_)
    apply Exists.intro
    refine And.intro (fun wx hx => ?_) ?_
    · go_simp
      try rfl
    go_simp
    refine hK1 _ ?_
    clear hK1 K1
    refine wpPre_e rfl rfl (fun K1 hK1 => ?_)
    apply Exists.intro
    refine And.intro (fun wx hx => ?_) ?_
    · go_simp
      try rfl
    go_simp
    refine hK1 _ ?_
    clear hK1 K1
    refine wpPre_nil ?_
    refine wpTr_e rfl (fun K1 hK1 => ?_)
    have s1 : w.drew.cell? ⟨f.fb, 1, none⟩ = some (.int .i64 (f.sure : Int)) := q1
    have s2 : w.drew.frozen? ⟨f.fb, 1, none⟩ = false := qz
    have s3 : f.fb < w.drew.heap.size := ql
    go_simp
    refine hK1 _ _ (fun h => by cases h) ?_
    clear s1 s2 s3
    clear hK1 K1
    refine wpPre_nil ?_
    refine wpTr_done ?_
    go_end0
    have em : (min (f.sure : Int) (f.zs.length : Int)) = ((min f.sure (f.zs.take n).length : Nat) : Int) := by rw [HTk.out]; omega
    rw [em]
    have hbx := HF.out.bx.set 1 (.int .i64 ((min f.sure (f.zs.take n).length : Nat) : Int))
    refine ⟨rfl, f.p, f.c, ⟨HF.out.nm, ?_, ?_, ?_, .inl HF.out.fc, ?_, Nat.min_le_right _ _, fun z hz => HF.out.by_ z (List.mem_of_mem_take hz)⟩, ((But.refl _ _).setCell (p := ⟨f.fb, 1, none⟩) (fun _ => .inl rfl) _).drew, ?_⟩
    · have h : Box (w.setCell ⟨f.fb, 1, none⟩ (.int .i64 ((min f.sure (f.zs.take n).length : Nat) : Int))) f.fb #[.slice f.p (f.zs.take n).length f.c, .int .i64 ((min f.sure (f.zs.take n).length : Nat) : Int)] 76 := by
        rw [HTk.out] at hbx ⊢
        simpa using hbx
      exact h
    · show OwnBy 0 _ (.slice f.p (f.zs.take n).length f.c) (f.zs.take n)
      rw [HTk.out]
      exact ownsRow_keep HF.out.row fun g hg _ => Below.heap_setCell _ _ _ _ (fun e => (HF.out.rc g hg).2 e)
    · intro g hg
      have hg' : (Value.slice f.p (f.zs.take n).length f.c).ownBlock = some g := hg
      rw [HTk.out] at hg'
      exact ⟨.inl (HF.out.rc g hg').1, (HF.out.rc g hg').2⟩
    · show (f.zs.take n).length ≤ 65536
      rw [HTk.out]; exact HF.out.le
    · intro k hk
      rcases hk with hk | hk
      · exact .inl (.inl hk)
      · have hg' : (Value.slice f.p (f.zs.take n).length f.c).ownBlock = some k := hk
        rw [HTk.out] at hg'
        exact .inl (.inr hg')
end Go.Proofs.YtkfcilandmhomaaDoor

namespace Go.Proofs.YtkfcilandmhomaaDoor
open Go.RowKit
set_option maxRecDepth 8000
def TrimQ (D : DK) (s : ByteArray) (n : Int) (C : Nat → Prop) (db : Nat) (w : World) (e : Ending) (w' : World) : Prop :=
  e = .returned (.int .i64 (chE D s)) ∧ (chE D s ≠ 0 → Chg (chD D s) C db w w') ∧ (chE D s = 0 → ∃ f p c, fnd D s = some f ∧ Chg ((chD D s).upd s (f.cutd (max n 0).toNat p c)) C db w w')
set_option maxHeartbeats 8000000 in
theorem dtrim_any (D : DK) (s : ByteArray) (n : Int) (w : World) (C : Nat → Prop) (db : Nat) (hD : DkI w C db D) (hO : D.Ok) (hmx : s.size ≤ 140737488355328) (hn : n ≤ 9223372036854775807) :
    Calls Tryd.prog 30 #[.pointer (some ⟨db, 0, none⟩), .string s, .int .i64 n] w fun e w' => TrimQ D s n C db w e w' := by
  have HRc := hid (dchange_any D s w C db hD hO hmx)
  clear hD hO
  go_enter Tryd.func30, Tryd.ntmps30
  go_wp2_with fail
  refine HRc.out.mono ?_
  rintro e w2 ⟨t, rfl, ht, hQ⟩
  have HT := hid ht
  have HQ := hid hQ
  clear hQ ht
  rw [labV_at]
  obtain ⟨W3, hW3⟩ : ∃ V, V = w2.alloc (.cells #[.int .u8 (bat t 0), .int .u8 (bat t 1), .int .u8 (bat t 2), .int .u8 (bat t 3), .int .u8 (bat t 4), .int .u8 (bat t 5), .int .u8 (bat t 6), .int .u8 (bat t 7), .int .u8 (bat t 8), .int .u8 (bat t 9), .int .u8 (bat t 10), .int .u8 (bat t 11)] 69) := ⟨_, rfl⟩
  have HBx : Hid (Below w2.heap.size w2 W3) := by show Below _ _ _; rw [hW3]; exact (Below.refl _ _).alloc (Nat.le_refl _) _
  have HY3 : Hid (Box W3 w2.heap.size #[.int .u8 (bat t 0), .int .u8 (bat t 1), .int .u8 (bat t 2), .int .u8 (bat t 3), .int .u8 (bat t 4), .int .u8 (bat t 5), .int .u8 (bat t 6), .int .u8 (bat t 7), .int .u8 (bat t 8), .int .u8 (bat t 9), .int .u8 (bat t 10), .int .u8 (bat t 11)] 69) := by show Box _ _ _ _; rw [hW3]; exact Box.new _ _ _
  have HW3 := hid hW3
  clear hW3
  go_upto_region 2 with fail
  rw [← HW3.out]
  by_cases hr : chE D s = 0
  · rw [hr]
    obtain ⟨hts, hNm, f, hf0⟩ := HT.out hr
    subst hts
    obtain ⟨E, hE⟩ : ∃ E, E = chD D t := ⟨_, rfl⟩
    have hf : fnd E t = some f := by unfold fnd at hf0 ⊢; rw [hE, (ch_fs D t).1]; exact hf0
    have HF := hid hf
    have HF0 := hid hf0
    have HEe := hid hE
    rw [← hE] at HQ
    have HD3 : Hid (DkI W3 C db E) := HQ.out.1.below HBx.out
    have HNm := hid hNm
    have HM : Hid (MpI W3 E.mb E.ents) := HD3.out.mp
    have d0 := HD3.out.bx.cell 0
    simp at d0
    have y0 := HY3.out.cell 0
    have y1 := HY3.out.cell 1
    have y2 := HY3.out.cell 2
    have y3 := HY3.out.cell 3
    have y4 := HY3.out.cell 4
    have y5 := HY3.out.cell 5
    have y6 := HY3.out.cell 6
    have y7 := HY3.out.cell 7
    have y8 := HY3.out.cell 8
    have y9 := HY3.out.cell 9
    have y10 := HY3.out.cell 10
    have y11 := HY3.out.cell 11
    have yl := HY3.out.lt
    simp at y0 y1 y2 y3 y4 y5 y6 y7 y8 y9 y10 y11
    have hlk : lk E.ents t = some (.pointer (some ⟨f.fb, 0, none⟩)) := by rw [lk_ents, hf]; rfl
    have HD4 : Hid (DkI W3.drew C db E) := HD3.out.kept fun _ _ _ => rfl
    have HCt : Hid (Calls Tryd.prog 44 #[.pointer (some ⟨f.fb, 0, none⟩), .int .i64 (max n 0)] W3.drew fun e w' => e = .returned (.tuple #[]) ∧ CutQ f (max n 0).toNat C W3.drew w') := by
      have h := dcut_any f (max n 0).toNat W3.drew C (HD4.out.each f (fnd_at hf).1) (by omega)
      have e : (((max n 0).toNat : Nat) : Int) = max n 0 := by omega
      rw [e] at h
      exact h
    clear hNm hE hf hf0
    go_upto_region 4 with fail
    refine wp_region_calmE 30 (fun wx => Below W3.heap.size W3 wx) [(0, true), (1, true), (2, true), (3, false), (4, false), (5, false), (6, true), (7, true)] (.one 8 false [] .done) (by kernel_rfl) (by kernel_rfl) (Below.refl _ _).drew ?_
    refine wpPre_e rfl rfl (fun K1 hK1 => ?_)
    apply Exists.intro
    refine And.intro (fun wx hx => ?_) ?_
    · go_simp
      try rfl
    go_simp
    refine hK1 _ ?_
    clear hK1 K1
    refine wpPre_e rfl rfl (fun K1 hK1 => ?_)
    apply Exists.intro
    refine And.intro (fun wx hx => ?_) ?_
    · go_simp
      try rfl
    go_simp
    refine hK1 _ ?_
    clear hK1 K1
    refine wpPre_e rfl rfl (fun K1 hK1 => ?_)
    apply Exists.intro
    refine And.intro (fun wx hx => ?_) ?_
    · go_simp
      try rfl
    go_simp
    refine hK1 _ ?_
    clear hK1 K1
    refine wpPre_e rfl rfl (fun K1 hK1 => ?_)
    apply Exists.intro
    refine And.intro (fun wx hx => ?_) ?_
    · have e0 := below_fact hx rfl d0
      go_simp
      try rfl
    go_simp
    refine hK1 _ ?_
    clear hK1 K1
    refine wpPre_e rfl rfl (fun K1 hK1 => ?_)
    apply Exists.intro
    refine And.intro (fun wx hx => ?_) ?_
    · have e0 := below_fact hx rfl y0
      have e1 := below_fact hx rfl y1
      have e2 := below_fact hx rfl y2
      have e3 := below_fact hx rfl y3
      have e4 := below_fact hx rfl y4
      have e5 := below_fact hx rfl y5
      have e6 := below_fact hx rfl y6
      have e7 := below_fact hx rfl y7
      have e8 := below_fact hx rfl y8
      have e9 := below_fact hx rfl y9
      have e10 := below_fact hx rfl y10
      have e11 := below_fact hx rfl y11
      go_simp
      try rfl
    go_simp
    refine hK1 _ ?_
    clear hK1 K1
    refine wpPre_e rfl rfl (fun K1 hK1 => ?_)
    apply Exists.intro
    refine And.intro (fun wx hx => ?_) ?_
    · have hx2 := hx.resolve_left (by simp)
      have e0 := run_look (HM.out.kept (hx2.block _ HM.out.lt)) HNm.out false
      simp only [labV, labC, hlk, Option.getD_some, Bool.false_eq_true, if_false] at e0
      go_simp
      try rfl
    go_simp
    refine hK1 _ ?_
    clear hK1 K1
    refine wpPre_e rfl rfl (fun K1 hK1 => ?_)
    apply Exists.intro
    refine And.intro (fun wx hx => ?_) ?_
    · go_simp
      try rfl
    go_simp
    refine hK1 _ ?_
    clear hK1 K1
    refine wpPre_e rfl rfl (fun K1 hK1 => ?_)
    apply Exists.intro
    refine And.intro (fun wx hx => ?_) ?_
    · go_simp
      try rfl
    go_simp
    refine hK1 _ ?_
    clear hK1 K1
    refine wpPre_nil ?_
    refine wpTr_e rfl (fun K1 hK1 => ?_)
    refine step_callG (by first | rfl | go_simp) 44 #[.tmp 23, .tmp 25] _ rfl Tryd.f44 Tryd.func44 (by kernel_rfl) rfl #[.pointer (some ⟨f.fb, 0, none⟩), .int .i64 (max n 0)] rfl _ (HCt.out) ?_
    rintro e_ w5 ⟨rfl, hQ5⟩
    refine ⟨_, rfl, ?_⟩
    have HQ5 := hid hQ5
    clear hQ5
    go_simp
    refine hK1 _ _ (fun h => by cases h) ?_
    clear hK1 K1
    refine wpPre_nil ?_
    refine wpTr_done ?_
    clear hlk y0 y1 y2 y3 y4 y5 y6 y7 y8 y9 y10 y11 yl d0
    go_wp2
    obtain ⟨p5, c5, hI5, hb5, hn5⟩ := HQ5.out
    have hU := HD4.out.upd (f' := f.cutd (max n 0).toNat p5 c5) HF.out rfl rfl hI5 hb5 hn5
    have hB4 : But C w W3.drew := (HQ.out.2.mono (fun k _ e => by subst e; exact HQ.out.1.cb)).trans (But.ofBelow HBx.out).drew
    refine bodyPost_ret (v := .int .i64 0) (by simp [results, Tryd.results30, go_sem]) rfl ⟨by rw [hr], fun h => absurd hr h, fun _ => ⟨f, p5, c5, HF0.out, ?_⟩⟩
    rw [← HEe.out]
    exact ⟨hU.mono fun k hk _ => hk.imp_right fun h => Nat.le_trans hB4.size h, hB4.trans (hb5.mono fun k _ hk => ((HD4.out.each f (fnd_at HF.out).1).blk hk).1)⟩
  · go_wp2
    have h := HQ.out.chg
    exact bodyPost_ret (v := .int .i64 (chE D s)) (by simp [results, Tryd.results30, go_sem]) rfl ⟨rfl, fun _ => ⟨h.1.below HBx.out, h.2.trans (But.ofBelow HBx.out)⟩, fun h => absurd h hr⟩
end Go.Proofs.YtkfcilandmhomaaDoor
