import Derived.Test.YtdncnnjhfipokaaPack9
namespace Go.Proofs.Ytdncnnjhfipokaa
open Go.RowKit
set_option maxRecDepth 8000
/-- what Took answers -/
def Bk.tookE (K : Bk) (x : Int) : Int := if K.has x = false then 132 else if K.held x = true then 134 else 0
/-- is a record that is taken laid in the log? -/
def Bk.lays (K : Bk) (x : Int) : Bool := K.has x && !K.held x && K.cp && (K.st x.toNat == 0)
structure TookQ (x : Int) (r : RT) (w : World) (b : Nat) (K : Bk) (w' : World) (K' : Bk) : Prop where
  s : SetLog w b K w' K'
  n : K.lays x = false → K' = K
  y : K.lays x = true → ∃ u p c, RT.Alike r u ∧ RT.In w' (fun k => w.heap.size ≤ k ∧ ¬ K'.C b k) u ∧ K' = K.setLog x.toNat ((K.lg x.toNat).push p c u)
def TookP (x : Int) (r : RT) (w : World) (b : Nat) (K : Bk) (e : Ending) (w' : World) : Prop := ∃ K', e = .returned (.int .i64 (K.tookE x)) ∧ TookQ x r w b K w' K'
theorem SetLog.same {w w' : World} {b : Nat} {K : Bk} (h : BkI w b K) (hb : Below w.heap.size w w') : SetLog w b K w' K := ⟨h.below hb, But.ofBelow hb, fun _ hk => .inl hk⟩
theorem kindRs : ∃ i, Kind 37 36 i (.agg #[.string ⟨#[]⟩, .int .i64 0, .int .i64 0, .string ⟨#[]⟩, .slice none 0 0, .slice none 0 0]) 6 96 := kindLR
set_option maxHeartbeats 4000000 in
theorem took_any (x : Int) (r : RT) (w : World) (S : Nat → Prop) (b : Nat) (K : Bk) (hI : BkI w b K) (hin : RT.In w S r) (hr : r.size ≤ 10000) (hn : ∀ i, i < 4 → (K.lg i).n ≤ 1000000000) :
    Calls Try.prog 14 #[.pointer (some ⟨b, 0, none⟩), .int .i64 x, .agg #[.string r.key, .int .i64 r.v.kind, .int .i64 r.v.int, .string r.v.text, .slice r.v.p r.v.n r.v.c, .slice r.p r.n r.c]] w fun e w' => TookP x r w b K e w' := by
  obtain ⟨W, hW⟩ : ∃ W, W = w.alloc (.cells #[.string r.key, .int .i64 r.v.kind, .int .i64 r.v.int, .string r.v.text, .slice r.v.p r.v.n r.v.c, .slice r.p r.n r.c] 36) := ⟨_, rfl⟩
  have hB : Below w.heap.size w W := by rw [hW]; exact (Below.refl _ _).alloc (Nat.le_refl _) _
  have hX : Box W w.heap.size #[.string r.key, .int .i64 r.v.kind, .int .i64 r.v.int, .string r.v.text, .slice r.v.p r.v.n r.v.c, .slice r.p r.n r.c] 36 := by rw [hW]; exact Box.new _ _ _
  have HB := hid hB
  have hIW := hI.below hB
  have HI := hid hI
  have HIW := hid hIW
  have HH := hid (has_any x W b K hIW)
  have HG := hid (held_any x W b K hIW)
  have HF : Hid (∀ V, Below W.heap.size W V → Calls Try.prog 35 #[.agg #[.string r.key, .int .i64 r.v.kind, .int .i64 r.v.int, .string r.v.text, .slice r.v.p r.v.n r.v.c, .slice r.p r.n r.c]] V fun e w' => ∃ u : RT, e = .returned (.agg #[.string u.key, .int .i64 u.v.kind, .int .i64 u.v.int, .string u.v.text, .slice u.v.p u.v.n u.v.c, .slice u.p u.n u.c]) ∧ RT.Alike r u ∧ RT.In w' (fun b => V.heap.size ≤ b) u ∧ Below V.heap.size V w') := fun V hV =>
    freshR r V (fun k => S k ∧ k < w.heap.size) ((hin.mono fun k hk hl => ⟨hk, hl⟩).kept (Nat.le_trans hB.size hV.size) (fun k hk _ => (hV.block k (by have := hB.size; omega)).trans (hB.block k hk.2))) hr
  rcases hh : K.has x with _ | _
  · clear hX hin hI hIW hB HI HF HG
    go_enter Try.func14, Try.ntmps14
    go_wp2_with fail
    rw [← hW]
    clear hW
    refine HH.out.mono ?_
    rintro e w1 ⟨rfl, rfl⟩
    rw [hh]
    go_wp2
    refine bodyPost_ret (v := .int .i64 132) (by simp [results, Try.results14, go_sem]) rfl ⟨K, by rw [Bk.tookE, if_pos hh], ⟨HIW.out, But.ofBelow HB.out, fun _ hk => .inl hk⟩, fun _ => rfl, fun h => by rw [Bk.lays, hh] at h; cases h⟩
  rcases hd : K.held x with _ | _
  rotate_left
  · clear hX hin hI hIW hB HI HF
    go_enter Try.func14, Try.ntmps14
    go_wp2_with fail
    rw [← hW]
    clear hW
    refine HH.out.mono ?_
    rintro e w1 ⟨rfl, rfl⟩
    rw [hh]
    go_wp2_with fail
    refine HG.out.mono ?_
    rintro e w1 ⟨rfl, rfl⟩
    rw [hd]
    go_wp2
    refine bodyPost_ret (v := .int .i64 134) (by simp [results, Try.results14, go_sem]) rfl ⟨K, by rw [Bk.tookE, if_neg (by rw [hh]; decide), if_pos hd], ⟨HIW.out, But.ofBelow HB.out, fun _ hk => .inl hk⟩, fun _ => rfl, fun h => by rw [Bk.lays, hh, hd] at h; cases h⟩
  have hx : 0 ≤ x ∧ x < K.ports := by simpa [Bk.has] using hh
  have hp := hI.p1
  obtain ⟨i, rfl⟩ : ∃ i : Nat, x = (i : Int) := ⟨x.toNat, by omega⟩
  have hi : i < 4 := by omega
  have HR := hid (records_any i hi W b K hIW)
  rcases hr' : (K.cp && (K.st i == 0)) with _ | _
  · clear hX hin hI hIW hB HI HF
    go_enter Try.func14, Try.ntmps14
    go_wp2_with fail
    rw [← hW]
    clear hW
    refine HH.out.mono ?_
    rintro e w1 ⟨rfl, rfl⟩
    rw [hh]
    go_wp2_with fail
    refine HG.out.mono ?_
    rintro e w1 ⟨rfl, rfl⟩
    rw [hd]
    go_wp2_with fail
    refine HR.out.mono ?_
    rintro e w1 ⟨rfl, rfl⟩
    rw [hr']
    go_wp2
    refine bodyPost_ret (v := .int .i64 0) (by simp [results, Try.results14, go_sem]) rfl ⟨K, by rw [Bk.tookE, if_neg (by rw [hh]; decide), if_neg (by rw [hd]; decide)], ⟨HIW.out, But.ofBelow HB.out, fun _ hk => .inl hk⟩, fun _ => rfl, fun h => by
      rw [Bk.lays, hh, hd, show ((i : Int)).toNat = i by omega, Bool.and_assoc, hr'] at h; cases h⟩
  · have cl := hIW.cl_ hi
    have r0 := hX.cell 0
    have r1 := hX.cell 1
    have r2 := hX.cell 2
    have r3 := hX.cell 3
    have r4 := hX.cell 4
    have r5 := hX.cell 5
    simp at r0 r1 r2 r3 r4 r5
    have hbW := hIW.box.lt
    have hni := hn i hi
    have hi4 : (i : Int) < 4 := by omega
    obtain ⟨i0, Kd⟩ := kindRs
    have HKd := hid Kd
    clear hX hin hI hIW hB Kd hn
    go_enter Try.func14, Try.ntmps14
    go_wp2_with fail
    rw [← hW]
    clear hW
    refine HH.out.mono ?_
    rintro e w1 ⟨rfl, rfl⟩
    rw [hh]
    go_wp2_with fail
    refine HG.out.mono ?_
    rintro e w1 ⟨rfl, rfl⟩
    rw [hd]
    go_wp2_with fail
    refine HR.out.mono ?_
    rintro e w1 ⟨rfl, rfl⟩
    rw [hr']
    clear HH HG HR
    go_wp2_with fail
    refine wp_region_calmE 30 (fun wx => Below w1.heap.size w1 wx) [(0, true), (1, true), (2, true), (3, true), (4, true), (5, true), (6, true), (7, true), (8, false), (9, false), (13, true), (14, true), (15, true)] (.one 10 true [] (.one 11 true [] (.one 12 false [(16, true)] (.one 17 false [] .done)))) (by kernel_rfl) (by kernel_rfl) (Below.refl _ _).drew ?_
    refine wpPre_e rfl rfl (fun K1 hK1 => ?_)
    apply Exists.intro
    refine And.intro (fun wx hx => ?_) ?_
    · go_simp
      try rfl
    go_simp
    refine hK1 _ ?_
    clear hK1 K1
    refine wpPre_e rfl rfl (fun K1 hK1 => ?_)
    apply Exists.intro
    refine And.intro (fun wx hx => ?_) ?_
    · go_simp
      try rfl
    go_simp
    refine hK1 _ ?_
    clear hK1 K1
    refine wpPre_e rfl rfl (fun K1 hK1 => ?_)
    apply Exists.intro
    refine And.intro (fun wx hx => ?_) ?_
    · go_simp
      try rfl
    go_simp
    refine hK1 _ ?_
    clear hK1 K1
    refine wpPre_e rfl rfl (fun K1 hK1 => ?_)
    apply Exists.intro
    refine And.intro (fun wx hx => ?_) ?_
    · go_simp
      try rfl
    go_simp
    refine hK1 _ ?_
    clear hK1 K1
    refine wpPre_e rfl rfl (fun K1 hK1 => ?_)
    apply Exists.intro
    refine And.intro (fun wx hx => ?_) ?_
    · go_simp
      try rfl
    go_simp
    refine hK1 _ ?_
    clear hK1 K1
    refine wpPre_e rfl rfl (fun K1 hK1 => ?_)
    apply Exists.intro
    refine And.intro (fun wx hx => ?_) ?_
    · go_simp
      try rfl
    go_simp
    refine hK1 _ ?_
    clear hK1 K1
    refine wpPre_e rfl rfl (fun K1 hK1 => ?_)
    apply Exists.intro
    refine And.intro (fun wx hx => ?_) ?_
    · go_simp
      try rfl
    go_simp
    refine hK1 _ ?_
    clear hK1 K1
    refine wpPre_e rfl rfl (fun K1 hK1 => ?_)
    apply Exists.intro
    refine And.intro (fun wx hx => ?_) ?_
    · go_simp
      try rfl
    go_simp
    refine hK1 _ ?_
    clear hK1 K1
    refine wpPre_e rfl rfl (fun K1 hK1 => ?_)
    apply Exists.intro
    refine And.intro (fun wx hx => ?_) ?_
    · have e0 := below_fact hx rfl cl
      have e1 := below_fact hx rfl r0
      have e2 := below_fact hx rfl r1
      have e3 := below_fact hx rfl r2
      have e4 := below_fact hx rfl r3
      have e5 := below_fact hx rfl r4
      have e6 := below_fact hx rfl r5
      go_simp
      try rfl
    go_simp
    refine hK1 _ ?_
    clear hK1 K1
    refine wpPre_e rfl rfl (fun K1 hK1 => ?_)
    apply Exists.intro
    refine And.intro (fun wx hx => ?_) ?_
    · have e0 := below_fact hx rfl cl
      have e1 := below_fact hx rfl r0
      have e2 := below_fact hx rfl r1
      have e3 := below_fact hx rfl r2
      have e4 := below_fact hx rfl r3
      have e5 := below_fact hx rfl r4
      have e6 := below_fact hx rfl r5
      go_simp
      try rfl
    go_simp
    refine hK1 _ ?_
    clear hK1 K1
    refine wpPre_e rfl rfl (fun K1 hK1 => ?_)
    apply Exists.intro
    refine And.intro (fun wx hx => ?_) ?_
    · go_simp
      try rfl
    go_simp
    refine hK1 _ ?_
    clear hK1 K1
    refine wpPre_e rfl rfl (fun K1 hK1 => ?_)
    apply Exists.intro
    refine And.intro (fun wx hx => ?_) ?_
    · go_simp
      try rfl
    go_simp
    refine hK1 _ ?_
    clear hK1 K1
    refine wpPre_e rfl rfl (fun K1 hK1 => ?_)
    apply Exists.intro
    refine And.intro (fun wx hx => ?_) ?_
    · go_simp
      try rfl
    go_simp
    refine hK1 _ ?_
    clear hK1 K1
    refine wpPre_nil ?_
    refine wpTr_e rfl (fun K1 hK1 => ?_)
    refine step_call rfl 35 #[.tmp 28] _ rfl Try.f35 Try.func35 (by kernel_rfl) rfl #[.agg #[.string r.key, .int .i64 r.v.kind, .int .i64 r.v.int, .string r.v.text, .slice r.v.p r.v.n r.v.c, .slice r.p r.n r.c]] rfl _ (HF.out _ (Below.refl _ _).drew) (fun e w4 h4 => ?_)
    obtain ⟨u, rfl, hal4, hin4, hb4⟩ := h4
    refine ⟨_, rfl, ?_⟩
    have hb4' : Below w1.heap.size w1 w4 := (Below.refl w1.heap.size w1).drew.trans hb4
    have hin4' : RT.In w4 (fun b => w1.heap.size ≤ b) u := hin4
    have HU := hid (And.intro hal4 (And.intro hin4' hb4'))
    clear hal4 hin4 hin4' hb4
    go_simp
    refine hK1 _ _ (fun _ => hb4') ?_
    clear hK1 K1
    refine wpPre_nil ?_
    refine wpTr_e rfl (fun K1 hK1 => ?_)
    go_simp
    have hb5 : Below w1.heap.size w1 (w4.alloc (.cells #[.string u.key, .int .i64 u.v.kind, .int .i64 u.v.int, .string u.v.text, .slice u.v.p u.v.n u.v.c, .slice u.p u.n u.c] 36)) := hb4'.alloc hb4'.size _
    refine hK1 _ _ (fun _ => hb5) ?_
    clear hK1 K1
    refine wpPre_nil ?_
    refine wpTr_e rfl (fun K1 hK1 => ?_)
    have hI5 := HIW.out.below hb5
    have hnews : ∀ j u', (elRec.cells u)[j]? = some u' → (w4.alloc (.cells #[.string u.key, .int .i64 u.v.kind, .int .i64 u.v.int, .string u.v.text, .slice u.v.p u.v.n u.v.c, .slice u.p u.n u.c] 36)).cell? ((⟨w4.heap.size, 0, none⟩ : Addr).add j) = some u' := fun j u' hu => by
      rw [Go.WideShapes.add_plain, (Box.new w4 #[.string u.key, .int .i64 u.v.kind, .int .i64 u.v.int, .string u.v.text, .slice u.v.p u.v.n u.v.c, .slice u.p u.n u.c] 36).cell]
      rw [show 0 + j = j by omega]
      simpa [elRec, RT.cells] using hu
    have HX5 := hid (And.intro hI5 (And.intro hb5 hnews))
    clear hI5 hnews
    refine step_app rfl (.tmp 27) (.tmp 30) 37 36 i0 _ 6 96 HKd.out rfl 0 (.slice (K.lg i).p (K.lg i).n (K.lg i).c) (K.lg i).n (rowsR (K.lg i)) rfl (HX5.out.1.own i hi) ⟨w4.heap.size, 0, none⟩ 1 1 (elRec.cells u) rfl rfl HX5.out.2.2 (elRec.one u) (by omega) (by omega) (Nat.zero_le _) ?_
    intro v6 w6 ho6 hg6 hn6
    obtain ⟨p6, c6, rfl⟩ := ownsRow_slice ho6
    have hb6 : Box w6 b K.arr 78 := HX5.out.1.box.kept (hg6.block b HX5.out.1.box.lt (fun e => HIW.out.ne i hi e.symm))
    have y1 : ∃ z, w6.cell? ⟨b, 12 + i, none⟩ = some z := by
      rw [hb6.cell]
      rcases (by omega : i = 0 ∨ i = 1 ∨ i = 2 ∨ i = 3) with rfl | rfl | rfl | rfl <;> exact ⟨_, rfl⟩
    obtain ⟨z1, y1⟩ := y1
    have g1 := hb6.frozen (12 + i)
    have hlt6 := hb6.lt
    rw [← rowsR_push (K.lg i) p6 c6 u] at ho6
    have HS6 := hid (HI.out.setLog (w1 := w4.alloc (.cells #[.string u.key, .int .i64 u.v.kind, .int .i64 u.v.int, .string u.v.text, .slice u.v.p u.v.n u.v.c, .slice u.p u.n u.c] 36)) (w2 := w6) (i := i) (l := (K.lg i).push p6 c6 u) hi (HB.out.trans (HX5.out.2.1.mono HB.out.size)) ho6 hg6 hn6)
    have HR6 := hid (RT.In.apart (l := (K.lg i).push p6 c6 u) HI.out hi ((HU.out.2.1.below ((Below.refl _ _).alloc (Nat.le_refl _) _)).mono (fun k hk _ => by have := HB.out.size; omega)) hg6 hn6)
    clear ho6 hg6 hn6 hb6 HX5
    go_simp
    refine hK1 _ _ (fun h => by cases h) ?_
    clear hK1 K1
    refine wpPre_e rfl rfl (fun K1 hK1 => ?_)
    apply Exists.intro
    refine And.intro (fun wx hx => ?_) ?_
    · go_simp
      try rfl
    go_simp
    refine hK1 _ ?_
    clear hK1 K1
    refine wpPre_nil ?_
    refine wpTr_e rfl (fun K1 hK1 => ?_)
    go_simp
    refine hK1 _ _ (fun h => by cases h) ?_
    clear hK1 K1
    refine wpPre_nil ?_
    refine wpTr_done ?_
    go_wp2
    refine bodyPost_ret (v := .int .i64 0) (by simp [results, Try.results14, go_sem]) rfl ⟨K.setLog i ((K.lg i).push p6 c6 u), by rw [Bk.tookE, if_neg (by rw [hh]; decide), if_neg (by rw [hd]; decide)], HS6.out, fun h => ?_, fun _ => ⟨u, p6, c6, HU.out.1, HR6.out, rfl⟩⟩
    rw [Bk.lays, hh, hd, show ((i : Int)).toNat = i by omega, Bool.and_assoc, hr'] at h; cases h
end Go.Proofs.Ytdncnnjhfipokaa

namespace Go.Proofs.Ytdncnnjhfipokaa
open Go.RowKit
set_option maxRecDepth 8000
/-- the book's own cells changed, its logs not -/
theorem BkI.chg {w w2 : World} {b : Nat} {K K' : Bk} (h : BkI w b K) (hlg : K'.lg = K.lg) (hbox : Box w2 b K'.arr 78) (hbut : But (fun k => k = b) w w2)
    (hm : K'.mode = K.mode) (hp : K'.ports = K.ports) (hk : K'.back = K.back) (hn0 : 0 ≤ K'.now) (hn1 : K'.now ≤ 9999) (hs : ∀ i, i < 4 → K'.st i = 0 ∨ K'.st i = 1 ∨ K'.st i = 2) : SetLog w b K w2 K' := by
  have hlv : ∀ i, K'.lv i = K.lv i := fun i => by unfold Bk.lv; rw [hlg]
  refine ⟨⟨hbox, fun i hi => ?_, fun i hi => ?_, fun i j hi hj hij k hk => ?_, ?_, ?_, ?_, ?_, ?_, ?_, hn0, hn1, hs⟩, ?_, fun k hk => ?_⟩
  · rw [hlv, hlg]; exact ownsRow_keep (h.own i hi) fun k hk hl => hbut.block k hl (fun e => h.ne i hi (e ▸ hk))
  · rw [hlv]; exact h.ne i hi
  · rw [hlv] at hk ⊢; exact h.dis i j hi hj hij k hk
  · rw [hm]; exact h.m0
  · rw [hm]; exact h.m1
  · rw [hp]; exact h.p0
  · rw [hp]; exact h.p1
  · rw [hk]; exact h.b0
  · rw [hk, hp]; exact h.b1
  · exact hbut.mono fun k _ e => .inl e
  · rcases hk with rfl | ⟨i, hi, e⟩
    · exact .inl (.inl rfl)
    · rw [hlv] at e; exact .inl (.inr ⟨i, hi, e⟩)
theorem SetLog.trans {w w1 w2 : World} {b : Nat} {K K1 K2 : Bk} (h : SetLog w b K w1 K1) (g : SetLog w1 b K1 w2 K2) : SetLog w b K w2 K2 := by
  refine ⟨g.inv, ⟨g.but.os.trans h.but.os, g.but.tape.trans h.but.tape, g.but.output.trans h.but.output, Nat.le_trans h.but.size g.but.size, fun k hk hx => ?_⟩, fun k hk => ?_⟩
  · refine (g.but.block k (Nat.lt_of_lt_of_le hk h.but.size) (fun e => ?_)).trans (h.but.block k hk hx)
    rcases h.cs k e with e1 | e1
    · exact hx e1
    · omega
  · rcases g.cs k hk with e | e
    · exact h.cs k e
    · exact .inr (Nat.le_trans h.but.size e)
/-- what lies in new blocks stays -/
theorem SetLog.new {w1 w2 : World} {b : Nat} {K1 K2 : Bk} (g : SetLog w1 b K1 w2 K2) {k : Nat} (hk : k < w1.heap.size) (hn : ¬ K1.C b k) : w2.heap[k]? = w1.heap[k]? := g.but.block k hk hn
structure LT.Alk {α : Type} (R : α → α → Prop) (l u : LT α) : Prop where
  n : u.n = l.n
  item : ∀ j, j < l.n → R (l.item j) (u.item j)
structure SzR (l : LT RT) : Prop where
  n : l.n ≤ 10000
  item : ∀ j, j < l.n → (l.item j).size ≤ 10000
structure SzC (l : LT VT) : Prop where
  n : l.n ≤ 10000
  item : ∀ j, j < l.n → (l.item j).total ≤ 10000
def Bk.copied (K : Bk) (num : Int) (u : LT VT) (v : LT RT) : Bk := { K with cp := true, num := num, cl := u, pd := v }
structure CopyQ (num : Int) (l : LT VT) (q : LT RT) (w : World) (b : Nat) (K : Bk) (w' : World) (K' : Bk) : Prop where
  s : SetLog w b K w' K'
  y : K.cp = true → K' = K
  n : K.cp = false → ∃ u v, K' = K.copied num u v ∧ LT.Alk VT.Alike l u ∧ LT.Alk RT.Alike q v ∧ LT.In elCell w' (fun k => w.heap.size ≤ k) u ∧ LT.In elRec w' (fun k => w.heap.size ≤ k) v
set_option maxHeartbeats 4000000 in
theorem copy_any (num : Int) (l : LT VT) (q : LT RT) (w : World) (S : Nat → Prop) (b : Nat) (K : Bk) (hI : BkI w b K) (hl : LT.In elCell w S l) (hq : LT.In elRec w S q) (sl : SzC l) (sq : SzR q) :
    Calls Try.prog 56 #[.pointer (some ⟨b, 3, none⟩), .agg #[.int .i64 num, .slice l.p l.n l.c], .slice q.p q.n q.c] w fun e w' => ∃ K', e = .returned (.bool (!K.cp)) ∧ CopyQ num l q w b K w' K' := by
  have hB : Below w.heap.size w (w.alloc (.cells #[.int .i64 num, .slice l.p l.n l.c] 40)) := (Below.refl _ _).alloc (Nat.le_refl _) _
  have HB := hid hB
  have HI := hid hI
  have c8 := hI.box.cell 8
  have hbl := hI.box.lt
  simp [Bk.arr] at c8
  rcases hc : K.cp with _ | _
  rotate_left
  · rw [hc] at c8
    clear hI hl hq sl sq hB
    go_enter Try.func56, Try.ntmps56
    go_wp2
    refine bodyPost_ret (v := .bool false) (by simp [results, Try.results56, go_sem]) rfl ⟨K, rfl, SetLog.same HI.out HB.out, fun _ => rfl, fun h => by rw [hc] at h; cases h⟩
  · rw [hc] at c8
    have HS : Hid (∀ V, Below w.heap.size w V → Calls Try.prog 71 #[.agg #[.int .i64 num, .slice l.p l.n l.c]] V fun e w' => ∃ u : LT VT, e = .returned (.agg #[.int .i64 num, .slice u.p u.n u.c]) ∧ u.n = l.n ∧ (∀ j, j < l.n → VT.Alike (l.item j) (u.item j)) ∧ LT.In elCell w' (fun b => V.heap.size ≤ b) u ∧ Below V.heap.size V w') := fun V hV =>
      freshS num l V (fun k => S k ∧ k < w.heap.size) ((hl.mono fun k hk hl => ⟨hk, hl⟩).kept hV.size (fun k hk _ => hV.block k hk.2)) sl.n sl.item
    have HR : Hid (∀ V, Below w.heap.size w V → Calls Try.prog 55 #[.slice q.p q.n q.c] V fun e w' => ∃ u : LT RT, e = .returned (.slice u.p u.n u.c) ∧ u.n = q.n ∧ (∀ j, j < q.n → RT.Alike (q.item j) (u.item j)) ∧ LT.In elRec w' (fun b => V.heap.size ≤ b) u ∧ Below V.heap.size V w') := fun V hV =>
      freshRs q V (fun k => S k ∧ k < w.heap.size) ((hq.mono fun k hk hl => ⟨hk, hl⟩).kept hV.size (fun k hk _ => hV.block k hk.2)) sq.n sq.item
    clear hI hl hq sl sq hB
    go_enter Try.func56, Try.ntmps56
    go_wp2_with fail
    refine (HS.out _ HB.out).mono ?_
    rintro e w1 ⟨u, rfl, un, ual, uin, ub⟩
    have hb1 : Below w.heap.size w w1 := HB.out.trans (ub.mono (by simp))
    have HU := hid (And.intro (LT.Alk.mk (R := VT.Alike) un ual) (And.intro (uin.mono (S' := fun k => w.heap.size ≤ k) (fun k hk _ => Nat.le_trans (by simp) hk)) hb1))
    clear un ual uin ub hb1 HS
    go_wp2_with fail
    refine (HR.out _ HU.out.2.2).mono ?_
    rintro e w2 ⟨v, rfl, vn, val, vin, vb⟩
    have hb2 : Below w.heap.size w w2 := HU.out.2.2.trans (vb.mono HU.out.2.2.size)
    have HV := hid (And.intro (LT.Alk.mk (R := RT.Alike) vn val) (And.intro (vin.mono (S' := fun k => w.heap.size ≤ k) (fun k hk _ => Nat.le_trans HU.out.2.2.size hk)) hb2))
    have HU2 := hid (HU.out.2.1.below vb)
    have hI2 := HI.out.below hb2
    have HI2 := hid hI2
    have y8 := hI2.box.cell 8
    have y9 := hI2.box.cell 9
    have y10 := hI2.box.cell 10
    have y11 := hI2.box.cell 11
    have f8 := hI2.box.frozen 8
    have f9 := hI2.box.frozen 9
    have f10 := hI2.box.frozen 10
    have f11 := hI2.box.frozen 11
    have hbl2 := hI2.box.lt
    simp [Bk.arr] at y8 y9 y10 y11
    clear vn val vin vb hb2 HR hI2
    go_wp2
    have hset : But (fun x => x = b) w2 ((((w2.setCell ⟨b, 8, none⟩ (.bool true)).setCell ⟨b, 9, none⟩ (.int .i64 num)).setCell ⟨b, 10, none⟩ (.slice u.p u.n u.c)).setCell ⟨b, 11, none⟩ (.slice v.p v.n v.c)) := ((((But.one w2 b).setAt 8 _).setAt 9 _).setAt 10 _).setAt 11 _
    refine bodyPost_ret (v := .bool true) (by simp [results, Try.results56, go_sem]) rfl ⟨K.copied num u v, rfl, ?_, fun h => (by rw [hc] at h; cases h), fun _ => ⟨u, v, rfl, HU.out.1, HV.out.1, ?_, ?_⟩⟩
    · refine (SetLog.same HI.out HV.out.2.2).trans (HI2.out.chg rfl ?_ hset rfl rfl rfl HI2.out.n0 HI2.out.n1 HI2.out.s0)
      exact (((HI2.out.box.set 8 (.bool true)).set 9 (.int .i64 num)).set 10 (.slice u.p u.n u.c)).set 11 (.slice v.p v.n v.c)
    · exact (HU2.out).kept hset.size (fun k hk hl => hset.block k hl (fun e => by omega))
    · exact (HV.out.2.1).kept hset.size (fun k hk hl => hset.block k hl (fun e => by omega))
end Go.Proofs.Ytdncnnjhfipokaa
