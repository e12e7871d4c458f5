import Derived.Test.YtdpfgflofjiheaaPack34
import Derived.Test.YtdpfgflofjiheaaZe
namespace Go.Proofs.Ytdpfgflofjiheaa
open Go.RowKit
set_option maxRecDepth 8000
/-- what the three calls tell: four rows and three numbers -/
structure An where
  va : Value
  vb : Value
  vc : Value
  vp : Value
  a : List EV
  b : List EV
  c : List EV
  p : List Int
  e : Int
  f : Int
  h : Int
def An.cs (X : An) : Array Value := #[X.va, X.vb, X.vc, X.vp, .int .i64 X.e, .int .i64 X.f, .int .i64 X.h]
def An.val (X : An) : Value := .agg X.cs
/-- the rows in memory: in blocks of S, each apart from the others -/
structure AnI (w : World) (S : Nat → Prop) (X : An) : Prop where
  ra : EvRow 0 w X.va X.a
  rb : EvRow 0 w X.vb X.b
  rc : EvRow 0 w X.vc X.c
  rp : InRow 0 w X.vp X.p
  sa : ∀ g, X.va.ownBlock = some g → S g
  sb : ∀ g, X.vb.ownBlock = some g → S g
  sc : ∀ g, X.vc.ownBlock = some g → S g
  sp : ∀ g, X.vp.ownBlock = some g → S g
  ab : ∀ g, X.va.ownBlock = some g → X.vb.ownBlock ≠ some g
  ac : ∀ g, X.va.ownBlock = some g → X.vc.ownBlock ≠ some g
  ap : ∀ g, X.va.ownBlock = some g → X.vp.ownBlock ≠ some g
  bc : ∀ g, X.vb.ownBlock = some g → X.vc.ownBlock ≠ some g
  bp : ∀ g, X.vb.ownBlock = some g → X.vp.ownBlock ≠ some g
  cp : ∀ g, X.vc.ownBlock = some g → X.vp.ownBlock ≠ some g
  ll : X.a.length ≤ 4398046511064 ∧ X.b.length ≤ 4398046511064 ∧ X.c.length ≤ 4398046511064 ∧ X.p.length ≤ 4398046511064
theorem AnI.keep {w w' : World} {S : Nat → Prop} {X : An} (h : AnI w S X) (hb : ∀ k, S k → k < w.heap.size → w'.heap[k]? = w.heap[k]?) : AnI w' S X :=
  ⟨ownsRow_keep h.ra fun g hg hl => hb g (h.sa g hg) hl, ownsRow_keep h.rb fun g hg hl => hb g (h.sb g hg) hl, ownsRow_keep h.rc fun g hg hl => hb g (h.sc g hg) hl, ownsRow_keep h.rp fun g hg hl => hb g (h.sp g hg) hl, h.sa, h.sb, h.sc, h.sp, h.ab, h.ac, h.ap, h.bc, h.bp, h.cp, h.ll⟩
theorem AnI.below {w w' : World} {S : Nat → Prop} {X : An} (h : AnI w S X) (hb : Below w.heap.size w w') : AnI w' S X := h.keep fun k _ hl => hb.block k hl
theorem AnI.but {w w' : World} {S Y : Nat → Prop} {X : An} (h : AnI w S X) (hb : But Y w w') (hy : ∀ k, S k → k < w.heap.size → ¬ Y k) : AnI w' S X := h.keep fun k hS hl => hb.block k hl (hy k hS hl)
theorem AnI.mono {w : World} {S S' : Nat → Prop} {X : An} (h : AnI w S X) (hs : ∀ k, S k → k < w.heap.size → S' k) : AnI w S' X :=
  ⟨h.ra, h.rb, h.rc, h.rp, fun g hg => hs g (h.sa g hg) (World.ownsRow.lt h.ra g hg).2, fun g hg => hs g (h.sb g hg) (World.ownsRow.lt h.rb g hg).2, fun g hg => hs g (h.sc g hg) (World.ownsRow.lt h.rc g hg).2, fun g hg => hs g (h.sp g hg) (World.ownsRow.lt h.rp g hg).2, h.ab, h.ac, h.ap, h.bc, h.bp, h.cp, h.ll⟩
/-- the same contents, wherever they lie -/
def An.like (X Y : An) : Prop := X.a = Y.a ∧ X.b = Y.b ∧ X.c = Y.c ∧ X.p = Y.p ∧ X.e = Y.e ∧ X.f = Y.f ∧ X.h = Y.h
theorem An.like.symm {X Y : An} (h : X.like Y) : Y.like X := by
  obtain ⟨h1, h2, h3, h4, h5, h6, h7⟩ := h
  exact ⟨h1.symm, h2.symm, h3.symm, h4.symm, h5.symm, h6.symm, h7.symm⟩
theorem An.like.trans {X Y Z : An} (h : X.like Y) (g : Y.like Z) : X.like Z := by
  obtain ⟨h1, h2, h3, h4, h5, h6, h7⟩ := h
  obtain ⟨g1, g2, g3, g4, g5, g6, g7⟩ := g
  exact ⟨h1.trans g1, h2.trans g2, h3.trans g3, h4.trans g4, h5.trans g5, h6.trans g6, h7.trans g7⟩
/-- what a trail answers -/
def AskS (l : LT TR) (n i : Int) (X : An) : Prop := SplitS l n i X.e X.a X.b ∧ LineS l n X.f X.c ∧ PathS l n i X.h X.p
theorem AskS.uniq {l : LT TR} {n i : Int} {X Y : An} (h : AskS l n i X) (g : AskS l n i Y) : X.like Y := by
  obtain ⟨h1, h2, h3⟩ := h
  obtain ⟨g1, g2, g3⟩ := g
  obtain ⟨a1, a2, a3⟩ := h1.uniq g1
  obtain ⟨b1, b2⟩ := h2.uniq g2
  obtain ⟨c1, c2⟩ := h3.uniq g3
  exact ⟨a2, a3, b2, c2, a1, b1, c1⟩
theorem set7 {W : World} {b : Nat} {x0 x1 x2 x3 x4 x5 x6 y0 y1 y2 y3 y4 y5 y6 : Value} {e : TypeId} (h : Box W b #[x0, x1, x2, x3, x4, x5, x6] e) : Box (((((((W.setCell ⟨b, 0, none⟩ y0).setCell ⟨b, 1, none⟩ y1).setCell ⟨b, 2, none⟩ y2).setCell ⟨b, 3, none⟩ y3).setCell ⟨b, 4, none⟩ y4).setCell ⟨b, 5, none⟩ y5).setCell ⟨b, 6, none⟩ y6) b #[y0, y1, y2, y3, y4, y5, y6] e := by
  have := ((((((h.set 0 y0).set 1 y1).set 2 y2).set 3 y3).set 4 y4).set 5 y5).set 6 y6
  simpa using this
theorem but7 {a W : World} {b : Nat} (h : But (fun x => x = b) a W) (y0 y1 y2 y3 y4 y5 y6 : Value) : But (fun x => x = b) a (((((((W.setCell ⟨b, 0, none⟩ y0).setCell ⟨b, 1, none⟩ y1).setCell ⟨b, 2, none⟩ y2).setCell ⟨b, 3, none⟩ y3).setCell ⟨b, 4, none⟩ y4).setCell ⟨b, 5, none⟩ y5).setCell ⟨b, 6, none⟩ y6) := ((((((h.setAt 0 y0).setAt 1 y1).setAt 2 y2).setAt 3 y3).setAt 4 y4).setAt 5 y5).setAt 6 y6
/-- answers in new memory -/
def AnsQ (P : An → Prop) (w : World) (e : Ending) (w' : World) : Prop := ∃ X : An, P X ∧ e = .returned X.val ∧ AnI w' (fun b => w.heap.size ≤ b) X ∧ Below w.heap.size w w'
def zA : Array Value := #[.slice none 0 0, .slice none 0 0, .slice none 0 0, .slice none 0 0, .int .i64 0, .int .i64 0, .int .i64 0]
set_option maxHeartbeats 8000000 in
theorem asked_any (l : LT TR) (i n : Int) (w : World) (S : Nat → Prop) (hl : LT.In elTr w S l) (h47 : l.n * 32 ≤ 140737488351232) :
    Calls Try.prog 20 #[.slice l.p l.n l.c, .int .i64 i, .int .i64 n] w fun e w' => AnsQ (AskS l n i) w e w' := by
  have hnn := hl.nn
  obtain ⟨W0, hW0⟩ : ∃ X, X = w.alloc (.cells #[.slice none 0 0, .slice none 0 0, .slice none 0 0, .slice none 0 0, .int .i64 0, .int .i64 0, .int .i64 0] 51) := ⟨_, rfl⟩
  have hB0 : Below w.heap.size w W0 := by rw [hW0]; exact below1 _ _
  have hs0 : W0.heap.size = w.heap.size + 1 := by rw [hW0]; simp
  have bC : Box W0 w.heap.size #[.slice none 0 0, .slice none 0 0, .slice none 0 0, .slice none 0 0, .int .i64 0, .int .i64 0, .int .i64 0] 51 := by rw [hW0]; exact Box.new _ _ _
  have hl0 := hl.below hB0
  have HSp := hid (split_any l i n W0 S hl0 (by omega))
  have HW0 := hid hW0
  have HB0 := hid hB0
  have HS0 := hid hs0
  have HBC := hid bC
  have HL0 := hid hl0
  have H47 := hid h47
  clear hW0 hB0 hs0 bC hl0 hl h47
  go_enter Try.func20, Try.ntmps20
  go_upto_region 1 with fail
  rw [← HW0.out]
  go_wp2_with fail
  refine HSp.out.mono ?_
  rintro e W1 ⟨va, vb, er, xa, xb, hS, rfl, hra, hrb, hap, hb1⟩
  have HLn := hid (line_any l n W1 S (HL0.out.below hb1) (by have := H47.out; omega))
  have HRa := hid hra
  have HRb := hid hrb
  have HAp := hid hap
  have HS := hid hS
  have HB1 := hid hb1
  clear hra hrb hap hS hb1 HSp
  go_wp2_with fail
  refine HLn.out.mono ?_
  rintro e W2 ⟨vc, er2, xc, hS2, rfl, hrc, hb2⟩
  have HPt := hid (path_any l i n W2 S ((HL0.out.below HB1.out).below hb2) (by have := H47.out; omega))
  have HRc := hid hrc
  have HS2 := hid hS2
  have HB2 := hid hb2
  clear hrc hS2 hb2 HLn
  go_wp2_with fail
  refine HPt.out.mono ?_
  rintro e W3 ⟨vp, er3, xp, hS3, rfl, hrp, hb3⟩
  have bC3 := ((HBC.out.below HB1.out).below HB2.out).below hb3
  have HBC3 := hid bC3
  have HRp := hid hrp
  have HS3 := hid hS3
  have HB3 := hid hb3
  have r0 := bC3.cell 0
  have r1 := bC3.cell 1
  have r2 := bC3.cell 2
  have r3 := bC3.cell 3
  have r4 := bC3.cell 4
  have r5 := bC3.cell 5
  have r6 := bC3.cell 6
  have f0 := bC3.frozen 0
  have f1 := bC3.frozen 1
  have f2 := bC3.frozen 2
  have f3 := bC3.frozen 3
  have f4 := bC3.frozen 4
  have f5 := bC3.frozen 5
  have f6 := bC3.frozen 6
  have rl := bC3.lt
  simp at r0 r1 r2 r3 r4 r5 r6
  obtain ⟨p1, c1, e1⟩ := ownsRow_slice HRa.out
  obtain ⟨p2, c2, e2⟩ := ownsRow_slice HRb.out
  obtain ⟨p3, c3, e3⟩ := ownsRow_slice HRc.out
  obtain ⟨p4, c4, e4⟩ := ownsRow_slice HRp.out
  subst e1 e2 e3 e4
  clear hrp hS3 hb3 HPt bC3
  go_wp2
  have hbx := set7 (y0 := .slice p1 xa.length c1) (y1 := .slice p2 xb.length c2) (y2 := .slice p3 xc.length c3) (y3 := .slice p4 xp.length c4) (y4 := .int .i64 er) (y5 := .int .i64 er2) (y6 := .int .i64 er3) HBC3.out
  have hbt := but7 (But.one W3 w.heap.size) (.slice p1 xa.length c1) (.slice p2 xb.length c2) (.slice p3 xc.length c3) (.slice p4 xp.length c4) (.int .i64 er) (.int .i64 er2) (.int .i64 er3)
  obtain ⟨W4, hW4⟩ : ∃ W4, W4 = (((((((W3.setCell ⟨w.heap.size, 0, none⟩ (.slice p1 xa.length c1)).setCell ⟨w.heap.size, 1, none⟩ (.slice p2 xb.length c2)).setCell ⟨w.heap.size, 2, none⟩ (.slice p3 xc.length c3)).setCell ⟨w.heap.size, 3, none⟩ (.slice p4 xp.length c4)).setCell ⟨w.heap.size, 4, none⟩ (.int .i64 er)).setCell ⟨w.heap.size, 5, none⟩ (.int .i64 er2)).setCell ⟨w.heap.size, 6, none⟩ (.int .i64 er3)) := ⟨_, rfl⟩
  rw [← hW4] at hbx hbt ⊢
  clear hW4
  have g0 := hbx.cell 0
  have g1 := hbx.cell 1
  have g2 := hbx.cell 2
  have g3 := hbx.cell 3
  have g4 := hbx.cell 4
  have g5 := hbx.cell 5
  have g6 := hbx.cell 6
  simp at g0 g1 g2 g3 g4 g5 g6
  have s0 := HS0.out
  have s1 := HB1.out.size
  have s2 := HB2.out.size
  have s3 := HB3.out.size
  have hb03 : Below w.heap.size w W3 := ((HB0.out.trans (HB1.out.mono HB0.out.size)).trans (HB2.out.mono (by omega))).trans (HB3.out.mono (by omega))
  have hb04 : Below w.heap.size w W4 := hb03.trans (hbt.below hb03.size (fun q hq => by omega))
  have la := fun g hg => World.ownsRow.lt HRa.out g hg
  have lb := fun g hg => World.ownsRow.lt HRb.out g hg
  have lc := fun g hg => World.ownsRow.lt HRc.out g hg
  have lp := fun g hg => World.ownsRow.lt HRp.out g hg
  have n1 := HS.out.len
  have n2 := HS2.out.len
  have n3 := HS3.out.len
  have n47 := H47.out
  refine bodyPost_ret (v := .agg #[.slice p1 xa.length c1, .slice p2 xb.length c2, .slice p3 xc.length c3, .slice p4 xp.length c4, .int .i64 er, .int .i64 er2, .int .i64 er3]) (by simp [results, Try.results20, go_sem, g0, g1, g2, g3, g4, g5, g6]) rfl ⟨⟨_, _, _, _, xa, xb, xc, xp, er, er2, er3⟩, ⟨HS.out, HS2.out, HS3.out⟩, rfl, ?_, hb04⟩
  have rr : AnI W3 (fun b => w.heap.size + 1 ≤ b) ⟨.slice p1 xa.length c1, .slice p2 xb.length c2, .slice p3 xc.length c3, .slice p4 xp.length c4, xa, xb, xc, xp, er, er2, er3⟩ := by
    refine ⟨((HRa.out.below HB2.out).below HB3.out).mono (Nat.zero_le _), ((HRb.out.below HB2.out).below HB3.out).mono (Nat.zero_le _), (HRc.out.below HB3.out).mono (Nat.zero_le _), HRp.out.mono (Nat.zero_le _), ?_, ?_, ?_, ?_, HAp.out, ?_, ?_, ?_, ?_, ?_, ?_⟩
    · intro g hg; have := la g hg; omega
    · intro g hg; have := lb g hg; omega
    · intro g hg; have := lc g hg; omega
    · intro g hg; have := lp g hg; omega
    · intro g hg h2; have := la g hg; have := lc g h2; omega
    · intro g hg h2; have := la g hg; have := lp g h2; omega
    · intro g hg h2; have := lb g hg; have := lc g h2; omega
    · intro g hg h2; have := lb g hg; have := lp g h2; omega
    · intro g hg h2; have := lc g hg; have := lp g h2; omega
    · exact ⟨by dsimp only; omega, by dsimp only; omega, by dsimp only; omega, by dsimp only; omega⟩
  exact (rr.but hbt (fun k hk _ e => by omega)).mono fun k hk _ => by omega
end Go.Proofs.Ytdpfgflofjiheaa
