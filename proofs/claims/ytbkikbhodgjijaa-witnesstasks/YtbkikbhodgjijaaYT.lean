import Derived.Test.YtbkikbhodgjijaaYS
import Derived.Test.YtbkikbhodgjijaaYE
namespace Go.Proofs.Ytbkikbhodgjijaa
open Go.RowKit
set_option maxRecDepth 8000
/-- what cutOf answers -/
def CutQ (l : LT TR) (S : Nat → Prop) (n i : Int) (w : World) (e : Ending) (w' : World) : Prop := Below w.heap.size w w' ∧
  ((∃ err : Int, err ≠ 0 ∧ SplitS l n i err [] [] ∧ e = .returned (.tuple #[.agg #[.int .i64 0, .slice none 0 0, .slice none 0 0, .slice none 0 0, .slice none 0 0], .int .i64 err])) ∨
   ∃ (a b : Nat) (m : Nat → Nat) (pa pe : Option Addr) (ca ce : Nat) (v1 v2 : Value), CanL n l ∧ LifeAt l.item l.n i a b ∧ (∀ k : Nat, k < n.toNat → OneCp l.item a b i (k : Int) (m k)) ∧ e = .returned (.tuple #[.agg #[.int .i64 (beganOf l.item a), .slice pa (a - 1) ca, .slice pe (b - a) ce, v1, v2], .int .i64 0]) ∧ LT.In elTr w' S ⟨pa, a - 1, ca, l.item⟩ ∧ LT.In elTr w' S ⟨pe, b - a, ce, fun j => l.item (a + j)⟩ ∧ EvRow w.heap.size w' v1 (evsF l.item (befP l.item m true) a (b - a)) ∧ EvRow w.heap.size w' v2 (evsF l.item (befP l.item m false) a (b - a)) ∧ ∀ x, v1.ownBlock = some x → v2.ownBlock ≠ some x)
set_option maxHeartbeats 8000000 in
theorem cutOf_any (l : LT TR) (i n : Int) (w : World) (S : Nat → Prop) (hl : LT.In elTr w S l) (h47 : l.n * 32 ≤ 140737488355328) :
    Calls Try.prog 25 #[.slice l.p l.n l.c, .int .i64 i, .int .i64 n] w fun e w' => CutQ l S n i w e w' := by
  have hnn := hl.nn
  obtain ⟨W0, hW0⟩ : ∃ X, X = w.alloc (.cells #[.int .i64 0, .slice none 0 0, .slice none 0 0, .slice none 0 0, .slice none 0 0] 61) := ⟨_, rfl⟩
  have hB0 : Below w.heap.size w W0 := by rw [hW0]; exact below1 _ _
  have hs0 : W0.heap.size = w.heap.size + 1 := by rw [hW0]; simp
  have bC : Box W0 w.heap.size #[.int .i64 0, .slice none 0 0, .slice none 0 0, .slice none 0 0, .slice none 0 0] 61 := by rw [hW0]; exact Box.new _ _ _
  have hl0 : LT.In elTr W0 (fun b => S b ∧ b < w.heap.size) l := (hl.mono fun b hb hlt => (⟨hb, hlt⟩ : S b ∧ b < w.heap.size)).kept hB0.size fun b hb _ => hB0.block b hb.2
  have HCB := hid (canBe_any l n W0 _ hl0)
  have HW0 := hid hW0
  have HB0 := hid hB0
  have HS0 := hid hs0
  have HBC := hid bC
  have HL0 := hid hl0
  have H47 := hid h47
  clear hW0 hB0 hs0 bC hl0 hl h47
  go_enter Try.func25, Try.ntmps25
  go_upto_region 1 with fail
  rw [← HW0.out]
  go_wp2_with fail
  refine HCB.out.mono ?_
  rintro e W1 ⟨r, rfl, hr, hb1⟩
  have bC1 := HBC.out.below hb1
  have HBC1 := hid bC1
  have HB1 := hid hb1
  clear HCB
  cases r with
  | false =>
    have HC : Hid (¬ CanL n l) := fun h => by have := hr.2 h; cases this
    have r0 := bC1.cell 0
    have r1 := bC1.cell 1
    have r2 := bC1.cell 2
    have r3 := bC1.cell 3
    have r4 := bC1.cell 4
    have f0 := bC1.frozen 0
    have f1 := bC1.frozen 1
    have f2 := bC1.frozen 2
    have f3 := bC1.frozen 3
    have f4 := bC1.frozen 4
    have rl := bC1.lt
    simp at r0 r1 r2 r3 r4
    clear hr bC1 hb1
    go_wp2
    have hbx := set5 (y0 := .int .i64 0) (y1 := .slice none 0 0) (y2 := .slice none 0 0) (y3 := .slice none 0 0) (y4 := .slice none 0 0) HBC1.out
    have g0 := hbx.cell 0
    have g1 := hbx.cell 1
    have g2 := hbx.cell 2
    have g3 := hbx.cell 3
    have g4 := hbx.cell 4
    simp at g0 g1 g2 g3 g4
    have hbw : Below w.heap.size w W1 := HB0.out.trans (HB1.out.mono HB0.out.size)
    have hb5 := hbw.trans ((but5 (But.one W1 w.heap.size) (.int .i64 0) (.slice none 0 0) (.slice none 0 0) (.slice none 0 0) (.slice none 0 0)).below hbw.size (fun q hq => by omega))
    exact bodyPost_ret (v := .tuple #[.agg #[.int .i64 0, .slice none 0 0, .slice none 0 0, .slice none 0 0, .slice none 0 0], .int .i64 181]) (by simp [results, Try.results25, go_sem, g0, g1, g2, g3, g4]) rfl ⟨hb5, .inl ⟨181, by omega, .inl ⟨HC.out, rfl, rfl, rfl⟩, rfl⟩⟩
  | true =>
    have HC : Hid (CanL n l) := hr.1 rfl
    clear hr bC1 hb1
    obtain ⟨T, hT⟩ : ∃ T : Nat, n = (T : Int) := ⟨n.toNat, by have := HC.out.1; omega⟩
    have HT := hid hT
    have hT1 : 1 ≤ T := by have := HC.out.1; omega
    have hT12 : T ≤ 12 := by have := HC.out.2.1; omega
    rw [hT]
    have HCan : Hid (∀ q, q < l.n → Can (T : Int) (l.item q)) := by have := HC.out.2.2; rw [hT] at this; exact this
    clear hT
    have HNR := hid (newReader_any T W1 hT12)
    go_wp2_with fail
    refine HNR.out.mono ?_
    rintro e W2 ⟨g, rfl, hg, hraw, hb2⟩
    have hl2 := HL0.out.below (HB1.out.trans (hb2.mono HB1.out.size))
    have HRd := hid (read_any l i g T T W2 (fun b => S b ∧ b < w.heap.size) hl2 H47.out hT12 hT1 hraw (fun b hb _ => by have := hb.2; have := HS0.out; have := HB1.out.size; omega) HCan.out)
    have bC2 := HBC1.out.below hb2
    have HBC2 := hid bC2
    have HB2 := hid hb2
    have HG := hid hg
    clear hraw hb2 hl2 bC2 hg HNR
    go_wp2_with fail
    refine HRd.out.mono ?_
    rintro e W3 ⟨hbut, _, hq⟩
    have hs0 := HS0.out
    have hb1s := HB1.out.size
    have hb2s := HB2.out.size
    have hgs := HG.out
    have bC3 := HBC2.out.but hbut (fun e => by omega)
    have hbw3 : Below w.heap.size w W3 := ((HB0.out.trans (HB1.out.mono HB0.out.size)).trans (HB2.out.mono (by omega))).trans (hbut.below (by omega) fun q hq => by omega)
    have r0 := bC3.cell 0
    have r1 := bC3.cell 1
    have r2 := bC3.cell 2
    have r3 := bC3.cell 3
    have r4 := bC3.cell 4
    have f0 := bC3.frozen 0
    have f1 := bC3.frozen 1
    have f2 := bC3.frozen 2
    have f3 := bC3.frozen 3
    have f4 := bC3.frozen 4
    have rl := bC3.lt
    simp at r0 r1 r2 r3 r4
    have HBC3 := hid bC3
    have HBw3 := hid hbw3
    have hT0 : n.toNat = T := by have := HT.out; omega
    have HT0 := hid hT0
    have key : ∀ err : Int, err ≠ 0 → SplitS l n i err [] [] → e = .returned (.tuple #[.agg #[.int .i64 0, .slice none 0 0, .slice none 0 0, .slice none 0 0, .slice none 0 0], .int .i64 err]) → ∃ err : Int, err ≠ 0 ∧ SplitS l n i err [] [] ∧ e = .returned (.tuple #[.agg #[.int .i64 0, .slice none 0 0, .slice none 0 0, .slice none 0 0, .slice none 0 0], .int .i64 err]) := fun err h1 h2 h3 => ⟨err, h1, h2, h3⟩
    have hq' : (∃ err : Int, err ≠ 0 ∧ SplitS l n i err [] [] ∧ e = .returned (.tuple #[.agg #[.int .i64 0, .slice none 0 0, .slice none 0 0, .slice none 0 0, .slice none 0 0], .int .i64 err])) ∨ ∃ (a b : Nat) (m : Nat → Nat) (pa pe : Option Addr) (ca ce : Nat) (v1 v2 : Value), LifeAt l.item l.n i a b ∧ (∀ k : Nat, k < T → OneCp l.item a b i (k : Int) (m k)) ∧ e = .returned (.tuple #[.agg #[.int .i64 (beganOf l.item a), .slice pa (a - 1) ca, .slice pe (b - a) ce, v1, v2], .int .i64 0]) ∧ LT.In elTr W3 (fun b => S b ∧ b < w.heap.size) ⟨pa, a - 1, ca, l.item⟩ ∧ LT.In elTr W3 (fun b => S b ∧ b < w.heap.size) ⟨pe, b - a, ce, fun j => l.item (a + j)⟩ ∧ EvRow W2.heap.size W3 v1 (evsF l.item (befP l.item m true) a (b - a)) ∧ EvRow W2.heap.size W3 v2 (evsF l.item (befP l.item m false) a (b - a)) ∧ ∀ x, v1.ownBlock = some x → v2.ownBlock ≠ some x := by
      rcases hq with ⟨h1, h2⟩ | ⟨a, b, h1, h2, h3⟩ | h1
      · exact .inl (key 180 (by omega) (.inr (.inl ⟨HC.out, h1, rfl, rfl, rfl⟩)) h2)
      · exact .inl (key 181 (by omega) (.inr (.inr (.inl ⟨HC.out, a, b, h1, by rw [hT0]; exact h2, rfl, rfl, rfl⟩))) h3)
      · exact .inr h1
    clear hq key bC3 hbw3 hbut HRd hT0
    rcases hq' with ⟨err, he0, hS, rfl⟩ | ⟨a, b, m, pa, pe, ca, ce, v1, v2, h1, h2, rfl, h4, h5, h6, h7, h8⟩
    · have HS := hid hS
      clear hS
      go_wp2
      have hbx := set5 (y0 := .int .i64 0) (y1 := .slice none 0 0) (y2 := .slice none 0 0) (y3 := .slice none 0 0) (y4 := .slice none 0 0) HBC3.out
      have g0 := hbx.cell 0
      have g1 := hbx.cell 1
      have g2 := hbx.cell 2
      have g3 := hbx.cell 3
      have g4 := hbx.cell 4
      simp at g0 g1 g2 g3 g4
      have hb5 := HBw3.out.trans ((but5 (But.one W3 w.heap.size) (.int .i64 0) (.slice none 0 0) (.slice none 0 0) (.slice none 0 0) (.slice none 0 0)).below HBw3.out.size (fun q hq => by omega))
      exact bodyPost_ret (v := .tuple #[.agg #[.int .i64 0, .slice none 0 0, .slice none 0 0, .slice none 0 0, .slice none 0 0], .int .i64 err]) (by simp [results, Try.results25, go_sem, g0, g1, g2, g3, g4]) rfl ⟨hb5, .inl ⟨err, he0, HS.out, rfl⟩⟩
    · obtain ⟨p1, c1, hv1⟩ := ownsRow_slice h6
      obtain ⟨p2, c2, hv2⟩ := ownsRow_slice h7
      subst hv1
      subst hv2
      obtain ⟨n1, hn1⟩ : ∃ n1, n1 = (evsF l.item (befP l.item m true) a (b - a)).length := ⟨_, rfl⟩
      obtain ⟨n2, hn2⟩ : ∃ n2, n2 = (evsF l.item (befP l.item m false) a (b - a)).length := ⟨_, rfl⟩
      obtain ⟨bg, hbg⟩ : ∃ bg, bg = beganOf l.item a := ⟨_, rfl⟩
      rw [← hn1] at h6 h8 ⊢
      rw [← hn2] at h7 h8 ⊢
      rw [← hbg]
      have HH := hid (And.intro h1 (And.intro h2 (And.intro h4 (And.intro h5 (And.intro h6 (And.intro h7 (And.intro h8 hbg)))))))
      clear h1 h2 h4 h5 h6 h7 h8 hbg hn1 hn2
      go_wp2
      obtain ⟨h1, h2, h4, h5, h6, h7, h8, hbg⟩ := HH.out
      have hbx := set5 (y0 := .int .i64 bg) (y1 := .slice pa (a - 1) ca) (y2 := .slice pe (b - a) ce) (y3 := .slice p1 n1 c1) (y4 := .slice p2 n2 c2) HBC3.out
      have g0 := hbx.cell 0
      have g1 := hbx.cell 1
      have g2 := hbx.cell 2
      have g3 := hbx.cell 3
      have g4 := hbx.cell 4
      simp at g0 g1 g2 g3 g4
      have hbt := but5 (But.one W3 w.heap.size) (.int .i64 bg) (.slice pa (a - 1) ca) (.slice pe (b - a) ce) (.slice p1 n1 c1) (.slice p2 n2 c2)
      have hb5 := HBw3.out.trans (hbt.below HBw3.out.size (fun q hq => by omega))
      refine bodyPost_ret (v := .tuple #[.agg #[.int .i64 bg, .slice pa (a - 1) ca, .slice pe (b - a) ce, .slice p1 n1 c1, .slice p2 n2 c2], .int .i64 0]) (by simp [results, Try.results25, go_sem, g0, g1, g2, g3, g4]) rfl ⟨hb5, .inr ⟨a, b, m, pa, pe, ca, ce, _, _, HC.out, h1, by rw [HT0.out]; exact h2, by rw [hbg], ?_, ?_, ?_, ?_, h8⟩⟩
      · exact (h4.but hbt (fun q hq _ e => by have := hq.2; omega)).mono fun q hq _ => hq.1
      · exact (h5.but hbt (fun q hq _ e => by have := hq.2; omega)).mono fun q hq _ => hq.1
      · exact (h6.keep fun q hq hl => hbt.block q hl (fun e => by omega)).mono (by omega)
      · exact (h7.keep fun q hq hl => hbt.block q hl (fun e => by omega)).mono (by omega)
end Go.Proofs.Ytbkikbhodgjijaa
