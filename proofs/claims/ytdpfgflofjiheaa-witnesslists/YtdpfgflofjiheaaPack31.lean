import Derived.Test.YtdpfgflofjiheaaYS
import Derived.Test.YtdpfgflofjiheaaPack30
import Derived.Test.YtdpfgflofjiheaaYY
namespace Go.Proofs.Ytdpfgflofjiheaa
open Go.RowKit
set_option maxRecDepth 8000
/-- what cutOf answers -/
def CutQ (l : LT TR) (S : Nat → Prop) (n i : Int) (w : World) (e : Ending) (w' : World) : Prop := Below w.heap.size w w' ∧
  ((∃ err : Int, err ≠ 0 ∧ SplitS l n i err [] [] ∧ e = .returned (.tuple #[.agg #[.int .i64 0, .slice none 0 0, .slice none 0 0, .slice none 0 0, .slice none 0 0], .int .i64 err])) ∨
   ∃ (a b : Nat) (m : Nat → Nat) (pa pe : Option Addr) (ca ce : Nat) (v1 v2 : Value), CanL n l ∧ LifeAt l.item l.n i a b ∧ (∀ k : Nat, k < n.toNat → OneCp l.item a b i (k : Int) (m k)) ∧ e = .returned (.tuple #[.agg #[.int .i64 (beganOf l.item a), .slice pa (a - 1) ca, .slice pe (b - a) ce, v1, v2], .int .i64 0]) ∧ LT.In elTr w' S ⟨pa, a - 1, ca, l.item⟩ ∧ LT.In elTr w' S ⟨pe, b - a, ce, fun j => l.item (a + j)⟩ ∧ EvRow w.heap.size w' v1 (evsF l.item (befP l.item m true) a (b - a)) ∧ EvRow w.heap.size w' v2 (evsF l.item (befP l.item m false) a (b - a)) ∧ ∀ x, v1.ownBlock = some x → v2.ownBlock ≠ some x)
set_option maxHeartbeats 8000000 in
theorem cutOf_any (l : LT TR) (i n : Int) (w : World) (S : Nat → Prop) (hl : LT.In elTr w S l) (h47 : l.n * 32 ≤ 140737488355328) :
    Calls Try.prog 25 #[.slice l.p l.n l.c, .int .i64 i, .int .i64 n] w fun e w' => CutQ l S n i w e w' := by
  have hnn := hl.nn
  obtain ⟨W0, hW0⟩ : ∃ X, X = w.alloc (.cells #[.int .i64 0, .slice none 0 0, .slice none 0 0, .slice none 0 0, .slice none 0 0] 61) := ⟨_, rfl⟩
  have hB0 : Below w.heap.size w W0 := by rw [hW0]; exact below1 _ _
  have hs0 : W0.heap.size = w.heap.size + 1 := by rw [hW0]; simp
  have bC : Box W0 w.heap.size #[.int .i64 0, .slice none 0 0, .slice none 0 0, .slice none 0 0, .slice none 0 0] 61 := by rw [hW0]; exact Box.new _ _ _
  have hl0 : LT.In elTr W0 (fun b => S b ∧ b < w.heap.size) l := (hl.mono fun b hb hlt => (⟨hb, hlt⟩ : S b ∧ b < w.heap.size)).kept hB0.size fun b hb _ => hB0.block b hb.2
  have HCB := hid (canBe_any l n W0 _ hl0)
  have HW0 := hid hW0
  have HB0 := hid hB0
  have HS0 := hid hs0
  have HBC := hid bC
  have HL0 := hid hl0
  have H47 := hid h47
  clear hW0 hB0 hs0 bC hl0 hl h47
  go_enter Try.func25, Try.ntmps25
  go_upto_region 1 with fail
  rw [← HW0.out]
  go_wp2_with fail
  refine HCB.out.mono ?_
  rintro e W1 ⟨r, rfl, hr, hb1⟩
  have bC1 := HBC.out.below hb1
  have HBC1 := hid bC1
  have HB1 := hid hb1
  clear HCB
  cases r with
  | false =>
    have HC : Hid (¬ CanL n l) := fun h => by have := hr.2 h; cases this
    have r0 := bC1.cell 0
    have r1 := bC1.cell 1
    have r2 := bC1.cell 2
    have r3 := bC1.cell 3
    have r4 := bC1.cell 4
    have f0 := bC1.frozen 0
    have f1 := bC1.frozen 1
    have f2 := bC1.frozen 2
    have f3 := bC1.frozen 3
    have f4 := bC1.frozen 4
    have rl := bC1.lt
    simp at r0 r1 r2 r3 r4
    clear hr bC1 hb1
    go_wp2
    have hbx := set5 (y0 := .int .i64 0) (y1 := .slice none 0 0) (y2 := .slice none 0 0) (y3 := .slice none 0 0) (y4 := .slice none 0 0) HBC1.out
    have g0 := hbx.cell 0
    have g1 := hbx.cell 1
    have g2 := hbx.cell 2
    have g3 := hbx.cell 3
    have g4 := hbx.cell 4
    simp at g0 g1 g2 g3 g4
    have hbw : Below w.heap.size w W1 := HB0.out.trans (HB1.out.mono HB0.out.size)
    have hb5 := hbw.trans ((but5 (But.one W1 w.heap.size) (.int .i64 0) (.slice none 0 0) (.slice none 0 0) (.slice none 0 0) (.slice none 0 0)).below hbw.size (fun q hq => by omega))
    exact bodyPost_ret (v := .tuple #[.agg #[.int .i64 0, .slice none 0 0, .slice none 0 0, .slice none 0 0, .slice none 0 0], .int .i64 181]) (by simp [results, Try.results25, go_sem, g0, g1, g2, g3, g4]) rfl ⟨hb5, .inl ⟨181, by omega, .inl ⟨HC.out, rfl, rfl, rfl⟩, rfl⟩⟩
  | true =>
    have HC : Hid (CanL n l) := hr.1 rfl
    clear hr bC1 hb1
    obtain ⟨T, hT⟩ : ∃ T : Nat, n = (T : Int) := ⟨n.toNat, by have := HC.out.1; omega⟩
    have HT := hid hT
    have hT1 : 1 ≤ T := by have := HC.out.1; omega
    have hT12 : T ≤ 12 := by have := HC.out.2.1; omega
    rw [hT]
    have HCan : Hid (∀ q, q < l.n → Can (T : Int) (l.item q)) := by have := HC.out.2.2; rw [hT] at this; exact this
    clear hT
    have HNR := hid (newReader_any T W1 hT12)
    go_wp2_with fail
    refine HNR.out.mono ?_
    rintro e W2 ⟨g, rfl, hg, hraw, hb2⟩
    have hl2 := HL0.out.below (HB1.out.trans (hb2.mono HB1.out.size))
    have HRd := hid (read_any l i g T T W2 (fun b => S b ∧ b < w.heap.size) hl2 H47.out hT12 hT1 hraw (fun b hb _ => by have := hb.2; have := HS0.out; have := HB1.out.size; omega) HCan.out)
    have bC2 := HBC1.out.below hb2
    have HBC2 := hid bC2
    have HB2 := hid hb2
    have HG := hid hg
    clear hraw hb2 hl2 bC2 hg HNR
    go_wp2_with fail
    refine HRd.out.mono ?_
    rintro e W3 ⟨hbut, _, hq⟩
    have hs0 := HS0.out
    have hb1s := HB1.out.size
    have hb2s := HB2.out.size
    have hgs := HG.out
    have bC3 := HBC2.out.but hbut (fun e => by omega)
    have hbw3 : Below w.heap.size w W3 := ((HB0.out.trans (HB1.out.mono HB0.out.size)).trans (HB2.out.mono (by omega))).trans (hbut.below (by omega) fun q hq => by omega)
    have r0 := bC3.cell 0
    have r1 := bC3.cell 1
    have r2 := bC3.cell 2
    have r3 := bC3.cell 3
    have r4 := bC3.cell 4
    have f0 := bC3.frozen 0
    have f1 := bC3.frozen 1
    have f2 := bC3.frozen 2
    have f3 := bC3.frozen 3
    have f4 := bC3.frozen 4
    have rl := bC3.lt
    simp at r0 r1 r2 r3 r4
    have HBC3 := hid bC3
    have HBw3 := hid hbw3
    have hT0 : n.toNat = T := by have := HT.out; omega
    have HT0 := hid hT0
    have key : ∀ err : Int, err ≠ 0 → SplitS l n i err [] [] → e = .returned (.tuple #[.agg #[.int .i64 0, .slice none 0 0, .slice none 0 0, .slice none 0 0, .slice none 0 0], .int .i64 err]) → ∃ err : Int, err ≠ 0 ∧ SplitS l n i err [] [] ∧ e = .returned (.tuple #[.agg #[.int .i64 0, .slice none 0 0, .slice none 0 0, .slice none 0 0, .slice none 0 0], .int .i64 err]) := fun err h1 h2 h3 => ⟨err, h1, h2, h3⟩
    have hq' : (∃ err : Int, err ≠ 0 ∧ SplitS l n i err [] [] ∧ e = .returned (.tuple #[.agg #[.int .i64 0, .slice none 0 0, .slice none 0 0, .slice none 0 0, .slice none 0 0], .int .i64 err])) ∨ ∃ (a b : Nat) (m : Nat → Nat) (pa pe : Option Addr) (ca ce : Nat) (v1 v2 : Value), LifeAt l.item l.n i a b ∧ (∀ k : Nat, k < T → OneCp l.item a b i (k : Int) (m k)) ∧ e = .returned (.tuple #[.agg #[.int .i64 (beganOf l.item a), .slice pa (a - 1) ca, .slice pe (b - a) ce, v1, v2], .int .i64 0]) ∧ LT.In elTr W3 (fun b => S b ∧ b < w.heap.size) ⟨pa, a - 1, ca, l.item⟩ ∧ LT.In elTr W3 (fun b => S b ∧ b < w.heap.size) ⟨pe, b - a, ce, fun j => l.item (a + j)⟩ ∧ EvRow W2.heap.size W3 v1 (evsF l.item (befP l.item m true) a (b - a)) ∧ EvRow W2.heap.size W3 v2 (evsF l.item (befP l.item m false) a (b - a)) ∧ ∀ x, v1.ownBlock = some x → v2.ownBlock ≠ some x := by
      rcases hq with ⟨h1, h2⟩ | ⟨a, b, h1, h2, h3⟩ | h1
      · exact .inl (key 180 (by omega) (.inr (.inl ⟨HC.out, h1, rfl, rfl, rfl⟩)) h2)
      · exact .inl (key 181 (by omega) (.inr (.inr (.inl ⟨HC.out, a, b, h1, by rw [hT0]; exact h2, rfl, rfl, rfl⟩))) h3)
      · exact .inr h1
    clear hq key bC3 hbw3 hbut HRd hT0
    rcases hq' with ⟨err, he0, hS, rfl⟩ | ⟨a, b, m, pa, pe, ca, ce, v1, v2, h1, h2, rfl, h4, h5, h6, h7, h8⟩
    · have HS := hid hS
      clear hS
      go_wp2
      have hbx := set5 (y0 := .int .i64 0) (y1 := .slice none 0 0) (y2 := .slice none 0 0) (y3 := .slice none 0 0) (y4 := .slice none 0 0) HBC3.out
      have g0 := hbx.cell 0
      have g1 := hbx.cell 1
      have g2 := hbx.cell 2
      have g3 := hbx.cell 3
      have g4 := hbx.cell 4
      simp at g0 g1 g2 g3 g4
      have hb5 := HBw3.out.trans ((but5 (But.one W3 w.heap.size) (.int .i64 0) (.slice none 0 0) (.slice none 0 0) (.slice none 0 0) (.slice none 0 0)).below HBw3.out.size (fun q hq => by omega))
      exact bodyPost_ret (v := .tuple #[.agg #[.int .i64 0, .slice none 0 0, .slice none 0 0, .slice none 0 0, .slice none 0 0], .int .i64 err]) (by simp [results, Try.results25, go_sem, g0, g1, g2, g3, g4]) rfl ⟨hb5, .inl ⟨err, he0, HS.out, rfl⟩⟩
    · obtain ⟨p1, c1, hv1⟩ := ownsRow_slice h6
      obtain ⟨p2, c2, hv2⟩ := ownsRow_slice h7
      subst hv1
      subst hv2
      obtain ⟨n1, hn1⟩ : ∃ n1, n1 = (evsF l.item (befP l.item m true) a (b - a)).length := ⟨_, rfl⟩
      obtain ⟨n2, hn2⟩ : ∃ n2, n2 = (evsF l.item (befP l.item m false) a (b - a)).length := ⟨_, rfl⟩
      obtain ⟨bg, hbg⟩ : ∃ bg, bg = beganOf l.item a := ⟨_, rfl⟩
      rw [← hn1] at h6 h8 ⊢
      rw [← hn2] at h7 h8 ⊢
      rw [← hbg]
      have HH := hid (And.intro h1 (And.intro h2 (And.intro h4 (And.intro h5 (And.intro h6 (And.intro h7 (And.intro h8 hbg)))))))
      clear h1 h2 h4 h5 h6 h7 h8 hbg hn1 hn2
      go_wp2
      obtain ⟨h1, h2, h4, h5, h6, h7, h8, hbg⟩ := HH.out
      have hbx := set5 (y0 := .int .i64 bg) (y1 := .slice pa (a - 1) ca) (y2 := .slice pe (b - a) ce) (y3 := .slice p1 n1 c1) (y4 := .slice p2 n2 c2) HBC3.out
      have g0 := hbx.cell 0
      have g1 := hbx.cell 1
      have g2 := hbx.cell 2
      have g3 := hbx.cell 3
      have g4 := hbx.cell 4
      simp at g0 g1 g2 g3 g4
      have hbt := but5 (But.one W3 w.heap.size) (.int .i64 bg) (.slice pa (a - 1) ca) (.slice pe (b - a) ce) (.slice p1 n1 c1) (.slice p2 n2 c2)
      have hb5 := HBw3.out.trans (hbt.below HBw3.out.size (fun q hq => by omega))
      refine bodyPost_ret (v := .tuple #[.agg #[.int .i64 bg, .slice pa (a - 1) ca, .slice pe (b - a) ce, .slice p1 n1 c1, .slice p2 n2 c2], .int .i64 0]) (by simp [results, Try.results25, go_sem, g0, g1, g2, g3, g4]) rfl ⟨hb5, .inr ⟨a, b, m, pa, pe, ca, ce, _, _, HC.out, h1, by rw [HT0.out]; exact h2, by rw [hbg], ?_, ?_, ?_, ?_, h8⟩⟩
      · exact (h4.but hbt (fun q hq _ e => by have := hq.2; omega)).mono fun q hq _ => hq.1
      · exact (h5.but hbt (fun q hq _ e => by have := hq.2; omega)).mono fun q hq _ => hq.1
      · exact (h6.keep fun q hq hl => hbt.block q hl (fun e => by omega)).mono (by omega)
      · exact (h7.keep fun q hq hl => hbt.block q hl (fun e => by omega)).mono (by omega)
end Go.Proofs.Ytdpfgflofjiheaa

namespace Go.Proofs.Ytdpfgflofjiheaa
open Go.RowKit
set_option maxRecDepth 8000
theorem evL_congr {f : Nat → TR} {P P' : Nat → Bool} {a : Nat} : ∀ {d : Nat}, (∀ q, a ≤ q → q < a + d → (f q).kind = 1 → P q = P' q) → evL f P a d = evL f P' a d := by
  intro d
  induction d with
  | zero => intro _; rfl
  | succ d ih =>
    intro h
    rw [evL, evL, ih (fun q h1 h2 h3 => h q h1 (by omega) h3)]
    by_cases hk : (f (a + d)).kind = 1
    · rw [h (a + d) (by omega) (by omega) hk]
    · rw [if_neg hk, if_neg hk]
/-- what Path answers -/
def PathS (l : LT TR) (n i err : Int) (ps : List Int) : Prop :=
  (err ≠ 0 ∧ SplitS l n i err [] [] ∧ ps = []) ∨
  (CanL n l ∧ ∃ a b m, LifeAt l.item l.n i a b ∧ (∀ k : Nat, k < n.toNat → OneCp l.item a b i (k : Int) (m k)) ∧
    ((2000 < (evsF l.item (fun _ => true) a (b - a)).length ∧ err = 182 ∧ ps = []) ∨ ((evsF l.item (fun _ => true) a (b - a)).length ≤ 2000 ∧ err = 0 ∧ ps = pl (evL l.item (befP l.item m true) a (b - a)) 0 0)))
theorem PathS.uniq {l : LT TR} {n i e e' : Int} {ps ps' : List Int} (h : PathS l n i e ps) (g : PathS l n i e' ps') : e = e' ∧ ps = ps' := by
  have key : ∀ {err : Int} {a b : Nat} {m : Nat → Nat}, err ≠ 0 → SplitS l n i err [] [] → CanL n l → LifeAt l.item l.n i a b → (∀ k : Nat, k < n.toNat → OneCp l.item a b i (k : Int) (m k)) → False := by
    intro err a b m h0 h1 h2 h3 h4
    have := h1.uniq (.inr (.inr (.inr ⟨h2, a, b, m, h3, h4, rfl, rfl, rfl⟩)))
    exact h0 this.1
  rcases h with ⟨h0, h1, rfl⟩ | ⟨c, a, b, m, h1, h2, h3⟩
  · rcases g with ⟨g0, g1, rfl⟩ | ⟨c', a', b', m', g1, g2, g3⟩
    · exact ⟨(h1.uniq g1).1, rfl⟩
    · exact (key h0 h1 c' g1 g2).elim
  · rcases g with ⟨g0, g1, rfl⟩ | ⟨c', a', b', m', g1, g2, g3⟩
    · exact (key g0 g1 c h1 h2).elim
    · obtain ⟨rfl, rfl⟩ := h1.uniq g1
      have hl : evL l.item (befP l.item m true) a (b - a) = evL l.item (befP l.item m' true) a (b - a) := by
        refine evL_congr fun q h4 h5 h6 => ?_
        have hbn := h1.bn
        have hq := c.2.2 q (by omega)
        have hk : (l.item q).task.toNat < n.toNat := by have := hq.1; have := hq.2.1; omega
        unfold befP
        rw [(h2 _ hk).uniq (g2 _ hk)]
      rcases h3 with ⟨h3, rfl, rfl⟩ | ⟨h3, rfl, rfl⟩ <;> rcases g3 with ⟨g3, rfl, rfl⟩ | ⟨g3, rfl, rfl⟩
      · exact ⟨rfl, rfl⟩
      · omega
      · omega
      · exact ⟨rfl, by rw [hl]⟩
def PathQ (l : LT TR) (n i : Int) (w : World) (e : Ending) (w' : World) : Prop := ∃ (v : Value) (err : Int) (ps : List Int), PathS l n i err ps ∧ e = .returned (.tuple #[v, .int .i64 err]) ∧ InRow w.heap.size w' v ps ∧ Below w.heap.size w w'
set_option maxHeartbeats 8000000 in
theorem path_any (l : LT TR) (i n : Int) (w : World) (S : Nat → Prop) (hl : LT.In elTr w S l) (h47 : l.n * 32 ≤ 140737488355328) :
    Calls Try.prog 8 #[.slice l.p l.n l.c, .int .i64 i, .int .i64 n] w fun e w' => PathQ l n i w e w' := by
  have HC := hid (cutOf_any l i n w S hl h47)
  have H47 := hid h47
  clear hl h47
  go_enter Try.func8, Try.ntmps8
  go_wp2_with fail
  refine HC.out.mono ?_
  rintro e W1 ⟨hb1, hq⟩
  have HB1 := hid hb1
  clear hb1 HC
  rcases hq with ⟨err, he, hS, rfl⟩ | ⟨a, b, m, pa, pe, ca, ce, v1, v2, h0, h1, h2, rfl, h4, h5, h6, h7, h8⟩
  · have HS := hid (And.intro he hS)
    have he1 : (err != 0) = true := by simpa using he
    clear hS he
    go_wp2
    exact bodyPost_ret (v := .tuple #[.slice none 0 0, .int .i64 err]) (by simp [results, Try.results8, go_sem]) rfl ⟨_, err, [], .inl ⟨HS.out.1, HS.out.2, rfl⟩, rfl, InRow.nil _ _, HB1.out.trans ((below1 _ _).mono HB1.out.size)⟩
  · obtain ⟨p1, c1, hv1⟩ := ownsRow_slice h6
    obtain ⟨p2, c2, hv2⟩ := ownsRow_slice h7
    subst hv1
    subst hv2
    obtain ⟨n1, hn1⟩ : ∃ n1, n1 = (evsF l.item (befP l.item m true) a (b - a)).length := ⟨_, rfl⟩
    obtain ⟨n2, hn2⟩ : ∃ n2, n2 = (evsF l.item (befP l.item m false) a (b - a)).length := ⟨_, rfl⟩
    rw [← hn1] at h6 h8 ⊢
    rw [← hn2] at h7 h8 ⊢
    obtain ⟨bg, hbg⟩ : ∃ bg, bg = beganOf l.item a := ⟨_, rfl⟩
    rw [← hbg]
    obtain ⟨W2, hW2⟩ : ∃ X, X = W1.alloc (.cells #[.int .i64 bg, .slice pa (a - 1) ca, .slice pe (b - a) ce, .slice p1 n1 c1, .slice p2 n2 c2] 61) := ⟨_, rfl⟩
    have hb12 : Below W1.heap.size W1 W2 := by rw [hW2]; exact below1 _ _
    have bx : Box W2 W1.heap.size #[.int .i64 bg, .slice pa (a - 1) ca, .slice pe (b - a) ce, .slice p1 n1 c1, .slice p2 n2 c2] 61 := by rw [hW2]; exact Box.new _ _ _
    have x2 := bx.cell 2
    simp at x2
    have hbn := h1.bn
    have hab := h1.ab
    have HSt := hid (steps_any ⟨pe, b - a, ce, fun j => l.item (a + j)⟩ W2 S (h5.below hb12) (by have := H47.out; dsimp only; omega))
    dsimp only at HSt
    rw [evsF_shift] at HSt
    have HH := hid (And.intro h0 (And.intro h1 h2))
    have H6 := hid (h6.below hb12)
    have HB2 : Hid (Below w.heap.size w W2) := HB1.out.trans (hb12.mono HB1.out.size)
    have HBx := hid bx
    have HW2 := hid hW2
    clear h0 h1 h2 h4 h5 h6 h7 h8 hbg hn1 hn2 hW2 hb12 bx
    go_upto_region 2 with fail
    rw [← HW2.out]
    go_wp2_with fail
    refine HSt.out.mono ?_
    rintro e W3 ⟨vr, rfl, hr, hb3⟩
    obtain ⟨pr, cr, hvr⟩ := ownsRow_slice hr
    subst hvr
    have bx3 := HBx.out.below hb3
    have x3 := bx3.cell 3
    simp at x3
    have HR := hid hr
    have HB3 := hid hb3
    obtain ⟨nr, hnr⟩ : ∃ nr, nr = (evsF l.item (fun _ => true) a (b - a)).length := ⟨_, rfl⟩
    rw [← hnr] at HR ⊢
    have HNr := hid hnr
    clear hr hb3 hnr bx3 x2 HSt
    have hB3w : Below w.heap.size w W3 := HB2.out.trans (HB3.out.mono HB2.out.size)
    have HB3w := hid hB3w
    clear hB3w
    by_cases h2000 : 2000 < nr
    · have h2000' : (2000 : Int) < (nr : Int) := by omega
      have HS : Hid (PathS l n i 182 []) := .inr ⟨HH.out.1, a, b, m, HH.out.2.1, HH.out.2.2, .inl ⟨by rw [← HNr.out]; exact h2000, rfl, rfl⟩⟩
      go_wp2
      exact bodyPost_ret (v := .tuple #[.slice none 0 0, .int .i64 182]) (by simp [results, Try.results8, go_sem]) rfl ⟨_, 182, [], HS.out, rfl, InRow.nil _ _, HB3w.out⟩
    · have h2000' : ¬ (2000 : Int) < (nr : Int) := by omega
      have hlL : (evL l.item (befP l.item m true) a (b - a)).length ≤ 2000 := by rw [evL_len, ← HNr.out]; omega
      have hr1 : EvRow w.heap.size W3 (.slice pr nr cr) (alls (evL l.item (befP l.item m true) a (b - a))) := by rw [evL_alls]; exact HR.out.mono HB2.out.size
      have hr2 : EvRow w.heap.size W3 (.slice p1 n1 c1) (befs (evL l.item (befP l.item m true) a (b - a))) := by rw [evL_befs]; exact H6.out.below HB3.out
      have HX := hid (exchanges_any _ W3 w.heap.size pr p1 nr n1 cr c1 hr1 hr2 (fun x hx hy => by have h1 := (HR.out.lt x hx).1; have h2 := (H6.out.lt x hy).2; omega) evL_mono hlL)
      have HS : Hid (PathS l n i 0 (pl (evL l.item (befP l.item m true) a (b - a)) 0 0)) := .inr ⟨HH.out.1, a, b, m, HH.out.2.1, HH.out.2.2, .inr ⟨by rw [← HNr.out]; omega, rfl, rfl⟩⟩
      clear hr1 hr2 hlL
      go_wp2_with fail
      refine HX.out.mono ?_
      rintro e W4 ⟨v, rfl, hv, hbut⟩
      obtain ⟨pv, cv, hvv⟩ := ownsRow_slice hv
      have HBf : Hid (Below w.heap.size w W4) := HB3w.out.trans (hbut.below HB3w.out.size fun q hq e => by have h1 := (HR.out.lt q e).1; have h2 := HB2.out.size; omega)
      have HV : Hid (InRow w.heap.size W4 v (pl (evL l.item (befP l.item m true) a (b - a)) 0 0)) := hv.mono HB3w.out.size
      obtain ⟨nv, hnv⟩ : ∃ nv, nv = (pl (evL l.item (befP l.item m true) a (b - a)) 0 0).length := ⟨_, rfl⟩
      rw [← hnv] at hvv
      subst hvv
      clear hv hbut hnv
      go_wp2
      exact bodyPost_ret (v := .tuple #[.slice pv nv cv, .int .i64 0]) (by simp [results, Try.results8, go_sem]) rfl ⟨_, 0, _, HS.out, rfl, HV.out, HBf.out⟩
end Go.Proofs.Ytdpfgflofjiheaa
