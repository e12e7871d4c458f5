import Derived.Test.YtikfpoabaaiegaaGrJ
import Derived.Test.YtikfpoabaaiegaaPack27
import Derived.Test.YtikfpoabaaiegaaPack20
import Derived.Test.YtikfpoabaaiegaaPack12
import Derived.Test.YtikfpoabaaiegaaPack29
import Derived.Test.YtikfpoabaaiegaaPack28
import Derived.Test.YtikfpoabaaiegaaPack9
namespace Go.Proofs.Ytikfpoabaaiegaa
open Go.RowKit
set_option maxRecDepth 8000
structure GtP (s : RS Bg) (w : World) (bv : Value) (B : List Int) (e : Int) (w' : World) : Prop where
  bel : Below w.heap.size w w'
  good : ∀ g, s B = .ok (g, []) → e = 0 ∧ GMv w w.heap.size w' bv (B.length : Int) 0 g ∧ Few_ g B.length
  more : ∀ g z R, s B = .ok (g, z :: R) → e = 44
  bad : ∀ k : Nat, s B = .error k → e = (k : Int) ∧ k ≠ 0
theorem GMv.below {w0 : World} {rb : Nat} {w : World} {bv : Value} {pa ea : Int} {g : Bg} (h : GMv w0 rb w bv pa ea g) : Below rb w0 w := by
  obtain ⟨a, b, c, V', h, _⟩ := h
  exact h.below
theorem GMv.cell1 {w0 : World} {rb : Nat} {w : World} {bv : Value} {pa ea : Int} {g : Bg} (h : GMv w0 rb w bv pa ea g) : w.cell? ⟨rb, 1, none⟩ = some (.int .i64 pa) := by
  obtain ⟨a, b, c, V', h, hv⟩ := h
  have := h.box.cell 1
  simpa using this
theorem GMv.froz {w0 : World} {rb : Nat} {w : World} {bv : Value} {pa ea : Int} {g : Bg} (h : GMv w0 rb w bv pa ea g) : w.frozen? ⟨rb, 2, none⟩ = false := by
  obtain ⟨a, b, c, V', h, hv⟩ := h
  exact h.box.frozen 2
theorem GMv.setE {w0 : World} {rb : Nat} {w : World} {bv : Value} {pa ea : Int} {g : Bg} (h : GMv w0 rb w bv pa ea g) (x : Int) : GMv w0 rb (w.setCell ⟨rb, 2, none⟩ (.int .i64 x)) bv pa x g := by
  obtain ⟨a, b, c, V', h, hv⟩ := h
  exact ⟨a, b, c, V', h.setE x, hv⟩
theorem GMv.new (w : World) (bp : Option Addr) (n bc : Nat) : GMv w w.heap.size (w.alloc (.cells #[.slice bp n bc, .int .i64 0, .int .i64 0, .slice none 0 0, .slice none 0 0, .slice none 0 0, .int .i64 0, .int .i64 0, .int .i64 0] 133)) (.slice bp n bc) 0 0 ⟨[], [], []⟩ :=
  ⟨_, _, _, [], ⟨World.ownsRow_nil _ _ _ _, World.ownsRow_nil _ _ _ _, World.ownsRow_nil _ _ _ _, fun _ h => (by cases h), fun _ h => (by cases h), fun _ h => (by cases h), Box.new _ _ _, fun _ h => (by cases h), (Below.refl _ _).alloc (Nat.le_refl _) _⟩, VAl.nil⟩
set_option maxHeartbeats 8000000 in
theorem refGet_any (w : World) (S : Nat → Prop) (bp : Option Addr) (bc : Nat) (B : List Int) (hB : Byts w S bp B.length bc (fun j => B.getD j 0)) (hS : ∀ b, S b → b < w.heap.size) (hl : B.length ≤ 1000000) (F : Nat) (f : ByteArray) (hf : f.size ≤ 1000) (h118 : (txL f).headD 0 ≠ 118) (h999 : walkR F (txL f) ⟨[], [], []⟩ B ≠ .error 999) :
    Calls Try.prog 67 #[.slice bp B.length bc, .string f] w fun x w' => ∃ e : Int, x = .returned (.tuple #[.pointer (some ⟨w.heap.size, 3, none⟩), .int .i64 e]) ∧ GtP (walkR F (txL f) ⟨[], [], []⟩) w (.slice bp B.length bc) B e w' := by
  have HW := hid (refWalk_any (w0 := w) (rb := w.heap.size) (bp := bp) (bc := bc) (S := S) (B := B) ⟨hB, hS, hl⟩ F f hf _ ⟨[], [], []⟩ 0 (GMv.new w bp B.length bc) (Nat.zero_le _) ⟨Nat.le_refl _, Nat.le_refl _, Nat.le_refl _⟩ (.inr h118) (by simpa using h999))
  generalize walkR F (txL f) ⟨[], [], []⟩ = s at HW h999 ⊢
  clear hB hS h118
  go_enter Try.func67, Try.ntmps67
  go_wp2_with fail
  refine HW.out.mono ?_
  rintro x w3 ⟨rfl, hst⟩
  unfold StP at hst
  rw [List.drop_zero] at hst
  clear HW
  cases hZ : s B with
  | error k =>
    obtain ⟨hk0, pa, g, hg⟩ := hst.2 k hZ
    have d2 := hg.cell2
    have hk' : ((k : Int) == 0) = false := by simpa using hk0
    have HE : Hid (GtP s w (.slice bp B.length bc) B (k : Int) w3.drew) := ⟨hg.below.drew, fun g h => (by rw [hZ] at h; cases h), fun g z R h => (by rw [hZ] at h; cases h), fun k2 h => (by rw [hZ] at h; cases h; exact ⟨rfl, hk0⟩)⟩
    clear hst hZ hg h999
    go_wp2_with fail
    refine wp_region_calmD 30 (fun wx => Below w3.heap.size w3 wx) [(0, true), (1, true), (2, true), (3, true), (4, true), (5, true), (6, false), (7, true), (8, true)] [] (by kernel_rfl) (by kernel_rfl) (Below.refl _ _).drew ?_
    refine wpPre_e rfl rfl (fun K1 hK1 => ?_)
    apply Exists.intro
    refine And.intro (fun wx hx => ?_) ?_
    · go_simp
      try rfl
    go_simp
    refine hK1 _ ?_
    clear hK1 K1
    refine wpPre_e rfl rfl (fun K1 hK1 => ?_)
    apply Exists.intro
    refine And.intro (fun wx hx => ?_) ?_
    · go_simp
      try rfl
    go_simp
    refine hK1 _ ?_
    clear hK1 K1
    refine wpPre_e rfl rfl (fun K1 hK1 => ?_)
    apply Exists.intro
    refine And.intro (fun wx hx => ?_) ?_
    · go_simp
      try rfl
    go_simp
    refine hK1 _ ?_
    clear hK1 K1
    refine wpPre_e rfl rfl (fun K1 hK1 => ?_)
    apply Exists.intro
    refine And.intro (fun wx hx => ?_) ?_
    · go_simp
      try rfl
    go_simp
    refine hK1 _ ?_
    clear hK1 K1
    refine wpPre_e rfl rfl (fun K1 hK1 => ?_)
    apply Exists.intro
    refine And.intro (fun wx hx => ?_) ?_
    · go_simp
      try rfl
    go_simp
    refine hK1 _ ?_
    clear hK1 K1
    refine wpPre_e rfl rfl (fun K1 hK1 => ?_)
    apply Exists.intro
    refine And.intro (fun wx hx => ?_) ?_
    · go_simp
      try rfl
    go_simp
    refine hK1 _ ?_
    clear hK1 K1
    refine wpPre_e rfl rfl (fun K1 hK1 => ?_)
    apply Exists.intro
    refine And.intro (fun wx hx => ?_) ?_
    · have e0 := below_fact hx rfl d2
      go_simp
      try rfl
    go_simp
    refine hK1 _ ?_
    clear hK1 K1
    refine wpPre_e rfl rfl (fun K1 hK1 => ?_)
    apply Exists.intro
    refine And.intro (fun wx hx => ?_) ?_
    · go_simp
      try rfl
    go_simp
    refine hK1 _ ?_
    clear hK1 K1
    refine wpPre_e rfl rfl (fun K1 hK1 => ?_)
    apply Exists.intro
    refine And.intro (fun wx hx => ?_) ?_
    · go_simp
      try rfl
    go_simp
    refine hK1 _ ?_
    clear hK1 K1
    refine wpPre_nil ?_
    refine wpStg_nil ?_
    go_wp2
    refine bodyPost_ret (v := .tuple #[.pointer (some ⟨w.heap.size, 3, none⟩), .int .i64 (k : Int)]) (by simp [results, Try.results67, go_sem]) rfl ?_
    exact ⟨_, rfl, HE.out⟩
  | ok z =>
    obtain ⟨g, R⟩ := z
    obtain ⟨p, hp, hR, hws⟩ := hst.1 g R hZ
    have hg := hws.gm
    have d1 := hg.cell1
    by_cases hlt : p < B.length
    · have hlt' : (p : Int) < (B.length : Int) := by omega
      have d2 := hg.cell2
      have f2 := hg.froz
      have hg9 := hg.setE 44
      have d9 := hg9.cell2
      have HE : Hid (GtP s w (.slice bp B.length bc) B 44 (w3.setCell ⟨w.heap.size, 2, none⟩ (.int .i64 44)).drew) := by
        have hne : R ≠ [] := by
          rw [hR]
          intro h
          have := congrArg List.length h
          simp at this
          omega
        refine ⟨hg9.below.drew, fun g h => ?_, fun g z R h => rfl, fun k2 h => (by rw [hZ] at h; cases h)⟩
        rw [hZ] at h
        cases h
        exact absurd rfl hne
      clear hst hZ hg hg9 hws h999 hR
      go_wp2_with fail
      refine wp_region_calmD 30 (fun wx => Below (w3.setCell ⟨w.heap.size, 2, none⟩ (.int .i64 44)).heap.size (w3.setCell ⟨w.heap.size, 2, none⟩ (.int .i64 44)) wx) [(0, true), (1, true), (2, true), (3, true), (4, true), (5, true), (6, false), (7, true), (8, true)] [] (by kernel_rfl) (by kernel_rfl) (Below.refl _ _).drew ?_
      refine wpPre_e rfl rfl (fun K1 hK1 => ?_)
      apply Exists.intro
      refine And.intro (fun wx hx => ?_) ?_
      · go_simp
        try rfl
      go_simp
      refine hK1 _ ?_
      clear hK1 K1
      refine wpPre_e rfl rfl (fun K1 hK1 => ?_)
      apply Exists.intro
      refine And.intro (fun wx hx => ?_) ?_
      · go_simp
        try rfl
      go_simp
      refine hK1 _ ?_
      clear hK1 K1
      refine wpPre_e rfl rfl (fun K1 hK1 => ?_)
      apply Exists.intro
      refine And.intro (fun wx hx => ?_) ?_
      · go_simp
        try rfl
      go_simp
      refine hK1 _ ?_
      clear hK1 K1
      refine wpPre_e rfl rfl (fun K1 hK1 => ?_)
      apply Exists.intro
      refine And.intro (fun wx hx => ?_) ?_
      · go_simp
        try rfl
      go_simp
      refine hK1 _ ?_
      clear hK1 K1
      refine wpPre_e rfl rfl (fun K1 hK1 => ?_)
      apply Exists.intro
      refine And.intro (fun wx hx => ?_) ?_
      · go_simp
        try rfl
      go_simp
      refine hK1 _ ?_
      clear hK1 K1
      refine wpPre_e rfl rfl (fun K1 hK1 => ?_)
      apply Exists.intro
      refine And.intro (fun wx hx => ?_) ?_
      · go_simp
        try rfl
      go_simp
      refine hK1 _ ?_
      clear hK1 K1
      refine wpPre_e rfl rfl (fun K1 hK1 => ?_)
      apply Exists.intro
      refine And.intro (fun wx hx => ?_) ?_
      · have e0 := below_fact hx rfl d9
        go_simp
        try rfl
      go_simp
      refine hK1 _ ?_
      clear hK1 K1
      refine wpPre_e rfl rfl (fun K1 hK1 => ?_)
      apply Exists.intro
      refine And.intro (fun wx hx => ?_) ?_
      · go_simp
        try rfl
      go_simp
      refine hK1 _ ?_
      clear hK1 K1
      refine wpPre_e rfl rfl (fun K1 hK1 => ?_)
      apply Exists.intro
      refine And.intro (fun wx hx => ?_) ?_
      · go_simp
        try rfl
      go_simp
      refine hK1 _ ?_
      clear hK1 K1
      refine wpPre_nil ?_
      refine wpStg_nil ?_
      go_wp2
      refine bodyPost_ret (v := .tuple #[.pointer (some ⟨w.heap.size, 3, none⟩), .int .i64 44]) (by simp [results, Try.results67, go_sem]) rfl ?_
      exact ⟨_, rfl, HE.out⟩
    · have hlt' : ¬ (p : Int) < (B.length : Int) := by omega
      obtain rfl : p = B.length := by omega
      have d2 := hg.cell2
      have HE : Hid (GtP s w (.slice bp B.length bc) B 0 w3.drew) := by
        rw [List.drop_length] at hR
        subst hR
        refine ⟨hg.below.drew, fun g2 h => ?_, fun g z R h => ?_, fun k2 h => (by rw [hZ] at h; cases h)⟩
        · rw [hZ] at h
          cases h
          exact ⟨rfl, hg.kept (Below.refl _ _).drew, hws.few⟩
        · rw [hZ] at h
          cases h
      clear hst hZ hg hws h999 hR
      go_wp2_with fail
      refine wp_region_calmD 30 (fun wx => Below w3.heap.size w3 wx) [(0, true), (1, true), (2, true), (3, true), (4, true), (5, true), (6, false), (7, true), (8, true)] [] (by kernel_rfl) (by kernel_rfl) (Below.refl _ _).drew ?_
      refine wpPre_e rfl rfl (fun K1 hK1 => ?_)
      apply Exists.intro
      refine And.intro (fun wx hx => ?_) ?_
      · go_simp
        try rfl
      go_simp
      refine hK1 _ ?_
      clear hK1 K1
      refine wpPre_e rfl rfl (fun K1 hK1 => ?_)
      apply Exists.intro
      refine And.intro (fun wx hx => ?_) ?_
      · go_simp
        try rfl
      go_simp
      refine hK1 _ ?_
      clear hK1 K1
      refine wpPre_e rfl rfl (fun K1 hK1 => ?_)
      apply Exists.intro
      refine And.intro (fun wx hx => ?_) ?_
      · go_simp
        try rfl
      go_simp
      refine hK1 _ ?_
      clear hK1 K1
      refine wpPre_e rfl rfl (fun K1 hK1 => ?_)
      apply Exists.intro
      refine And.intro (fun wx hx => ?_) ?_
      · go_simp
        try rfl
      go_simp
      refine hK1 _ ?_
      clear hK1 K1
      refine wpPre_e rfl rfl (fun K1 hK1 => ?_)
      apply Exists.intro
      refine And.intro (fun wx hx => ?_) ?_
      · go_simp
        try rfl
      go_simp
      refine hK1 _ ?_
      clear hK1 K1
      refine wpPre_e rfl rfl (fun K1 hK1 => ?_)
      apply Exists.intro
      refine And.intro (fun wx hx => ?_) ?_
      · go_simp
        try rfl
      go_simp
      refine hK1 _ ?_
      clear hK1 K1
      refine wpPre_e rfl rfl (fun K1 hK1 => ?_)
      apply Exists.intro
      refine And.intro (fun wx hx => ?_) ?_
      · have e0 := below_fact hx rfl d2
        go_simp
        try rfl
      go_simp
      refine hK1 _ ?_
      clear hK1 K1
      refine wpPre_e rfl rfl (fun K1 hK1 => ?_)
      apply Exists.intro
      refine And.intro (fun wx hx => ?_) ?_
      · go_simp
        try rfl
      go_simp
      refine hK1 _ ?_
      clear hK1 K1
      refine wpPre_e rfl rfl (fun K1 hK1 => ?_)
      apply Exists.intro
      refine And.intro (fun wx hx => ?_) ?_
      · go_simp
        try rfl
      go_simp
      refine hK1 _ ?_
      clear hK1 K1
      refine wpPre_nil ?_
      refine wpStg_nil ?_
      go_wp2
      refine bodyPost_ret (v := .tuple #[.pointer (some ⟨w.heap.size, 3, none⟩), .int .i64 0]) (by simp [results, Try.results67, go_sem]) rfl ?_
      exact ⟨_, rfl, HE.out⟩
end Go.Proofs.Ytikfpoabaaiegaa

namespace Go.Proofs.Ytikfpoabaaiegaa
open Go.RowKit
set_option maxRecDepth 8000
structure GetP {α β : Type} (s : RS α) (val : β → Value) (zero : β) (In : World → (Nat → Prop) → β → Prop) (Is : β → α → Prop) (w : World) (B : List Int) (t : β) (k : Int) (w' : World) : Prop where
  bel : Below w.heap.size w w'
  inn : In w' (fun b => w.heap.size ≤ b) t
  good : ∀ y, s B = .ok (y, []) → k = 0 ∧ Is t y
  more : ∀ y z R, s B = .ok (y, z :: R) → k = 44 ∧ t = zero
  bad : ∀ e : Nat, s B = .error e → k = (e : Int) ∧ e ≠ 0 ∧ t = zero
theorem WholeP.get {α β : Type} {s : RS α} {val : β → Value} {zero : β} {In : World → (Nat → Prop) → β → Prop} {Is : β → α → Prop} {w : World} {B : List Int} {x : Ending} {w' : World} (h : WholeP s val (val zero) In Is w B x w') (hz : ∀ W S, In W S zero) : ∃ t k, x = .returned (.tuple #[val t, .int .i64 k]) ∧ GetP s val zero In Is w B t k w' := by
  cases hq : s B with
  | error e =>
    obtain ⟨h1, h2⟩ := h.bad e hq
    exact ⟨zero, (e : Int), h1, h.bel, hz _ _, fun y hy => (by rw [hq] at hy; cases hy), fun y z R hy => (by rw [hq] at hy; cases hy), fun e2 he => (by rw [hq] at he; cases he; exact ⟨rfl, h2, rfl⟩)⟩
  | ok z =>
    obtain ⟨y, R⟩ := z
    cases R with
    | nil =>
      obtain ⟨t, h1, h2, h3⟩ := h.good y hq
      exact ⟨t, 0, h1, h.bel, h2, fun y2 hy => (by rw [hq] at hy; cases hy; exact ⟨rfl, h3⟩), fun y z R hy => (by rw [hq] at hy; cases hy), fun e2 he => (by rw [hq] at he; cases he)⟩
    | cons a R =>
      have h1 := h.more y a R hq
      exact ⟨zero, 44, h1, h.bel, hz _ _, fun y2 hy => (by rw [hq] at hy; cases hy), fun y z R hy => ⟨rfl, rfl⟩, fun e2 he => (by rw [hq] at he; cases he)⟩
def zRT : RT := ⟨⟨#[]⟩, mkN, none, 0, 0, fun _ => 0⟩
def zMT : MT := ⟨0, 0, noL (0, 0)⟩
def zOT : OT := ⟨0, zRT⟩
def zGT : GT := ⟨0, 0, 0, 0, noS, noD, noL (noL zRT), noL zRT⟩
theorem in_zRT (w : World) (S : Nat → Prop) : RT.In w S zRT := ⟨in_zero w S, ⟨fun h => absurd h (by decide), by decide, by decide, by decide, fun j h => absurd h (Nat.not_lt_zero j), fun _ => ⟨rfl, rfl⟩⟩, by decide⟩
theorem in_zMT (w : World) (S : Nat → Prop) : MT.In w S zMT := ⟨by decide, by decide, LT.In.none_ _ _ _ _ _ _ (by decide) (fun _ => rfl)⟩
theorem in_zOT (w : World) (S : Nat → Prop) : OT.In w S zOT := ⟨by decide, in_zRT w S⟩
theorem in_zGT (w : World) (S : Nat → Prop) : GT.In w S zGT := ⟨by decide, by decide, by decide, by decide, in_noS w S, in_noD w S, LT.In.none_ _ _ _ _ _ _ (by decide) (fun _ => rfl), LT.In.none_ _ _ _ _ _ _ (by decide) (fun _ => rfl)⟩
end Go.Proofs.Ytikfpoabaaiegaa

namespace Go.Proofs.Ytikfpoabaaiegaa
open Go.RowKit
set_option maxRecDepth 8000
set_option maxHeartbeats 8000000 in
theorem refGetRec (w : World) (S : Nat → Prop) (p : Option Addr) (c : Nat) (B : List Int) (hB : Byts w S p B.length c (fun j => B.getD j 0)) (hS : ∀ b, S b → b < w.heap.size) (hl : B.length ≤ 1000000) (hBy : Byt B) : Calls Try.prog 28 #[.slice p B.length c] w fun x w' => ∃ t k, x = .returned (.tuple #[RT.val t, .int .i64 k]) ∧ GetP recS RT.val zRT RT.In (fun t y => RT.Alike y t) w B t k w' := by
  have ha : Below w.heap.size w (w.alloc (.cells #[.string ⟨#[]⟩, .int .i64 0, .int .i64 0, .string ⟨#[]⟩, .slice none 0 0, .slice none 0 0] 27)) := (Below.refl _ _).alloc (Nat.le_refl _) _
  have hz0 : (w.alloc (.cells #[.string ⟨#[]⟩, .int .i64 0, .int .i64 0, .string ⟨#[]⟩, .slice none 0 0, .slice none 0 0] 27)).heap.size = w.heap.size + 1 := by simp
  have hs : walkR 4 (txL ⟨#[107, 118, 91, 97, 104, 93]⟩) ⟨[], [], []⟩ = bindS recS fun r => retS (dRec r) := walk_record 0
  have HC := hid (refGet_any (w.alloc (.cells #[.string ⟨#[]⟩, .int .i64 0, .int .i64 0, .string ⟨#[]⟩, .slice none 0 0, .slice none 0 0] 27)) S p c B (hB.kept ha.size fun b _ hl => ha.block b hl) (fun b hb => by have := hS b hb; omega) hl 4 ⟨#[107, 118, 91, 97, 104, 93]⟩ (by decide) (by decide) (by rw [hs]; exact (low_bind low_rec fun _ => low_ret _).no B))
  rw [hs] at HC
  have HA := hid ha
  have HV := hid (Box.new w #[.string ⟨#[]⟩, .int .i64 0, .int .i64 0, .string ⟨#[]⟩, .slice none 0 0, .slice none 0 0] 27)
  have HBy := hid hBy
  clear hB hS ha hs hBy
  obtain ⟨n, hn⟩ : ∃ n, n = B.length := ⟨_, rfl⟩
  rw [← hn] at HC ⊢
  have HNl := hid (And.intro hn hl)
  clear hn hl
  go_enter Try.func28, Try.ntmps28
  go_wp2_with fail
  refine HC.out.mono ?_
  rintro x w1 ⟨k, rfl, hg⟩
  clear HC
  have hb1 := hg.bel
  have HB1 := hid hb1
  have HG := hid hg
  have hs1 := hb1.size
  by_cases hk : k = 0
  · subst hk
    cases hZ : recS B with
    | error e =>
      obtain ⟨h1, h2⟩ := hg.bad e (by unfold bindS; rw [hZ])
      omega
    | ok z =>
      obtain ⟨r, R⟩ := z
      cases R with
      | cons z R =>
        have := hg.more (dRec r) z R (by unfold bindS; rw [hZ]; rfl)
        omega
      | nil =>
        obtain ⟨_, ⟨a, b, d, V', hG, hva⟩, hfew⟩ := hg.good (dRec r) (by unfold bindS; rw [hZ]; rfl)
        obtain ⟨s1, s2, s3⟩ := rec_small hZ HBy.out
        obtain ⟨q, hq1, hq2, hq3⟩ := bag_rec s1 s2 s3 hva
        have hN1 := hfew.N
        have hK1 := hfew.K
        have hV1 := hfew.V
        have hV2 := hva.1
        have hll := HNl.out.2
        have HR := hid (refRecord4 hG (GW.start hG) (by omega) (by omega) (by omega) hq1 hq2)
        rw [hz0] at HR
        have HV1 := hid (HV.out.below hb1)
        have HQ3 := hid hq3
        have HZr := hid hZ
        clear hb1 hg hG hva hfew hq1 hq2 hq3 hN1 hK1 hV1 hV2 hll s1 s2 s3 hZ
        go_wp2_with fail
        refine HR.out.mono ?_
        rintro x w2 ⟨t, rfl, his, hin, hgw, _, hbu⟩
        have HV2 := hid (HV1.out.but hbu (by omega))
        have HT := hid (And.intro his hin)
        have HBu := hid hbu
        have hs2 := hbu.size
        clear his hin hgw hbu HR HV1
        have hv := HV2.out
        have c0 := hv.cell 0
        have f0 := hv.frozen 0
        have c1 := hv.cell 1
        have f1 := hv.frozen 1
        have c2 := hv.cell 2
        have f2 := hv.frozen 2
        have c3 := hv.cell 3
        have f3 := hv.frozen 3
        have c4 := hv.cell 4
        have f4 := hv.frozen 4
        have c5 := hv.cell 5
        have f5 := hv.frozen 5
        simp only [List.getElem?_toArray, List.getElem?_cons_zero, List.getElem?_cons_succ] at c0 c1 c2 c3 c4 c5
        have zz := set6_box hv (.string t.key) (.int .i64 t.v.kind) (.int .i64 t.v.int) (.string t.v.text) (.slice t.v.p t.v.n t.v.c) (.slice t.p t.n t.c)
        have r0' := zz.cell 0
        have r1' := zz.cell 1
        have r2' := zz.cell 2
        have r3' := zz.cell 3
        have r4' := zz.cell 4
        have r5' := zz.cell 5
        simp only [List.getElem?_toArray, List.getElem?_cons_zero, List.getElem?_cons_succ] at r0' r1' r2' r3' r4' r5'
        have HZ := hid (And.intro r0' (And.intro r1' (And.intro r2' (And.intro r3' (And.intro r4' (r5'))))))
        clear hv zz r0' r1' r2' r3' r4' r5'
        unfold RT.val
        go_wp2
        obtain ⟨r0', r1', r2', r3', r4', r5'⟩ := HZ.out
        have hfin := But.sets6 w2 w.heap.size (.string t.key) (.int .i64 t.v.kind) (.int .i64 t.v.int) (.string t.v.text) (.slice t.v.p t.v.n t.v.c) (.slice t.p t.n t.c)
        have hb12 : Below w.heap.size w1 w2 := HBu.out.below (by omega) (fun k hk e => by omega)
        have hbf : Below w.heap.size w _ := ((HA.out.trans (HB1.out.mono (by omega))).trans hb12).trans (hfin.below (by omega) (fun k hk e => by omega))
        refine bodyPost_ret (v := .tuple #[RT.val t, .int .i64 0]) (by simp [results, Try.results28, go_sem, RT.val, r0', r1', r2', r3', r4', r5']) rfl ⟨t, 0, rfl, hbf, ?_, fun y hy => ?_, fun y z R hy => ?_, fun e he => ?_⟩
        · exact RT.In.mono (RT.In.but HT.out.2 hfin (fun b hb _ e => by omega)) (fun b hb _ => by omega)
        · rw [HZr.out] at hy; cases hy; exact ⟨rfl, HQ3.out t HT.out.1⟩
        · rw [HZr.out] at hy; cases hy
        · rw [HZr.out] at he; cases he
  · have hk' : (k == 0) = false := by simpa using hk
    have hv := HV.out.below hb1
    clear hb1 hg
    have c0 := hv.cell 0
    have f0 := hv.frozen 0
    have c1 := hv.cell 1
    have f1 := hv.frozen 1
    have c2 := hv.cell 2
    have f2 := hv.frozen 2
    have c3 := hv.cell 3
    have f3 := hv.frozen 3
    have c4 := hv.cell 4
    have f4 := hv.frozen 4
    have c5 := hv.cell 5
    have f5 := hv.frozen 5
    simp only [List.getElem?_toArray, List.getElem?_cons_zero, List.getElem?_cons_succ] at c0 c1 c2 c3 c4 c5
    have zz := set6_box hv (.string ⟨#[]⟩) (.int .i64 0) (.int .i64 0) (.string ⟨#[]⟩) (.slice none 0 0) (.slice none 0 0)
    have r0' := zz.cell 0
    have r1' := zz.cell 1
    have r2' := zz.cell 2
    have r3' := zz.cell 3
    have r4' := zz.cell 4
    have r5' := zz.cell 5
    simp only [List.getElem?_toArray, List.getElem?_cons_zero, List.getElem?_cons_succ] at r0' r1' r2' r3' r4' r5'
    have HZ := hid (And.intro r0' (And.intro r1' (And.intro r2' (And.intro r3' (And.intro r4' (r5'))))))
    clear hv zz r0' r1' r2' r3' r4' r5'
    go_wp2
    obtain ⟨r0', r1', r2', r3', r4', r5'⟩ := HZ.out
    have hfin := But.sets6 w1 w.heap.size (.string ⟨#[]⟩) (.int .i64 0) (.int .i64 0) (.string ⟨#[]⟩) (.slice none 0 0) (.slice none 0 0)
    have hbf : Below w.heap.size w _ := (HA.out.trans (HB1.out.mono (by omega))).trans (hfin.below (by omega) (fun k hk e => by omega))
    refine bodyPost_ret (v := .tuple #[.agg #[.string ⟨#[]⟩, .int .i64 0, .int .i64 0, .string ⟨#[]⟩, .slice none 0 0, .slice none 0 0], .int .i64 k]) (by simp [results, Try.results28, go_sem, r0', r1', r2', r3', r4', r5']) rfl ⟨zRT, k, rfl, hbf, in_zRT _ _, fun y hy => ?_, fun y z R hy => ?_, fun e he => ?_⟩
    · exact absurd (HG.out.good (dRec y) (by unfold bindS; rw [hy]; rfl)).1 hk
    · exact ⟨HG.out.more (dRec y) z R (by unfold bindS; rw [hy]; rfl), rfl⟩
    · obtain ⟨a, b⟩ := HG.out.bad e (by unfold bindS; rw [he])
      exact ⟨a, b, rfl⟩
end Go.Proofs.Ytikfpoabaaiegaa

namespace Go.Proofs.Ytikfpoabaaiegaa
open Go.RowKit
set_option maxRecDepth 8000
def El.under {α : Type} (E : El α) (B : Nat) : El α where
  ty := E.ty
  size := E.size
  cells := E.cells
  len := E.len
  one := E.one
  In := fun w S x => E.In w (fun b => S b ∧ b < B) x
  kept := fun h hs hb => E.kept h hs (fun b hS hl => hb b hS.1 hl)
  mono := fun h hb => E.mono h (fun b hS hl => ⟨hb b hS.1 hl, hS.2⟩)
structure BCel where
  key : ByteArray
  vs : List VT
def BCel.Ok (r : BCel) : Prop := r.key.size ≤ 1000 ∧ r.vs.length ≤ 1000
def BCel.Is (r : BCel) (q : VT) : Prop := q.text = r.key ∧ q.n = r.vs.length ∧ (∀ s x, r.vs[s]? = some x → q.item s = x) ∧ q.kind = 0 ∧ q.int = 0
def bagVs (vs : List VT) (g : Bg) : Bg := ⟨g.N, g.K, vs ++ g.V⟩
def bagCs (cs : List BCel) (g : Bg) : Bg := ⟨cs.map (fun r => (r.vs.length : Int)) ++ g.N, cs.map BCel.key ++ g.K, cs.flatMap BCel.vs ++ g.V⟩
theorem bagVs_nil (g : Bg) : bagVs [] g = g := rfl
theorem bagCs_nil (g : Bg) : bagCs [] g = g := rfl
theorem bagVs_cons {N : List Int} {K : List ByteArray} {V : List VT} {i j k : Nat} {x : VT} {vs : List VT} {g : Bg} (h : lft N K V i j k = bagVs (x :: vs) g) : V[k]? = some x ∧ lft N K V i j (k + 1) = bagVs vs g := by
  simp only [lft, bagVs, List.cons_append, Bg.mk.injEq] at h
  obtain ⟨h1, h2, h3⟩ := h
  obtain ⟨c1, c2⟩ := drop_cons h3
  exact ⟨c1, by simp only [lft, bagVs, h1, h2, c2]⟩
theorem bagCs_cons {N : List Int} {K : List ByteArray} {V : List VT} {i j k : Nat} {r : BCel} {rs : List BCel} {g : Bg} (h : lft N K V i j k = bagCs (r :: rs) g) :
    K[j]? = some r.key ∧ N[i]? = some (r.vs.length : Int) ∧ lft N K V (i + 1) (j + 1) k = bagVs r.vs (bagCs rs g) := by
  simp only [lft, bagCs, List.flatMap_cons, List.map_cons, List.cons_append, List.append_assoc, Bg.mk.injEq] at h
  obtain ⟨h1, h2, h3⟩ := h
  obtain ⟨a1, a2⟩ := drop_cons h1
  obtain ⟨b1, b2⟩ := drop_cons h2
  exact ⟨b1, a1, by simp only [lft, bagVs, bagCs, a2, b2, h3]⟩
theorem TkL.one {α β : Type} {E : El α} {Is : β → α → Prop} {bag : List β → Bg → Bg} {rb : Nat} {w1 w wr w9 : World} {bv : Value} {pa : Int} {a b c : Value} {N : List Int} {K : List ByteArray} {V : List VT} {rs : List β} {g : Bg} {v : Value} {t : Nat} {it : Nat → α} {i j k q : Nat}
    (h : TkL (E.under w1.heap.size) Is bag rb w1 w wr bv pa a b c N K V rs g v t it i j k) (h1 : But (fun q => q = rb) w1 w) (hq : w.heap.size ≤ q) (hrb : rb < w.heap.size) (ho : ∀ o, v.ownBlock = some o → q < o) (hb : But (fun y => y = q) wr w9) :
    TkL (E.under w1.heap.size) Is bag rb w1 w w9 bv pa a b c N K V rs g v t it i j k := by
  have s1 := h1.size
  have s2 := h.but.size
  have hb3 : But (fun q => q = rb) w w9 := ⟨hb.os.trans h.but.os, hb.tape.trans h.but.tape, hb.output.trans h.but.output, Nat.le_trans h.but.size hb.size, fun x hx hne => (hb.block x (by omega) (by omega)).trans (h.but.block x hx hne)⟩
  refine ⟨⟨ownsRow_keep h.own.own (fun o ho2 hl => hb.block o hl (by have := ho o ho2; omega)), fun j hj => ?_⟩, h.hi, h.is_, ⟨h.gw.box.but hb (by omega), h1.trans hb3⟩, h.left, hb3⟩
  have := h.own.each j hj
  exact E.kept this hb.size fun b hb2 hl => hb.block b hl (by have := hb2.2; omega)
theorem TkL.vals {rb : Nat} {w1 w wr : World} {bv : Value} {pa : Int} {a b c : Value} {N : List Int} {K : List ByteArray} {V : List VT} {r : BCel} {g : Bg} {v : Value} {it : Nat → VT} {i j k : Nat}
    (h : TkL (elVal.under w1.heap.size) (fun x y => y = x) bagVs rb w1 w wr bv pa a b c N K V r.vs g v r.vs.length it i j k) (hr : r.Ok) :
    ∃ u : VT, v = .slice u.p u.n u.c ∧ u.text = r.key ∧ r.Is u ∧ VT.In wr (fun b => rb < b ∧ (b < w1.heap.size ∨ w.heap.size ≤ b)) u ∧ lft N K V i j k = g := by
  obtain ⟨p, cc, hv, hin⟩ := h.own.in_ (by have := hr.2; omega)
  have hl : LT.In elVal wr (fun b => rb < b ∧ (b < w1.heap.size ∨ w.heap.size ≤ b)) ⟨p, r.vs.length, cc, it⟩ := by
    refine ⟨fun hn => ?_, fun s hs => ?_, hin.nc, hin.nn, hin.cc, hin.nil⟩
    · obtain ⟨b, o, e, hS, hl, ha⟩ := hin.at_ hn
      refine ⟨b, o, e, ⟨hS, .inr (h.hi b ?_)⟩, hl, ha⟩
      rw [hv]
      simp only at e
      rw [e]
      rfl
    · have := hin.each s hs
      exact elVal.mono this fun b hb _ => ⟨hb.1, .inl hb.2⟩
  refine ⟨.mk 0 0 r.key r.vs.length p cc it, hv, rfl, ⟨rfl, rfl, fun s x hs => h.is_ s x (List.getElem?_eq_some_iff.1 hs).1 hs, rfl, rfl⟩, in_cell hl hr.1, ?_⟩
  rw [h.left, List.drop_length, bagVs_nil]
end Go.Proofs.Ytikfpoabaaiegaa

namespace Go.Proofs.Ytikfpoabaaiegaa
set_option maxRecDepth 8000
theorem VAl.split {A B V : List VT} (h : VAl (A ++ B) V) : ∃ V1 V2, V = V1 ++ V2 ∧ VAl A V1 ∧ VAl B V2 := by
  have hl := h.1
  rw [List.length_append] at hl
  refine ⟨V.take A.length, V.drop A.length, (List.take_append_drop _ _).symm, ⟨by simp; omega, fun j x x' hx hx' => ?_⟩, ⟨by simp; omega, fun j x x' hx hx' => ?_⟩⟩
  · have hj := (List.getElem?_eq_some_iff.1 hx).1
    refine h.2 j x x' (by rw [List.getElem?_append_left hj]; exact hx) ?_
    rw [List.getElem?_take, if_pos hj] at hx'
    exact hx'
  · refine h.2 (A.length + j) x x' (by rw [List.getElem?_append_right (by omega), Nat.add_sub_cancel_left]; exact hx) ?_
    rw [List.getElem?_drop] at hx'
    exact hx'
theorem VAl.none_ {V : List VT} (h : VAl [] V) : V = [] := List.eq_nil_of_length_eq_zero h.1
def Put (d : Bg) (V : List VT) (g : Bg) : Bg := ⟨d.N ++ g.N, d.K ++ g.K, V ++ g.V⟩
theorem put_add (d e : Bg) (V1 V2 : List VT) (g : Bg) : Put (d.add e) (V1 ++ V2) g = Put d V1 (Put e V2 g) := by simp [Put, Bg.add]
theorem put_whole (d : Bg) (V : List VT) : lft d.N d.K V 0 0 0 = Put d V gNil := by simp [lft, Put, gNil]
def All {α β : Type} (Ok : α → β → Prop) (l : List α) (qs : List β) : Prop := qs.length = l.length ∧ ∀ (j : Nat) (a : α) (q : β), l[j]? = some a → qs[j]? = some q → Ok a q
theorem All.nil {α β : Type} (Ok : α → β → Prop) : All Ok [] [] := ⟨rfl, fun j a q h => by simp at h⟩
theorem All.cons {α β : Type} {Ok : α → β → Prop} {a : α} {q : β} {l : List α} {qs : List β} (h : Ok a q) (h2 : All Ok l qs) : All Ok (a :: l) (q :: qs) := by
  refine ⟨by simp [h2.1], fun j b r hb hr => ?_⟩
  cases j with
  | zero => simp at hb hr; subst hb hr; exact h
  | succ j => exact h2.2 j b r (by simpa using hb) (by simpa using hr)
theorem All.left {α β : Type} {Ok : α → β → Prop} {P : β → Prop} {l : List α} {qs : List β} (h : All Ok l qs) (hp : ∀ a q, Ok a q → P q) : ∀ q ∈ qs, P q := by
  intro q hq
  obtain ⟨j, hj, rfl⟩ := List.getElem_of_mem hq
  have hj2 : j < l.length := by rw [← h.1]; exact hj
  exact hp _ _ (h.2 j l[j] qs[j] (List.getElem?_eq_getElem hj2) (List.getElem?_eq_getElem hj))
theorem All.isl {α β : Type} {Ok : α → β → Prop} {Is : β → α → Prop} {Al : α → α → Prop} {l : List α} {qs : List β} {t : LT α} (h : All Ok l qs) (hp : ∀ a q u, Ok a q → Is q u → Al a u) (hn : t.n = qs.length) (hi : ∀ s q, qs[s]? = some q → Is q (t.item s)) : Isl Al t l := by
  refine ⟨hn.trans h.1, fun j a ha => ?_⟩
  have hj : j < qs.length := by rw [h.1]; exact (List.getElem?_eq_some_iff.1 ha).1
  exact hp a qs[j] _ (h.2 j a _ ha (List.getElem?_eq_getElem hj)) (hi j _ (List.getElem?_eq_getElem hj))
theorem catB_cons (x : Bg) (l : List Bg) : catB (x :: l) = x.add (catB l) := by simp [catB, Bg.add]
theorem put_cat {α β : Type} {d : α → Bg} {Sm : α → Prop} {Ok : α → β → Prop} {bag : List β → Bg → Bg} (h0 : ∀ g, bag [] g = g) (h1 : ∀ a V, Sm a → VAl (d a).V V → ∃ q, Ok a q ∧ ∀ qs g, Put (d a) V (bag qs g) = bag (q :: qs) g) : ∀ l : List α, (∀ a ∈ l, Sm a) → ∀ V, VAl (catB (l.map d)).V V → ∃ qs, All Ok l qs ∧ ∀ g, Put (catB (l.map d)) V g = bag qs g := by
  intro l
  induction l with
  | nil => exact fun _ V hv => ⟨[], All.nil _, fun g => by rw [VAl.none_ (V := V) hv, h0]; rfl⟩
  | cons a l ih =>
    intro hs V hv
    rw [List.map_cons, catB_cons] at hv ⊢
    obtain ⟨V1, V2, rfl, hv1, hv2⟩ := VAl.split hv
    obtain ⟨q, hq, hg⟩ := h1 a V1 (hs a (by simp)) hv1
    obtain ⟨qs, hqs, hgs⟩ := ih (fun b hb => hs b (List.mem_cons_of_mem _ hb)) V2 hv2
    exact ⟨q :: qs, hqs.cons hq, fun g => by rw [put_add, hgs, hg]⟩
theorem put_list {α β : Type} {d : α → Bg} {Sm : α → Prop} {Ok : α → β → Prop} {bag : List β → Bg → Bg} (h0 : ∀ g, bag [] g = g) (h1 : ∀ a V, Sm a → VAl (d a).V V → ∃ q, Ok a q ∧ ∀ qs g, Put (d a) V (bag qs g) = bag (q :: qs) g) (l : List α) (hs : ∀ a ∈ l, Sm a) (V : List VT) (hv : VAl (dList d l).V V) : ∃ qs, All Ok l qs ∧ ∀ g, Put (dList d l) V g = numsG (qs.length : Int) (bag qs g) := by
  obtain ⟨qs, hqs, hg⟩ := put_cat h0 h1 l hs V (by simpa [dList, Bg.add] using hv)
  refine ⟨qs, hqs, fun g => ?_⟩
  rw [← hg, hqs.1]
  rfl
def SmR (r : RT) : Prop := r.key.size ≤ 12 ∧ r.n ≤ 3 ∧ ∀ j, j < r.n → 0 ≤ r.loop j ∧ r.loop j ≤ 9
def OkR (r : RT) (q : BRec) : Prop := q.Ok ∧ ∀ t : RT, q.Is t → RT.Alike r t
theorem put_rec {r : RT} {V : List VT} (hs : SmR r) (hv : VAl (dRec r).V V) : ∃ q : BRec, OkR r q ∧ ∀ qs g, Put (dRec r) V (bagRs qs g) = bagRs (q :: qs) g := by
  obtain ⟨q, h1, h2, h3⟩ := bag_rec hs.1 hs.2.1 hs.2.2 hv
  refine ⟨q, ⟨h2, h3⟩, fun qs g => ?_⟩
  simp only [lft, bagRs, gNil, List.drop_zero, List.append_nil, List.flatMap_cons, List.flatMap_nil, List.map_cons, List.map_nil, Bg.mk.injEq] at h1
  obtain ⟨a, b, c⟩ := h1
  simp [Put, bagRs, a, b, c]
theorem put_recs (l : List RT) (hs : ∀ r ∈ l, SmR r) (V : List VT) (hv : VAl (dList dRec l).V V) : ∃ qs, All OkR l qs ∧ ∀ g, Put (dList dRec l) V g = numsG (qs.length : Int) (bagRs qs g) := put_list bagRs_nil (fun _ _ h1 h2 => put_rec h1 h2) l hs V hv
def SmC (c : VT) : Prop := c.text.size ≤ 12 ∧ ∃ l : List VT, l.length ≤ 6 ∧ c = mkC c.text l
def OkC (c : VT) (q : BCel) : Prop := q.Ok ∧ ∀ t : VT, q.Is t → VT.Alike c t
theorem put_cel {c : VT} {V : List VT} (hs : SmC c) (hv : VAl (dCel c).V V) : ∃ q : BCel, OkC c q ∧ ∀ qs g, Put (dCel c) V (bagCs qs g) = bagCs (q :: qs) g := by
  obtain ⟨h1, l, h2, h3⟩ := hs
  generalize hk : c.text = k at h1 h3
  subst h3
  have hv2 : VAl l V := by
    have e : (dCel (mkC k l)).V = l := range_mapD l .nil
    rw [e] at hv
    exact hv
  refine ⟨⟨k, V⟩, ⟨⟨by show k.size ≤ 1000; omega, by show V.length ≤ 1000; rw [hv2.1]; omega⟩, fun t ht => ?_⟩, fun qs g => ?_⟩
  · obtain ⟨a, b, c, d, e⟩ := ht
    refine ⟨d, e, a, b.trans hv2.1, fun j hj => ?_⟩
    have hj2 : j < V.length := by rw [hv2.1]; exact hj
    rw [c j _ (List.getElem?_eq_getElem hj2)]
    exact hv2.2 j _ _ (getD_get hj) (List.getElem?_eq_getElem hj2)
  · have e : ((mkC k l).n : Int) = (V.length : Int) := by rw [hv2.1]; rfl
    simp [Put, bagCs, dCel, e]
    rfl
theorem put_cels (l : List VT) (hs : ∀ c ∈ l, SmC c) (V : List VT) (hv : VAl (dList dCel l).V V) : ∃ qs, All OkC l qs ∧ ∀ g, Put (dList dCel l) V g = numsG (qs.length : Int) (bagCs qs g) := put_list bagCs_nil (fun _ _ h1 h2 => put_cel h1 h2) l hs V hv
def bagKs (l : List ByteArray) (g : Bg) : Bg := ⟨g.N, l ++ g.K, g.V⟩
theorem put_keys (l : List ByteArray) (V : List VT) (hv : VAl (dList (fun k => ⟨[], [k], []⟩) l).V V) : ∃ qs, All (fun a q => q = a) l qs ∧ ∀ g, Put (dList (fun k => ⟨[], [k], []⟩) l) V g = numsG (qs.length : Int) (bagKs qs g) := put_list (Sm := fun _ => True) (Ok := fun a q => q = a) (bag := bagKs) (fun _ => rfl) (fun a V _ h => ⟨a, rfl, fun qs g => by rw [VAl.none_ (V := V) h]; rfl⟩) l (fun _ _ => trivial) V hv
def bagFs (l : List (Nat × Nat)) (g : Bg) : Bg := ⟨l.flatMap (fun x => [(x.1 : Int), (x.2 : Int)]) ++ g.N, g.K, g.V⟩
def SmF (x : Nat × Nat) : Prop := x.1 ≤ 65536 ∧ x.2 < 4294967296
def bagLs : List (List BRec) → Bg → Bg
  | [], g => g
  | qs :: l, g => numsG (qs.length : Int) (bagRs qs (bagLs l g))
def SmL (l : LT RT) : Prop := l.n ≤ 256 ∧ ∀ j, j < l.n → SmR (l.item j)
def OkL (l : LT RT) (qs : List BRec) : Prop := qs.length ≤ 256 ∧ All OkR ((List.range l.n).map l.item) qs
theorem put_log {l : LT RT} {V : List VT} (hs : SmL l) (hv : VAl (dLT l).V V) : ∃ q : List BRec, OkL l q ∧ ∀ qs g, Put (dLT l) V (bagLs qs g) = bagLs (q :: qs) g := by
  obtain ⟨qs, h1, h2⟩ := put_recs ((List.range l.n).map l.item) (fun r hr => by
    obtain ⟨j, hj, rfl⟩ := List.mem_map.1 hr
    exact hs.2 j (List.mem_range.1 hj)) V hv
  exact ⟨qs, ⟨by rw [h1.1]; simpa using hs.1, h1⟩, fun l g => h2 _⟩
theorem put_logs (l : List (LT RT)) (hs : ∀ c ∈ l, SmL c) (V : List VT) (hv : VAl (dList dLT l).V V) : ∃ qs, All OkL l qs ∧ ∀ g, Put (dList dLT l) V g = numsG (qs.length : Int) (bagLs qs g) := put_list (fun _ => rfl) (fun _ _ h1 h2 => put_log h1 h2) l hs V hv
theorem recs_small {l : List RT} {L R : List Int} (h : recsS L = .ok (l, R)) (hL : Byt L) : l.length ≤ 256 ∧ ∀ r ∈ l, SmR r := by
  obtain ⟨_, h2, h3⟩ := list_ok (enc := recB) (P := fun _ r => SmR r) (fun _ _ _ _ h hL => ⟨(rec_ok h hL).1, rec_small h hL⟩) h hL
  exact ⟨h2, fun r hr => by obtain ⟨j, hj, rfl⟩ := List.getElem_of_mem hr; exact h3 j _ (List.getElem?_eq_getElem hj)⟩
theorem cells_small {l : List VT} {L R : List Int} (h : cellsS L = .ok (l, R)) (hL : Byt L) : l.length ≤ 64 ∧ ∀ r ∈ l, SmC r := by
  obtain ⟨_, h2, h3⟩ := list_ok (enc := cellB) (P := fun _ r => SmC r) (fun s L y R h hL => ⟨(cell_ok h hL).1, (cell_ok h hL).2.1, by
    obtain ⟨k, M, h1, h⟩ := bind_ok h
    obtain ⟨v, M2, h2, h⟩ := bind_ok h
    obtain ⟨rfl, rfl⟩ := ret_ok h
    obtain ⟨a1, a2⟩ := rise_ok h1 hL
    have hM : Byt M := by rw [a1] at hL; exact hL.right
    exact ⟨v, (vals_ok h2 hM).2.1, rfl⟩⟩) h hL
  exact ⟨h2, fun r hr => by obtain ⟨j, hj, rfl⟩ := List.getElem_of_mem hr; exact h3 j _ (List.getElem?_eq_getElem hj)⟩
theorem files_small {l : List (Nat × Nat)} {L R : List Int} (h : filesS L = .ok (l, R)) (hL : Byt L) : l.length ≤ 12 ∧ ∀ r ∈ l, SmF r := by
  obtain ⟨_, h2, h3⟩ := list_ok (enc := fileB) (P := fun (_ : Unit) r => SmF r) (fun s _ _ _ h hL => file_ok (s := s) h hL) h hL
  exact ⟨h2, fun r hr => by obtain ⟨j, hj, rfl⟩ := List.getElem_of_mem hr; exact h3 j _ (List.getElem?_eq_getElem hj)⟩
theorem recsL_small {l : LT RT} {L R : List Int} (h : recsL L = .ok (l, R)) (hL : Byt L) : SmL l := by
  obtain ⟨ys, M, h1, h⟩ := bind_ok h
  obtain ⟨rfl, rfl⟩ := ret_ok h
  obtain ⟨a, b⟩ := recs_small h1 hL
  exact ⟨a, fun j hj => b _ (List.mem_of_getElem? (getD_get hj))⟩
theorem logs_small {l : List (LT RT)} {L R : List Int} (h : logsL L = .ok (l, R)) (hL : Byt L) : l.length ≤ 4 ∧ ∀ r ∈ l, SmL r := by
  obtain ⟨_, h2, h3⟩ := list_ok (enc := recsB) (P := fun (_ : Unit) r => SmL r) (fun _ _ _ _ h hL => ⟨(recsL_ok h hL).1, recsL_small h hL⟩) h hL
  exact ⟨h2, fun r hr => by obtain ⟨j, hj, rfl⟩ := List.getElem_of_mem hr; exact h3 j _ (List.getElem?_eq_getElem hj)⟩
end Go.Proofs.Ytikfpoabaaiegaa
