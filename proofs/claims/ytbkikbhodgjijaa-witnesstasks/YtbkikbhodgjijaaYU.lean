import Derived.Test.YtbkikbhodgjijaaYT
namespace Go.Proofs.Ytbkikbhodgjijaa
open Go.RowKit
set_option maxRecDepth 8000

/-- what Split answers, its rows apart -/
def SplitP (l : LT TR) (n i : Int) (w : World) (e : Ending) (w' : World) : Prop := ∃ (v1 v2 : Value) (err : Int) (xs ys : List EV), SplitS l n i err xs ys ∧ e = .returned (.tuple #[v1, v2, .int .i64 err]) ∧ EvRow w.heap.size w' v1 xs ∧ EvRow w.heap.size w' v2 ys ∧ (∀ x, v1.ownBlock = some x → v2.ownBlock ≠ some x) ∧ Below w.heap.size w w'
set_option maxHeartbeats 8000000 in
theorem split_any (l : LT TR) (i n : Int) (w : World) (S : Nat → Prop) (hl : LT.In elTr w S l) (h47 : l.n * 32 ≤ 140737488355328) :
    Calls Try.prog 11 #[.slice l.p l.n l.c, .int .i64 i, .int .i64 n] w fun e w' => SplitP l n i w e w' := by
  have HC := hid (cutOf_any l i n w S hl h47)
  clear hl h47
  go_enter Try.func11, Try.ntmps11
  go_wp2_with fail
  refine HC.out.mono ?_
  rintro e W1 ⟨hb1, hq⟩
  have HB1 := hid hb1
  clear hb1 HC
  rcases hq with ⟨err, he, hS, rfl⟩ | ⟨a, b, m, pa, pe, ca, ce, v1, v2, h0, h1, h2, rfl, h4, h5, h6, h7, h8⟩
  · have HS := hid hS
    have he1 : (err != 0) = true := by simpa using he
    clear hS he
    go_wp2
    exact bodyPost_ret (v := .tuple #[.slice none 0 0, .slice none 0 0, .int .i64 err]) (by simp [results, Try.results11, go_sem]) rfl ⟨_, _, err, [], [], HS.out, rfl, EvRow.nil _ _, EvRow.nil _ _, fun x hx => (by cases hx), HB1.out.trans ((below1 _ _).mono HB1.out.size)⟩
  · obtain ⟨p1, c1, hv1⟩ := ownsRow_slice h6
    obtain ⟨p2, c2, hv2⟩ := ownsRow_slice h7
    subst hv1
    subst hv2
    obtain ⟨n1, hn1⟩ : ∃ n1, n1 = (evsF l.item (befP l.item m true) a (b - a)).length := ⟨_, rfl⟩
    obtain ⟨n2, hn2⟩ : ∃ n2, n2 = (evsF l.item (befP l.item m false) a (b - a)).length := ⟨_, rfl⟩
    rw [← hn1] at h6 h8 ⊢
    rw [← hn2] at h7 h8 ⊢
    obtain ⟨bg, hbg⟩ : ∃ bg, bg = beganOf l.item a := ⟨_, rfl⟩
    rw [← hbg]
    obtain ⟨W2, hW2⟩ : ∃ X, X = W1.alloc (.cells #[.int .i64 bg, .slice pa (a - 1) ca, .slice pe (b - a) ce, .slice p1 n1 c1, .slice p2 n2 c2] 61) := ⟨_, rfl⟩
    have hb12 : Below W1.heap.size W1 W2 := by rw [hW2]; exact below1 _ _
    have bx : Box W2 W1.heap.size #[.int .i64 bg, .slice pa (a - 1) ca, .slice pe (b - a) ce, .slice p1 n1 c1, .slice p2 n2 c2] 61 := by rw [hW2]; exact Box.new _ _ _
    have x3 := bx.cell 3
    have x4 := bx.cell 4
    simp at x3 x4
    have HH := hid (And.intro h0 (And.intro h1 (And.intro h2 (And.intro (h6.below hb12) (And.intro (h7.below hb12) h8)))))
    have HB2 : Hid (Below w.heap.size w W2) := HB1.out.trans (hb12.mono HB1.out.size)
    have HW2 := hid hW2
    clear h0 h1 h2 h4 h5 h6 h7 h8 hbg hn1 hn2 hW2 hb12 bx
    go_upto_region 2 with fail
    rw [← HW2.out]
    go_upto_region 4 with fail
    refine wp_region_calmE 30 (fun wx => Below W2.heap.size W2 wx) [(0, true), (1, false), (2, true), (3, false), (4, true), (5, true), (6, true)] .done (by kernel_rfl) (by kernel_rfl) (Below.refl _ _).drew ?_
    refine wpPre_e rfl rfl (fun K1 hK1 => ?_)
    apply Exists.intro
    refine And.intro (fun wx hx => ?_) ?_
    · go_simp
      try rfl
    go_simp
    refine hK1 _ ?_
    clear hK1 K1
    refine wpPre_e rfl rfl (fun K1 hK1 => ?_)
    apply Exists.intro
    refine And.intro (fun wx hx => ?_) ?_
    · have e0 := below_fact hx rfl x3
      have e1 := below_fact hx rfl x4
      go_simp
      try rfl
    go_simp
    refine hK1 _ ?_
    clear hK1 K1
    refine wpPre_e rfl rfl (fun K1 hK1 => ?_)
    apply Exists.intro
    refine And.intro (fun wx hx => ?_) ?_
    · go_simp
      try rfl
    go_simp
    refine hK1 _ ?_
    clear hK1 K1
    refine wpPre_e rfl rfl (fun K1 hK1 => ?_)
    apply Exists.intro
    refine And.intro (fun wx hx => ?_) ?_
    · have e0 := below_fact hx rfl x3
      have e1 := below_fact hx rfl x4
      go_simp
      try rfl
    go_simp
    refine hK1 _ ?_
    clear hK1 K1
    refine wpPre_e rfl rfl (fun K1 hK1 => ?_)
    apply Exists.intro
    refine And.intro (fun wx hx => ?_) ?_
    · go_simp
      try rfl
    go_simp
    refine hK1 _ ?_
    clear hK1 K1
    refine wpPre_e rfl rfl (fun K1 hK1 => ?_)
    apply Exists.intro
    refine And.intro (fun wx hx => ?_) ?_
    · go_simp
      try rfl
    go_simp
    refine hK1 _ ?_
    clear hK1 K1
    refine wpPre_e rfl rfl (fun K1 hK1 => ?_)
    apply Exists.intro
    refine And.intro (fun wx hx => ?_) ?_
    · go_simp
      try rfl
    go_simp
    refine hK1 _ ?_
    clear hK1 K1
    refine wpPre_nil ?_
    refine wpTr_done ?_
    go_wp2
    obtain ⟨h0, h1, h2, h6, h7, h8⟩ := HH.out
    exact bodyPost_ret (v := .tuple #[.slice p1 n1 c1, .slice p2 n2 c2, .int .i64 0]) (by simp [results, Try.results11, go_sem]) rfl ⟨_, _, 0, _, _, .inr (.inr (.inr ⟨h0, a, b, m, h1, h2, rfl, rfl, rfl⟩)), rfl, h6.below (Below.refl _ _).drew, h7.below (Below.refl _ _).drew, h8, HB2.out.drew⟩
set_option maxHeartbeats 8000000 in
/-- sameEvents of the same events -/
theorem sameEvents_yes (A B : LT EV) (w : World) (S : Nat → Prop) (hA : LT.In elEv w S A) (hB : LT.In elEv w S B) (hn : A.n = B.n) (he : ∀ j, j < A.n → A.item j = B.item j) :
    Calls Try.prog 14 #[.slice A.p A.n A.c, .slice B.p B.n B.c] w fun e w' => e = .returned (.bool true) ∧ Below w.heap.size w w' := by
  have hnn := hA.nn
  have HA := hid hA
  have HBl := hid hB
  have HE := hid he
  have HN := hid hn
  rw [← hn]
  clear hA hB he hn
  go_enter Try.func14, Try.ntmps14
  go_wp2_with fail
  go_loopw [5] (fun x wr => ∃ k : Nat, k ≤ A.n ∧ x = .int .i64 (k : Int) ∧ Below w.heap.size w wr) (fun x _ => A.n - (intOf x).toNat)
  case atStart => exact ⟨0, Nat.zero_le _, rfl, Below.refl _ _⟩
  case round =>
    obtain ⟨k, hk, rfl, hb⟩ := hrel
    have HB := hid hb
    clear hb
    by_cases hlt : k < A.n
    · have hlt' : (k : Int) < (A.n : Int) := by omega
      obtain ⟨b1, o1, hp, _, hl1, ha⟩ := (HA.out.below HB.out).ev (by omega)
      obtain ⟨b2, o2, hp2, _, hl2, ha2⟩ := (HBl.out.below HB.out).ev (by have := HN.out; omega)
      obtain ⟨a0, a1⟩ := ha k hlt
      obtain ⟨c0, c1⟩ := ha2 k (by have := HN.out; omega)
      rw [← HE.out k hlt] at c0 c1
      rw [hp, hp2]
      clear ha ha2 hp hp2
      go_upto_region 6 with fail
      refine wp_region_calmE 30 (fun wx => Below wr.heap.size wr wx) [(0, true), (1, true), (2, true), (3, false), (4, true), (5, true), (6, true), (7, false), (8, true)] .done (by kernel_rfl) (by kernel_rfl) (Below.refl _ _).drew ?_
      refine wpPre_e rfl rfl (fun K1 hK1 => ?_)
      apply Exists.intro
      refine And.intro (fun wx hx => ?_) ?_
      · go_simp
        try rfl
      go_simp
      refine hK1 _ ?_
      clear hK1 K1
      refine wpPre_e rfl rfl (fun K1 hK1 => ?_)
      apply Exists.intro
      refine And.intro (fun wx hx => ?_) ?_
      · go_simp
        try rfl
      go_simp
      refine hK1 _ ?_
      clear hK1 K1
      refine wpPre_e rfl rfl (fun K1 hK1 => ?_)
      apply Exists.intro
      refine And.intro (fun wx hx => ?_) ?_
      · go_simp
        try rfl
      go_simp
      refine hK1 _ ?_
      clear hK1 K1
      refine wpPre_e rfl rfl (fun K1 hK1 => ?_)
      apply Exists.intro
      refine And.intro (fun wx hx => ?_) ?_
      · have e0 := below_fact hx rfl a0
        have e1 := below_fact hx rfl a1
        have e2 := below_fact hx rfl c0
        have e3 := below_fact hx rfl c1
        go_simp
        try rfl
      go_simp
      refine hK1 _ ?_
      clear hK1 K1
      refine wpPre_e rfl rfl (fun K1 hK1 => ?_)
      apply Exists.intro
      refine And.intro (fun wx hx => ?_) ?_
      · go_simp
        try rfl
      go_simp
      refine hK1 _ ?_
      clear hK1 K1
      refine wpPre_e rfl rfl (fun K1 hK1 => ?_)
      apply Exists.intro
      refine And.intro (fun wx hx => ?_) ?_
      · go_simp
        try rfl
      go_simp
      refine hK1 _ ?_
      clear hK1 K1
      refine wpPre_e rfl rfl (fun K1 hK1 => ?_)
      apply Exists.intro
      refine And.intro (fun wx hx => ?_) ?_
      · go_simp
        try rfl
      go_simp
      refine hK1 _ ?_
      clear hK1 K1
      refine wpPre_e rfl rfl (fun K1 hK1 => ?_)
      apply Exists.intro
      refine And.intro (fun wx hx => ?_) ?_
      · have e0 := below_fact hx rfl a0
        have e1 := below_fact hx rfl a1
        have e2 := below_fact hx rfl c0
        have e3 := below_fact hx rfl c1
        go_simp
        try rfl
      go_simp
      refine hK1 _ ?_
      clear hK1 K1
      refine wpPre_e rfl rfl (fun K1 hK1 => ?_)
      apply Exists.intro
      refine And.intro (fun wx hx => ?_) ?_
      · go_simp
        try rfl
      go_simp
      refine hK1 _ ?_
      clear hK1 K1
      refine wpPre_nil ?_
      refine wpTr_done ?_
      go_wp2
      go_roundw
      case rel => exact ⟨k + 1, by omega, by go_num, HB.out.drew⟩
      case measure => simp [intOf]; omega
    · obtain rfl : k = A.n := by omega
      go_wp2
      go_ret
      exact ⟨rfl, HB.out⟩
/-- of two rows with the same events -/
theorem sameRows (v1 v2 : Value) (xs : List EV) (w : World) (b1 b2 : Nat) (h1 : EvRow b1 w v1 xs) (h2 : EvRow b2 w v2 xs) (hx : xs.length ≤ 140737488355328) :
    Calls Try.prog 14 #[v1, v2] w fun e w' => e = .returned (.bool true) ∧ Below w.heap.size w w' := by
  obtain ⟨p1, c1, rfl, hA⟩ := h1.in_ hx
  obtain ⟨p2, c2, rfl, hB⟩ := h2.in_ hx
  exact sameEvents_yes ⟨p1, xs.length, c1, _⟩ ⟨p2, xs.length, c2, _⟩ w (fun _ => True) (hA.mono fun _ _ _ => trivial) (hB.mono fun _ _ _ => trivial) rfl (fun _ _ => rfl)
end Go.Proofs.Ytbkikbhodgjijaa
