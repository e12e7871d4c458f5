import Derived.Test.YtdpfgflofjiheaaPack31
namespace Go.Proofs.Ytdpfgflofjiheaa
open Go.RowKit
set_option maxRecDepth 8000

/-- what Split answers, its rows apart -/
def SplitP (l : LT TR) (n i : Int) (w : World) (e : Ending) (w' : World) : Prop := ∃ (v1 v2 : Value) (err : Int) (xs ys : List EV), SplitS l n i err xs ys ∧ e = .returned (.tuple #[v1, v2, .int .i64 err]) ∧ EvRow w.heap.size w' v1 xs ∧ EvRow w.heap.size w' v2 ys ∧ (∀ x, v1.ownBlock = some x → v2.ownBlock ≠ some x) ∧ Below w.heap.size w w'
set_option maxHeartbeats 8000000 in
theorem split_any (l : LT TR) (i n : Int) (w : World) (S : Nat → Prop) (hl : LT.In elTr w S l) (h47 : l.n * 32 ≤ 140737488355328) :
    Calls Try.prog 11 #[.slice l.p l.n l.c, .int .i64 i, .int .i64 n] w fun e w' => SplitP l n i w e w' := by
  have HC := hid (cutOf_any l i n w S hl h47)
  clear hl h47
  go_enter Try.func11, Try.ntmps11
  go_wp2_with fail
  refine HC.out.mono ?_
  rintro e W1 ⟨hb1, hq⟩
  have HB1 := hid hb1
  clear hb1 HC
  rcases hq with ⟨err, he, hS, rfl⟩ | ⟨a, b, m, pa, pe, ca, ce, v1, v2, h0, h1, h2, rfl, h4, h5, h6, h7, h8⟩
  · have HS := hid hS
    have he1 : (err != 0) = true := by simpa using he
    clear hS he
    go_wp2
    exact bodyPost_ret (v := .tuple #[.slice none 0 0, .slice none 0 0, .int .i64 err]) (by simp [results, Try.results11, go_sem]) rfl ⟨_, _, err, [], [], HS.out, rfl, EvRow.nil _ _, EvRow.nil _ _, fun x hx => (by cases hx), HB1.out.trans ((below1 _ _).mono HB1.out.size)⟩
  · obtain ⟨p1, c1, hv1⟩ := ownsRow_slice h6
    obtain ⟨p2, c2, hv2⟩ := ownsRow_slice h7
    subst hv1
    subst hv2
    obtain ⟨n1, hn1⟩ : ∃ n1, n1 = (evsF l.item (befP l.item m true) a (b - a)).length := ⟨_, rfl⟩
    obtain ⟨n2, hn2⟩ : ∃ n2, n2 = (evsF l.item (befP l.item m false) a (b - a)).length := ⟨_, rfl⟩
    rw [← hn1] at h6 h8 ⊢
    rw [← hn2] at h7 h8 ⊢
    obtain ⟨bg, hbg⟩ : ∃ bg, bg = beganOf l.item a := ⟨_, rfl⟩
    rw [← hbg]
    obtain ⟨W2, hW2⟩ : ∃ X, X = W1.alloc (.cells #[.int .i64 bg, .slice pa (a - 1) ca, .slice pe (b - a) ce, .slice p1 n1 c1, .slice p2 n2 c2] 61) := ⟨_, rfl⟩
    have hb12 : Below W1.heap.size W1 W2 := by rw [hW2]; exact below1 _ _
    have bx : Box W2 W1.heap.size #[.int .i64 bg, .slice pa (a - 1) ca, .slice pe (b - a) ce, .slice p1 n1 c1, .slice p2 n2 c2] 61 := by rw [hW2]; exact Box.new _ _ _
    have x3 := bx.cell 3
    have x4 := bx.cell 4
    simp at x3 x4
    have HH := hid (And.intro h0 (And.intro h1 (And.intro h2 (And.intro (h6.below hb12) (And.intro (h7.below hb12) h8)))))
    have HB2 : Hid (Below w.heap.size w W2) := HB1.out.trans (hb12.mono HB1.out.size)
    have HW2 := hid hW2
    clear h0 h1 h2 h4 h5 h6 h7 h8 hbg hn1 hn2 hW2 hb12 bx
    go_upto_region 2 with fail
    rw [← HW2.out]
    go_upto_region 4 with fail
    refine wp_region_calmE 30 (fun wx => Below W2.heap.size W2 wx) [(0, true), (1, false), (2, true), (3, false), (4, true), (5, true), (6, true)] .done (by kernel_rfl) (by kernel_rfl) (Below.refl _ _).drew ?_
    refine wpPre_e rfl rfl (fun K1 hK1 => ?_)
    apply Exists.intro
    refine And.intro (fun wx hx => ?_) ?_
    · go_simp
      try rfl
    go_simp
    refine hK1 _ ?_
    clear hK1 K1
    refine wpPre_e rfl rfl (fun K1 hK1 => ?_)
    apply Exists.intro
    refine And.intro (fun wx hx => ?_) ?_
    · have e0 := below_fact hx rfl x3
      have e1 := below_fact hx rfl x4
      go_simp
      try rfl
    go_simp
    refine hK1 _ ?_
    clear hK1 K1
    refine wpPre_e rfl rfl (fun K1 hK1 => ?_)
    apply Exists.intro
    refine And.intro (fun wx hx => ?_) ?_
    · go_simp
      try rfl
    go_simp
    refine hK1 _ ?_
    clear hK1 K1
    refine wpPre_e rfl rfl (fun K1 hK1 => ?_)
    apply Exists.intro
    refine And.intro (fun wx hx => ?_) ?_
    · have e0 := below_fact hx rfl x3
      have e1 := below_fact hx rfl x4
      go_simp
      try rfl
    go_simp
    refine hK1 _ ?_
    clear hK1 K1
    refine wpPre_e rfl rfl (fun K1 hK1 => ?_)
    apply Exists.intro
    refine And.intro (fun wx hx => ?_) ?_
    · go_simp
      try rfl
    go_simp
    refine hK1 _ ?_
    clear hK1 K1
    refine wpPre_e rfl rfl (fun K1 hK1 => ?_)
    apply Exists.intro
    refine And.intro (fun wx hx => ?_) ?_
    · go_simp
      try rfl
    go_simp
    refine hK1 _ ?_
    clear hK1 K1
    refine wpPre_e rfl rfl (fun K1 hK1 => ?_)
    apply Exists.intro
    refine And.intro (fun wx hx => ?_) ?_
    · go_simp
      try rfl
    go_simp
    refine hK1 _ ?_
    clear hK1 K1
    refine wpPre_nil ?_
    refine wpTr_done ?_
    go_wp2
    obtain ⟨h0, h1, h2, h6, h7, h8⟩ := HH.out
    exact bodyPost_ret (v := .tuple #[.slice p1 n1 c1, .slice p2 n2 c2, .int .i64 0]) (by simp [results, Try.results11, go_sem]) rfl ⟨_, _, 0, _, _, .inr (.inr (.inr ⟨h0, a, b, m, h1, h2, rfl, rfl, rfl⟩)), rfl, h6.below (Below.refl _ _).drew, h7.below (Below.refl _ _).drew, h8, HB2.out.drew⟩
set_option maxHeartbeats 8000000 in
/-- sameEvents of the same events -/
theorem sameEvents_yes (A B : LT EV) (w : World) (S : Nat → Prop) (hA : LT.In elEv w S A) (hB : LT.In elEv w S B) (hn : A.n = B.n) (he : ∀ j, j < A.n → A.item j = B.item j) :
    Calls Try.prog 14 #[.slice A.p A.n A.c, .slice B.p B.n B.c] w fun e w' => e = .returned (.bool true) ∧ Below w.heap.size w w' := by
  have hnn := hA.nn
  have HA := hid hA
  have HBl := hid hB
  have HE := hid he
  have HN := hid hn
  rw [← hn]
  clear hA hB he hn
  go_enter Try.func14, Try.ntmps14
  go_wp2_with fail
  go_loopw [5] (fun x wr => ∃ k : Nat, k ≤ A.n ∧ x = .int .i64 (k : Int) ∧ Below w.heap.size w wr) (fun x _ => A.n - (intOf x).toNat)
  case atStart => exact ⟨0, Nat.zero_le _, rfl, Below.refl _ _⟩
  case round =>
    obtain ⟨k, hk, rfl, hb⟩ := hrel
    have HB := hid hb
    clear hb
    by_cases hlt : k < A.n
    · have hlt' : (k : Int) < (A.n : Int) := by omega
      obtain ⟨b1, o1, hp, _, hl1, ha⟩ := (HA.out.below HB.out).ev (by omega)
      obtain ⟨b2, o2, hp2, _, hl2, ha2⟩ := (HBl.out.below HB.out).ev (by have := HN.out; omega)
      obtain ⟨a0, a1⟩ := ha k hlt
      obtain ⟨c0, c1⟩ := ha2 k (by have := HN.out; omega)
      rw [← HE.out k hlt] at c0 c1
      rw [hp, hp2]
      clear ha ha2 hp hp2
      go_upto_region 6 with fail
      refine wp_region_calmE 30 (fun wx => Below wr.heap.size wr wx) [(0, true), (1, true), (2, true), (3, false), (4, true), (5, true), (6, true), (7, false), (8, true)] .done (by kernel_rfl) (by kernel_rfl) (Below.refl _ _).drew ?_
      refine wpPre_e rfl rfl (fun K1 hK1 => ?_)
      apply Exists.intro
      refine And.intro (fun wx hx => ?_) ?_
      · go_simp
        try rfl
      go_simp
      refine hK1 _ ?_
      clear hK1 K1
      refine wpPre_e rfl rfl (fun K1 hK1 => ?_)
      apply Exists.intro
      refine And.intro (fun wx hx => ?_) ?_
      · go_simp
        try rfl
      go_simp
      refine hK1 _ ?_
      clear hK1 K1
      refine wpPre_e rfl rfl (fun K1 hK1 => ?_)
      apply Exists.intro
      refine And.intro (fun wx hx => ?_) ?_
      · go_simp
        try rfl
      go_simp
      refine hK1 _ ?_
      clear hK1 K1
      refine wpPre_e rfl rfl (fun K1 hK1 => ?_)
      apply Exists.intro
      refine And.intro (fun wx hx => ?_) ?_
      · have e0 := below_fact hx rfl a0
        have e1 := below_fact hx rfl a1
        have e2 := below_fact hx rfl c0
        have e3 := below_fact hx rfl c1
        go_simp
        try rfl
      go_simp
      refine hK1 _ ?_
      clear hK1 K1
      refine wpPre_e rfl rfl (fun K1 hK1 => ?_)
      apply Exists.intro
      refine And.intro (fun wx hx => ?_) ?_
      · go_simp
        try rfl
      go_simp
      refine hK1 _ ?_
      clear hK1 K1
      refine wpPre_e rfl rfl (fun K1 hK1 => ?_)
      apply Exists.intro
      refine And.intro (fun wx hx => ?_) ?_
      · go_simp
        try rfl
      go_simp
      refine hK1 _ ?_
      clear hK1 K1
      refine wpPre_e rfl rfl (fun K1 hK1 => ?_)
      apply Exists.intro
      refine And.intro (fun wx hx => ?_) ?_
      · go_simp
        try rfl
      go_simp
      refine hK1 _ ?_
      clear hK1 K1
      refine wpPre_e rfl rfl (fun K1 hK1 => ?_)
      apply Exists.intro
      refine And.intro (fun wx hx => ?_) ?_
      · have e0 := below_fact hx rfl a0
        have e1 := below_fact hx rfl a1
        have e2 := below_fact hx rfl c0
        have e3 := below_fact hx rfl c1
        go_simp
        try rfl
      go_simp
      refine hK1 _ ?_
      clear hK1 K1
      refine wpPre_e rfl rfl (fun K1 hK1 => ?_)
      apply Exists.intro
      refine And.intro (fun wx hx => ?_) ?_
      · go_simp
        try rfl
      go_simp
      refine hK1 _ ?_
      clear hK1 K1
      refine wpPre_nil ?_
      refine wpTr_done ?_
      go_wp2
      go_roundw
      case rel => exact ⟨k + 1, by omega, by go_num, HB.out.drew⟩
      case measure => simp [intOf]; omega
    · obtain rfl : k = A.n := by omega
      go_wp2
      go_ret
      exact ⟨rfl, HB.out⟩
/-- of two rows with the same events -/
theorem sameRows (v1 v2 : Value) (xs : List EV) (w : World) (b1 b2 : Nat) (h1 : EvRow b1 w v1 xs) (h2 : EvRow b2 w v2 xs) (hx : xs.length ≤ 140737488355328) :
    Calls Try.prog 14 #[v1, v2] w fun e w' => e = .returned (.bool true) ∧ Below w.heap.size w w' := by
  obtain ⟨p1, c1, rfl, hA⟩ := h1.in_ hx
  obtain ⟨p2, c2, rfl, hB⟩ := h2.in_ hx
  exact sameEvents_yes ⟨p1, xs.length, c1, _⟩ ⟨p2, xs.length, c2, _⟩ w (fun _ => True) (hA.mono fun _ _ _ => trivial) (hB.mono fun _ _ _ => trivial) rfl (fun _ _ => rfl)
end Go.Proofs.Ytdpfgflofjiheaa

namespace Go.Proofs.Ytdpfgflofjiheaa
open Go.RowKit
set_option maxRecDepth 8000
theorem LT.In.src {α : Type} {E : El α} {w : World} {S : Nat → Prop} {l : LT α} (h : LT.In E w S l) : Src w l.p l.n l.c E.size ((List.range l.n).flatMap fun j => E.cells (l.item j)) := by
  cases hp : l.p with
  | none =>
    obtain ⟨h1, h2⟩ := h.nil hp
    rw [h1, h2]
    exact .inl ⟨rfl, rfl, rfl, rfl⟩
  | some ad =>
    refine .inr ⟨ad, rfl, range_flat_len E l.item l.n, fun j u hu => ?_⟩
    have hj : j < l.n * E.size := by
      rcases Nat.lt_or_ge j (l.n * E.size) with h1 | h1
      · exact h1
      · rw [List.getElem?_eq_none (by rw [range_flat_len]; exact h1)] at hu; cases hu
    have hs : 0 < E.size := by
      rcases Nat.eq_zero_or_pos E.size with h1 | h1
      · rw [h1] at hj; omega
      · exact h1
    have hq : j / E.size < l.n := Nat.div_lt_of_lt_mul (by rw [Nat.mul_comm]; exact hj)
    have hr : j % E.size < E.size := Nat.mod_lt _ hs
    have e : j / E.size * E.size + j % E.size = j := by rw [Nat.mul_comm]; exact Nat.div_add_mod j E.size
    obtain ⟨b, o, e1, _, _, ha⟩ := h.at_ (Nat.lt_of_le_of_lt (Nat.zero_le _) hq)
    rw [hp] at e1
    cases e1
    rw [← e, range_flat_get E l.item l.n _ _ hq hr] at hu
    have := ha _ hq _ u hu
    rw [Nat.add_assoc, e] at this
    rw [Go.WideShapes.add_plain]
    exact this
theorem oneTr (l : LT TR) : ∀ u ∈ ((List.range l.n).flatMap fun j => elTr.cells (l.item j)), u.oneCell' = true := by
  intro u hu
  obtain ⟨j, _, hj⟩ := List.mem_flatMap.1 hu
  exact elTr.one _ u hj
/-- a row that was appended to nothing, as a list -/
theorem copied_in {base : Nat} {w : World} {v : Value} {l : LT TR} (hl : l.n ≤ 140737488355328) (h : w.ownsRow base 37 4 v l.n ((List.range l.n).flatMap fun j => elTr.cells (l.item j))) : ∃ p c, v = .slice p l.n c ∧ LT.In elTr w (fun b => base ≤ b) ⟨p, l.n, c, l.item⟩ := by
  exact OwnL.in_ (E := elTr) ⟨h, fun _ _ => trivial⟩ hl
theorem SplitS.len {l : LT TR} {n i e : Int} {xs ys : List EV} (h : SplitS l n i e xs ys) : xs.length ≤ l.n ∧ ys.length ≤ l.n := by
  rcases h with ⟨_, _, rfl, rfl⟩ | ⟨_, _, _, rfl, rfl⟩ | ⟨_, _, _, _, _, _, rfl, rfl⟩ | ⟨_, a, b, m, h, _, _, rfl, rfl⟩
  · exact ⟨Nat.zero_le _, Nat.zero_le _⟩
  · exact ⟨Nat.zero_le _, Nat.zero_le _⟩
  · exact ⟨Nat.zero_le _, Nat.zero_le _⟩
  · have := h.bn
    have h1 := evsF_len l.item (befP l.item m true) a (b - a)
    have h2 := evsF_len l.item (befP l.item m false) a (b - a)
    exact ⟨by omega, by omega⟩
set_option maxHeartbeats 8000000 in
theorem witnessSplit_walk (l : LT TR) (i n : Int) (w : World) (hl : LT.In elTr w (fun b => b < w.heap.size) l) (h47 : l.n * 32 ≤ 140737488355328) :
    Calls Try.prog 6 #[.slice l.p l.n l.c, .int .i64 i, .int .i64 n] w fun e w' => e = .returned (.bool true) ∧ Below w.heap.size w w' := by
  have hnn := hl.nn
  obtain ⟨i0, Kd⟩ := kindTr
  have HKd := hid Kd
  have HSrc := hid hl.src
  have HL := hid hl
  have H47 := hid h47
  clear hl Kd h47
  have hb47 : (0 + l.n) * 32 ≤ 140737488355328 := by have := H47.out; omega
  go_enter Try.func6, Try.ntmps6
  go_wp2_with (at_builtin; refine wpList_appS rfl (.const (.slice none 0 0)) (.tmp 14) 22 37 i0 _ 4 32 HKd.out rfl w.heap.size (.slice none 0 0) 0 [] rfl (World.ownsRow_nil _ _ _ _) l.p l.n l.c _ rfl HSrc.out (oneTr l) (by omega) hb47 (Nat.le_refl _) ?_)
  intro v1 w1 ho1 hg1 _
  obtain ⟨p1, c1, rfl, hin1⟩ := copied_in hnn ho1
  have hb1 : Below w.heap.size w w1 := (Below.refl _ _).grown hg1 (Nat.le_refl _) (fun k hk => by cases hk)
  have HSp := hid (split_any ⟨p1, l.n, c1, l.item⟩ i n w1 _ hin1 H47.out)
  dsimp only at HSp
  have HB1 := hid hb1
  clear ho1 hg1 hb1 hin1
  go_wp2_with fail
  refine HSp.out.mono ?_
  rintro e w2 ⟨v1, v2, err, xs, ys, hS, rfl, hr1, hr2, _, hb2⟩
  have hb02 : Below w.heap.size w w2 := HB1.out.trans (hb2.mono HB1.out.size)
  have HRs := hid (rsplit_any l i n w2 _ (HL.out.below hb02) H47.out)
  have HB02 := hid hb02
  have HR1 := hid hr1
  have HR2 := hid hr2
  have HS := hid hS
  clear hb2 hb02 hr1 hr2 hS HSp
  go_wp2_with fail
  refine HRs.out.mono ?_
  rintro e w3 ⟨u1, u2, err', xs', ys', hS', rfl, hq1, hq2, hb3⟩
  obtain ⟨rfl, rfl, rfl⟩ := SplitS.uniq HS.out hS'
  obtain ⟨hx1, hy1⟩ := hS'.len
  have hb03 : Below w.heap.size w w3 := HB02.out.trans (hb3.mono HB02.out.size)
  have HC1 := hid (sameRows v1 u1 xs w3 _ _ (HR1.out.below hb3) hq1 (by omega))
  have HC2 := fun (w4 : World) (h4 : Below w3.heap.size w3 w4) => hid (sameRows v2 u2 ys w4 _ _ ((HR2.out.below hb3).below h4) (hq2.below h4) (by omega))
  have HB03 := hid hb03
  have herr : (err == err) = true := by simp
  clear hS' hq1 hq2 hb3 hb03 hx1 hy1 HRs
  go_wp2_with fail
  refine HC1.out.mono ?_
  rintro e w4 ⟨rfl, hb4⟩
  have HC2' := HC2 w4 hb4
  have HB04 : Hid (Below w.heap.size w w4) := HB03.out.trans (hb4.mono HB03.out.size)
  clear hb4 HC1 HC2
  go_wp2_with fail
  refine HC2'.out.mono ?_
  rintro e w5 ⟨rfl, hb5⟩
  have HB05 : Hid (Below w.heap.size w w5) := HB04.out.trans (hb5.mono HB04.out.size)
  clear hb5 HC2'
  go_wp2
  go_ret
  exact ⟨rfl, HB05.out⟩
end Go.Proofs.Ytdpfgflofjiheaa
