import Derived.Test.YtdncnnjhfipokaaKrA
namespace Go.Proofs.Ytdncnnjhfipokaa
open Go.RowKit
set_option maxRecDepth 8000
/-- the first place -/
def cln (f : Nat → Bool) : Nat → Int
  | 0 => -1
  | n + 1 => if 0 ≤ cln f n then cln f n else if f n then (n : Int) else -1
theorem cln_none {f : Nat → Bool} : ∀ {k : Nat}, (∀ j, j < k → f j = false) → cln f k = -1
  | 0, _ => rfl
  | k + 1, h => by
    have := cln_none (f := f) (k := k) (fun j hj => h j (by omega))
    simp only [cln, this, h k (by omega)]
    rfl
theorem cln_hit {f : Nat → Bool} {k : Nat} (h : ∀ j, j < k → f j = false) (hk : f k = true) : ∀ {n : Nat}, k < n → cln f n = (k : Int)
  | 0, hn => absurd hn (by omega)
  | n + 1, hn => by
    by_cases e : k = n
    · subst e
      simp only [cln, cln_none h, hk]
      simp
    · have := cln_hit h hk (n := n) (by omega)
      simp only [cln, this]
      rw [if_pos (by omega)]
theorem cln_range (f : Nat → Bool) : ∀ n : Nat, cln f n = -1 ∨ (0 ≤ cln f n ∧ cln f n < (n : Int))
  | 0 => .inl rfl
  | n + 1 => by
    simp only [cln]
    rcases cln_range f n with h | h
    · rw [h]
      rw [if_neg (by omega)]
      split
      · right; omega
      · left; rfl
    · rw [if_pos h.1]; right; omega
theorem cln_congr {f g : Nat → Bool} : ∀ {n : Nat}, (∀ j, j < n → f j = g j) → cln f n = cln g n
  | 0, _ => rfl
  | n + 1, h => by simp only [cln, cln_congr (n := n) (fun j hj => h j (by omega)), h n (by omega)]
theorem cln_at {f : Nat → Bool} : ∀ {n : Nat}, 0 ≤ cln f n → f (cln f n).toNat = true
  | 0, h => absurd (show (0 : Int) ≤ -1 from h) (by decide)
  | n + 1, h => by
    simp only [cln] at h ⊢
    by_cases h1 : 0 ≤ cln f n
    · rw [if_pos h1] at h ⊢; exact cln_at h1
    · rw [if_neg h1] at h ⊢
      by_cases h2 : f n = true
      · rw [if_pos h2]; simpa using h2
      · rw [if_neg h2] at h; exact absurd h (by decide)
def Rb.hit (R : Rb) (p : Int) (i : Nat) : Bool := ((R.ls.item i).mark == R.last) && (decide (0 < (R.ls.item i).mark) && ((R.ls.item i).port == p))
def Rb.cl (R : Rb) (p : Int) : Int := cln (R.hit p) R.ls.n
def Rb.cpg (R : Rb) : Nat → Int
  | 0 => 0
  | p + 1 => if (p : Int) = R.back then R.cpg p else if R.cpg p < 0 then -1 else if R.cl (p : Int) < 0 then -1 else max (R.cpg p) (R.cl (p : Int))
def Rb.cp (R : Rb) : Int := if R.ls.n = 0 then -1 else if R.mode ≠ 1 then 0 else R.cpg R.ports.toNat
theorem Rb.cpg_neg {R : Rb} {p : Nat} (h : R.cpg p = -1) : ∀ {q : Nat}, p ≤ q → R.cpg q = -1
  | 0, hq => by
    obtain rfl : p = 0 := by omega
    exact h
  | q + 1, hq => by
    by_cases e : p = q + 1
    · subst e; exact h
    · have := Rb.cpg_neg h (q := q) (by omega)
      simp only [Rb.cpg, this]
      split
      · rfl
      · rfl
theorem Rb.cpg_range (R : Rb) : ∀ p : Nat, R.cpg p = -1 ∨ 0 ≤ R.cpg p
  | 0 => .inr (Int.le_refl _)
  | p + 1 => by
    simp only [Rb.cpg]
    rcases Rb.cpg_range R p with h | h
    · split
      · exact .inl h
      · rw [if_pos (by omega)]; exact .inl rfl
    · split
      · exact .inr h
      · rw [if_neg (by omega)]
        split
        · exact .inl rfl
        · right; omega
theorem Rb.cp_range (R : Rb) : R.cp = -1 ∨ 0 ≤ R.cp := by
  unfold Rb.cp
  split
  · exact .inl rfl
  · split
    · exact .inr (Int.le_refl _)
    · exact R.cpg_range _
theorem Rb.cl_range (R : Rb) (p : Int) : R.cl p = -1 ∨ (0 ≤ R.cl p ∧ R.cl p < (R.ls.n : Int)) := cln_range _ _
set_option maxHeartbeats 4000000 in
theorem closed_any (p : Int) (w : World) (rb : Nat) (R : Rb) (hI : RbI w rb R) (hn : R.ls.n ≤ 100000) : Calls Try.prog 63 #[.pointer (some ⟨rb, 0, none⟩), .int .i64 p] w fun e w' => e = .returned (.int .i64 (R.cl p)) ∧ Below w.heap.size w w' := by
  have HI := hid hI
  have HL := hid (hI.list hn)
  clear hI
  go_enter Try.func63, Try.ntmps63
  go_wp2_with fail
  go_loopw [5] (fun x wr => ∃ k : Nat, k ≤ R.ls.n ∧ x = .int .i64 (k : Int) ∧ (∀ j, j < k → R.hit p j = false) ∧ Below w.heap.size w wr) (fun x _ => R.ls.n - (intOf x).toNat)
  case atStart => exact ⟨0, Nat.zero_le _, rfl, fun j hj => absurd hj (by omega), Below.refl _ _⟩
  case round =>
    obtain ⟨k, hk, rfl, hok, hbel⟩ := hrel
    have HOk := hid hok
    have HB := hid hbel
    have hI2 := HI.out.below hbel
    have c3 := hI2.box.cell 3
    have c4 := hI2.box.cell 4
    have hbl := hI2.box.lt
    simp [Rb.arr] at c3 c4
    clear hok hI2
    by_cases hlt : k < R.ls.n
    · have hlt' : (k : Int) < (R.ls.n : Int) := by omega
      obtain ⟨gb, o, hgp, _, hgl, hat⟩ := (HL.out.below hbel).at_ (by omega)
      have t0 : wr.cell? ⟨gb, o + k * 12, none⟩ = some (.int .i64 (R.ls.item k).port) := hat k hlt 0 _ rfl
      have t1 : wr.cell? ⟨gb, o + k * 12 + 1, none⟩ = some (.int .i64 (R.ls.item k).mark) := hat k hlt 1 _ rfl
      rw [hgp] at c4
      clear hat hgp hbel
      by_cases hm : (R.ls.item k).mark = R.last
      rotate_left
      · have hm' : ((R.ls.item k).mark == R.last) = false := by simp [hm]
        have HH : Hid (R.hit p k = false) := by unfold Hid Rb.hit; rw [hm']; rfl
        clear hm
        go_wp2_with fail
        refine wp_region_calmD 30 (fun wx => Below wr.heap.size wr wx) [(0, true), (1, true), (2, true), (3, false), (4, true), (5, true), (6, true), (7, false), (8, true), (9, true), (10, true), (11, false), (12, true), (13, true), (14, true), (15, true), (16, true), (17, false), (18, true), (19, true), (20, true), (21, false), (22, true), (23, true), (24, true), (25, true), (26, true), (27, true), (28, false), (29, true), (30, true), (31, true), (32, false), (33, true), (34, true), (35, true)] [] (by kernel_rfl) (by kernel_rfl) (Below.refl _ _).drew ?_
        refine wpPre_e rfl rfl (fun K1 hK1 => ?_)
        apply Exists.intro
        refine And.intro (fun wx hx => ?_) ?_
        · go_simp
          try rfl
        go_simp
        refine hK1 _ ?_
        clear hK1 K1
        refine wpPre_e rfl rfl (fun K1 hK1 => ?_)
        apply Exists.intro
        refine And.intro (fun wx hx => ?_) ?_
        · go_simp
          try rfl
        go_simp
        refine hK1 _ ?_
        clear hK1 K1
        refine wpPre_e rfl rfl (fun K1 hK1 => ?_)
        apply Exists.intro
        refine And.intro (fun wx hx => ?_) ?_
        · go_simp
          try rfl
        go_simp
        refine hK1 _ ?_
        clear hK1 K1
        refine wpPre_e rfl rfl (fun K1 hK1 => ?_)
        apply Exists.intro
        refine And.intro (fun wx hx => ?_) ?_
        · have e0 := below_fact hx rfl c4
          have e1 := below_fact hx rfl c3
          have e2 := below_fact hx rfl t0
          have e3 := below_fact hx rfl t1
          go_simp
          try rfl
        go_simp
        refine hK1 _ ?_
        clear hK1 K1
        refine wpPre_e rfl rfl (fun K1 hK1 => ?_)
        apply Exists.intro
        refine And.intro (fun wx hx => ?_) ?_
        · go_simp
          try rfl
        go_simp
        refine hK1 _ ?_
        clear hK1 K1
        refine wpPre_e rfl rfl (fun K1 hK1 => ?_)
        apply Exists.intro
        refine And.intro (fun wx hx => ?_) ?_
        · go_simp
          try rfl
        go_simp
        refine hK1 _ ?_
        clear hK1 K1
        refine wpPre_e rfl rfl (fun K1 hK1 => ?_)
        apply Exists.intro
        refine And.intro (fun wx hx => ?_) ?_
        · go_simp
          try rfl
        go_simp
        refine hK1 _ ?_
        clear hK1 K1
        refine wpPre_e rfl rfl (fun K1 hK1 => ?_)
        apply Exists.intro
        refine And.intro (fun wx hx => ?_) ?_
        · have e0 := below_fact hx rfl c4
          have e1 := below_fact hx rfl c3
          have e2 := below_fact hx rfl t0
          have e3 := below_fact hx rfl t1
          go_simp
          try rfl
        go_simp
        refine hK1 _ ?_
        clear hK1 K1
        refine wpPre_e rfl rfl (fun K1 hK1 => ?_)
        apply Exists.intro
        refine And.intro (fun wx hx => ?_) ?_
        · go_simp
          try rfl
        go_simp
        refine hK1 _ ?_
        clear hK1 K1
        refine wpPre_e rfl rfl (fun K1 hK1 => ?_)
        apply Exists.intro
        refine And.intro (fun wx hx => ?_) ?_
        · go_simp
          try rfl
        go_simp
        refine hK1 _ ?_
        clear hK1 K1
        refine wpPre_e rfl rfl (fun K1 hK1 => ?_)
        apply Exists.intro
        refine And.intro (fun wx hx => ?_) ?_
        · go_simp
          try rfl
        go_simp
        refine hK1 _ ?_
        clear hK1 K1
        refine wpPre_e rfl rfl (fun K1 hK1 => ?_)
        apply Exists.intro
        refine And.intro (fun wx hx => ?_) ?_
        · have e0 := below_fact hx rfl c4
          have e1 := below_fact hx rfl c3
          have e2 := below_fact hx rfl t0
          have e3 := below_fact hx rfl t1
          go_simp
          try rfl
        go_simp
        refine hK1 _ ?_
        clear hK1 K1
        refine wpPre_e rfl rfl (fun K1 hK1 => ?_)
        apply Exists.intro
        refine And.intro (fun wx hx => ?_) ?_
        · go_simp
          try rfl
        go_simp
        refine hK1 _ ?_
        clear hK1 K1
        refine wpPre_e rfl rfl (fun K1 hK1 => ?_)
        apply Exists.intro
        refine And.intro (fun wx hx => ?_) ?_
        · go_simp
          try rfl
        go_simp
        refine hK1 _ ?_
        clear hK1 K1
        refine wpPre_i rfl (fun K1 hK1 => ?_)
        rw [if_neg (by go_simp; all_goals first | (intro h; cases h) | omega)]
        go_simp
        refine hK1 _ ?_
        clear hK1 K1
        refine wpPre_i rfl (fun K1 hK1 => ?_)
        rw [if_neg (by go_simp; all_goals first | (intro h; cases h) | omega)]
        go_simp
        refine hK1 _ ?_
        clear hK1 K1
        refine wpPre_i rfl (fun K1 hK1 => ?_)
        rw [if_neg (by go_simp; all_goals first | (intro h; cases h) | omega)]
        go_simp
        refine hK1 _ ?_
        clear hK1 K1
        refine wpPre_i rfl (fun K1 hK1 => ?_)
        rw [if_neg (by go_simp; all_goals first | (intro h; cases h) | omega)]
        go_simp
        refine hK1 _ ?_
        clear hK1 K1
        refine wpPre_i rfl (fun K1 hK1 => ?_)
        rw [if_neg (by go_simp; all_goals first | (intro h; cases h) | omega)]
        go_simp
        refine hK1 _ ?_
        clear hK1 K1
        refine wpPre_i rfl (fun K1 hK1 => ?_)
        rw [if_neg (by go_simp; all_goals first | (intro h; cases h) | omega)]
        go_simp
        refine hK1 _ ?_
        clear hK1 K1
        refine wpPre_i rfl (fun K1 hK1 => ?_)
        rw [if_neg (by go_simp; all_goals first | (intro h; cases h) | omega)]
        go_simp
        refine hK1 _ ?_
        clear hK1 K1
        refine wpPre_i rfl (fun K1 hK1 => ?_)
        rw [if_neg (by go_simp; all_goals first | (intro h; cases h) | omega)]
        go_simp
        refine hK1 _ ?_
        clear hK1 K1
        refine wpPre_i rfl (fun K1 hK1 => ?_)
        rw [if_neg (by go_simp; all_goals first | (intro h; cases h) | omega)]
        go_simp
        refine hK1 _ ?_
        clear hK1 K1
        refine wpPre_e rfl rfl (fun K1 hK1 => ?_)
        apply Exists.intro
        refine And.intro (fun wx hx => ?_) ?_
        · go_simp
          try rfl
        go_simp
        refine hK1 _ ?_
        clear hK1 K1
        refine wpPre_e rfl rfl (fun K1 hK1 => ?_)
        apply Exists.intro
        refine And.intro (fun wx hx => ?_) ?_
        · go_simp
          try rfl
        go_simp
        refine hK1 _ ?_
        clear hK1 K1
        refine wpPre_i rfl (fun K1 hK1 => ?_)
        rw [if_neg (by go_simp; all_goals first | (intro h; cases h) | omega)]
        go_simp
        refine hK1 _ ?_
        clear hK1 K1
        refine wpPre_i rfl (fun K1 hK1 => ?_)
        rw [if_neg (by go_simp; all_goals first | (intro h; cases h) | omega)]
        go_simp
        refine hK1 _ ?_
        clear hK1 K1
        refine wpPre_i rfl (fun K1 hK1 => ?_)
        rw [if_neg (by go_simp; all_goals first | (intro h; cases h) | omega)]
        go_simp
        refine hK1 _ ?_
        clear hK1 K1
        refine wpPre_i rfl (fun K1 hK1 => ?_)
        rw [if_neg (by go_simp; all_goals first | (intro h; cases h) | omega)]
        go_simp
        refine hK1 _ ?_
        clear hK1 K1
        refine wpPre_i rfl (fun K1 hK1 => ?_)
        rw [if_neg (by go_simp; all_goals first | (intro h; cases h) | omega)]
        go_simp
        refine hK1 _ ?_
        clear hK1 K1
        refine wpPre_i rfl (fun K1 hK1 => ?_)
        rw [if_neg (by go_simp; all_goals first | (intro h; cases h) | omega)]
        go_simp
        refine hK1 _ ?_
        clear hK1 K1
        refine wpPre_i rfl (fun K1 hK1 => ?_)
        rw [if_neg (by go_simp; all_goals first | (intro h; cases h) | omega)]
        go_simp
        refine hK1 _ ?_
        clear hK1 K1
        refine wpPre_i rfl (fun K1 hK1 => ?_)
        rw [if_neg (by go_simp; all_goals first | (intro h; cases h) | omega)]
        go_simp
        refine hK1 _ ?_
        clear hK1 K1
        refine wpPre_i rfl (fun K1 hK1 => ?_)
        rw [if_neg (by go_simp; all_goals first | (intro h; cases h) | omega)]
        go_simp
        refine hK1 _ ?_
        clear hK1 K1
        refine wpPre_i rfl (fun K1 hK1 => ?_)
        rw [if_neg (by go_simp; all_goals first | (intro h; cases h) | omega)]
        go_simp
        refine hK1 _ ?_
        clear hK1 K1
        refine wpPre_e rfl rfl (fun K1 hK1 => ?_)
        apply Exists.intro
        refine And.intro (fun wx hx => ?_) ?_
        · go_simp
          try rfl
        go_simp
        refine hK1 _ ?_
        clear hK1 K1
        refine wpPre_nil ?_
        refine wpStg_nil ?_
        go_wp2
        go_roundw
        case rel => exact ⟨k + 1, by omega, by go_num, fun j hj => by rcases Nat.lt_or_ge j k with h | h; exact HOk.out j h; rw [show j = k by omega]; exact HH.out, HB.out.trans ((Below.refl wr.heap.size wr).drew.mono HB.out.size)⟩
        case measure => simp [intOf]; omega
      have hm' : ((R.ls.item k).mark == R.last) = true := by simp [hm]
      have HM := hid hm
      clear hm
      by_cases h0 : 0 < (R.ls.item k).mark
      rotate_left
      · have HH : Hid (R.hit p k = false) := by unfold Hid Rb.hit; simp [h0]
        have h0' : ¬ (R.ls.item k).mark > 0 := h0
        go_wp2_with fail
        refine wp_region_calmD 30 (fun wx => Below wr.heap.size wr wx) [(0, true), (1, true), (2, true), (3, false), (4, true), (5, true), (6, true), (7, false), (8, true), (9, true), (10, true), (11, false), (12, true), (13, true), (14, true), (15, true), (16, true), (17, false), (18, true), (19, true), (20, true), (21, false), (22, true), (23, true), (24, true), (25, true), (26, true), (27, true), (28, false), (29, true), (30, true), (31, true), (32, false), (33, true), (34, true), (35, true)] [] (by kernel_rfl) (by kernel_rfl) (Below.refl _ _).drew ?_
        refine wpPre_e rfl rfl (fun K1 hK1 => ?_)
        apply Exists.intro
        refine And.intro (fun wx hx => ?_) ?_
        · go_simp
          try rfl
        go_simp
        refine hK1 _ ?_
        clear hK1 K1
        refine wpPre_e rfl rfl (fun K1 hK1 => ?_)
        apply Exists.intro
        refine And.intro (fun wx hx => ?_) ?_
        · go_simp
          try rfl
        go_simp
        refine hK1 _ ?_
        clear hK1 K1
        refine wpPre_e rfl rfl (fun K1 hK1 => ?_)
        apply Exists.intro
        refine And.intro (fun wx hx => ?_) ?_
        · go_simp
          try rfl
        go_simp
        refine hK1 _ ?_
        clear hK1 K1
        refine wpPre_e rfl rfl (fun K1 hK1 => ?_)
        apply Exists.intro
        refine And.intro (fun wx hx => ?_) ?_
        · have e0 := below_fact hx rfl c4
          have e1 := below_fact hx rfl c3
          have e2 := below_fact hx rfl t0
          have e3 := below_fact hx rfl t1
          go_simp
          try rfl
        go_simp
        refine hK1 _ ?_
        clear hK1 K1
        refine wpPre_e rfl rfl (fun K1 hK1 => ?_)
        apply Exists.intro
        refine And.intro (fun wx hx => ?_) ?_
        · go_simp
          try rfl
        go_simp
        refine hK1 _ ?_
        clear hK1 K1
        refine wpPre_e rfl rfl (fun K1 hK1 => ?_)
        apply Exists.intro
        refine And.intro (fun wx hx => ?_) ?_
        · go_simp
          try rfl
        go_simp
        refine hK1 _ ?_
        clear hK1 K1
        refine wpPre_e rfl rfl (fun K1 hK1 => ?_)
        apply Exists.intro
        refine And.intro (fun wx hx => ?_) ?_
        · go_simp
          try rfl
        go_simp
        refine hK1 _ ?_
        clear hK1 K1
        refine wpPre_e rfl rfl (fun K1 hK1 => ?_)
        apply Exists.intro
        refine And.intro (fun wx hx => ?_) ?_
        · have e0 := below_fact hx rfl c4
          have e1 := below_fact hx rfl c3
          have e2 := below_fact hx rfl t0
          have e3 := below_fact hx rfl t1
          go_simp
          try rfl
        go_simp
        refine hK1 _ ?_
        clear hK1 K1
        refine wpPre_e rfl rfl (fun K1 hK1 => ?_)
        apply Exists.intro
        refine And.intro (fun wx hx => ?_) ?_
        · go_simp
          try rfl
        go_simp
        refine hK1 _ ?_
        clear hK1 K1
        refine wpPre_e rfl rfl (fun K1 hK1 => ?_)
        apply Exists.intro
        refine And.intro (fun wx hx => ?_) ?_
        · go_simp
          try rfl
        go_simp
        refine hK1 _ ?_
        clear hK1 K1
        refine wpPre_e rfl rfl (fun K1 hK1 => ?_)
        apply Exists.intro
        refine And.intro (fun wx hx => ?_) ?_
        · go_simp
          try rfl
        go_simp
        refine hK1 _ ?_
        clear hK1 K1
        refine wpPre_e rfl rfl (fun K1 hK1 => ?_)
        apply Exists.intro
        refine And.intro (fun wx hx => ?_) ?_
        · have e0 := below_fact hx rfl c4
          have e1 := below_fact hx rfl c3
          have e2 := below_fact hx rfl t0
          have e3 := below_fact hx rfl t1
          go_simp
          try rfl
        go_simp
        refine hK1 _ ?_
        clear hK1 K1
        refine wpPre_e rfl rfl (fun K1 hK1 => ?_)
        apply Exists.intro
        refine And.intro (fun wx hx => ?_) ?_
        · go_simp
          try rfl
        go_simp
        refine hK1 _ ?_
        clear hK1 K1
        refine wpPre_e rfl rfl (fun K1 hK1 => ?_)
        apply Exists.intro
        refine And.intro (fun wx hx => ?_) ?_
        · go_simp
          try rfl
        go_simp
        refine hK1 _ ?_
        clear hK1 K1
        refine wpPre_i rfl (fun K1 hK1 => ?_)
        rw [if_pos (by go_simp)]
        apply Exists.intro
        refine And.intro (fun wx hx => ?_) ?_
        · go_simp
          try rfl
        go_simp
        refine hK1 _ ?_
        clear hK1 K1
        refine wpPre_i rfl (fun K1 hK1 => ?_)
        rw [if_pos (by go_simp)]
        apply Exists.intro
        refine And.intro (fun wx hx => ?_) ?_
        · go_simp
          try rfl
        go_simp
        refine hK1 _ ?_
        clear hK1 K1
        refine wpPre_i rfl (fun K1 hK1 => ?_)
        rw [if_pos (by go_simp)]
        apply Exists.intro
        refine And.intro (fun wx hx => ?_) ?_
        · go_simp
          try rfl
        go_simp
        refine hK1 _ ?_
        clear hK1 K1
        refine wpPre_i rfl (fun K1 hK1 => ?_)
        rw [if_pos (by go_simp)]
        apply Exists.intro
        refine And.intro (fun wx hx => ?_) ?_
        · have e0 := below_fact hx rfl c4
          have e1 := below_fact hx rfl c3
          have e2 := below_fact hx rfl t0
          have e3 := below_fact hx rfl t1
          go_simp
          try rfl
        go_simp
        refine hK1 _ ?_
        clear hK1 K1
        refine wpPre_i rfl (fun K1 hK1 => ?_)
        rw [if_pos (by go_simp)]
        apply Exists.intro
        refine And.intro (fun wx hx => ?_) ?_
        · go_simp
          try rfl
        go_simp
        refine hK1 _ ?_
        clear hK1 K1
        refine wpPre_i rfl (fun K1 hK1 => ?_)
        rw [if_pos (by go_simp)]
        apply Exists.intro
        refine And.intro (fun wx hx => ?_) ?_
        · go_simp
          try rfl
        go_simp
        refine hK1 _ ?_
        clear hK1 K1
        refine wpPre_i rfl (fun K1 hK1 => ?_)
        rw [if_pos (by go_simp)]
        apply Exists.intro
        refine And.intro (fun wx hx => ?_) ?_
        · go_simp
          try rfl
        go_simp
        refine hK1 _ ?_
        clear hK1 K1
        refine wpPre_i rfl (fun K1 hK1 => ?_)
        rw [if_pos (by go_simp)]
        apply Exists.intro
        refine And.intro (fun wx hx => ?_) ?_
        · have e0 := below_fact hx rfl c4
          have e1 := below_fact hx rfl c3
          have e2 := below_fact hx rfl t0
          have e3 := below_fact hx rfl t1
          go_simp
          try rfl
        go_simp
        refine hK1 _ ?_
        clear hK1 K1
        refine wpPre_i rfl (fun K1 hK1 => ?_)
        rw [if_pos (by go_simp)]
        apply Exists.intro
        refine And.intro (fun wx hx => ?_) ?_
        · go_simp
          try rfl
        go_simp
        refine hK1 _ ?_
        clear hK1 K1
        refine wpPre_e rfl rfl (fun K1 hK1 => ?_)
        apply Exists.intro
        refine And.intro (fun wx hx => ?_) ?_
        · go_simp
          try rfl
        go_simp
        refine hK1 _ ?_
        clear hK1 K1
        refine wpPre_e rfl rfl (fun K1 hK1 => ?_)
        apply Exists.intro
        refine And.intro (fun wx hx => ?_) ?_
        · go_simp
          try rfl
        go_simp
        refine hK1 _ ?_
        clear hK1 K1
        refine wpPre_i rfl (fun K1 hK1 => ?_)
        rw [if_neg (by go_simp; all_goals first | (intro h; cases h) | omega)]
        go_simp
        refine hK1 _ ?_
        clear hK1 K1
        refine wpPre_i rfl (fun K1 hK1 => ?_)
        rw [if_neg (by go_simp; all_goals first | (intro h; cases h) | omega)]
        go_simp
        refine hK1 _ ?_
        clear hK1 K1
        refine wpPre_i rfl (fun K1 hK1 => ?_)
        rw [if_neg (by go_simp; all_goals first | (intro h; cases h) | omega)]
        go_simp
        refine hK1 _ ?_
        clear hK1 K1
        refine wpPre_i rfl (fun K1 hK1 => ?_)
        rw [if_neg (by go_simp; all_goals first | (intro h; cases h) | omega)]
        go_simp
        refine hK1 _ ?_
        clear hK1 K1
        refine wpPre_i rfl (fun K1 hK1 => ?_)
        rw [if_neg (by go_simp; all_goals first | (intro h; cases h) | omega)]
        go_simp
        refine hK1 _ ?_
        clear hK1 K1
        refine wpPre_i rfl (fun K1 hK1 => ?_)
        rw [if_neg (by go_simp; all_goals first | (intro h; cases h) | omega)]
        go_simp
        refine hK1 _ ?_
        clear hK1 K1
        refine wpPre_i rfl (fun K1 hK1 => ?_)
        rw [if_neg (by go_simp; all_goals first | (intro h; cases h) | omega)]
        go_simp
        refine hK1 _ ?_
        clear hK1 K1
        refine wpPre_i rfl (fun K1 hK1 => ?_)
        rw [if_neg (by go_simp; all_goals first | (intro h; cases h) | omega)]
        go_simp
        refine hK1 _ ?_
        clear hK1 K1
        refine wpPre_i rfl (fun K1 hK1 => ?_)
        rw [if_neg (by go_simp; all_goals first | (intro h; cases h) | omega)]
        go_simp
        refine hK1 _ ?_
        clear hK1 K1
        refine wpPre_i rfl (fun K1 hK1 => ?_)
        rw [if_neg (by go_simp; all_goals first | (intro h; cases h) | omega)]
        go_simp
        refine hK1 _ ?_
        clear hK1 K1
        refine wpPre_e rfl rfl (fun K1 hK1 => ?_)
        apply Exists.intro
        refine And.intro (fun wx hx => ?_) ?_
        · go_simp
          try rfl
        go_simp
        refine hK1 _ ?_
        clear hK1 K1
        refine wpPre_nil ?_
        refine wpStg_nil ?_
        go_wp2
        go_roundw
        case rel => exact ⟨k + 1, by omega, by go_num, fun j hj => by rcases Nat.lt_or_ge j k with h | h; exact HOk.out j h; rw [show j = k by omega]; exact HH.out, HB.out.trans ((Below.refl wr.heap.size wr).drew.mono HB.out.size)⟩
        case measure => simp [intOf]; omega
      by_cases hp : (R.ls.item k).port = p
      rotate_left
      · have hp' : ((R.ls.item k).port == p) = false := by simp [hp]
        have HH : Hid (R.hit p k = false) := by unfold Hid Rb.hit; simp [hp]
        clear hp
        go_wp2_with fail
        refine wp_region_calmD 30 (fun wx => Below wr.heap.size wr wx) [(0, true), (1, true), (2, true), (3, false), (4, true), (5, true), (6, true), (7, false), (8, true), (9, true), (10, true), (11, false), (12, true), (13, true), (14, true), (15, true), (16, true), (17, false), (18, true), (19, true), (20, true), (21, false), (22, true), (23, true), (24, true), (25, true), (26, true), (27, true), (28, false), (29, true), (30, true), (31, true), (32, false), (33, true), (34, true), (35, true)] [] (by kernel_rfl) (by kernel_rfl) (Below.refl _ _).drew ?_
        refine wpPre_e rfl rfl (fun K1 hK1 => ?_)
        apply Exists.intro
        refine And.intro (fun wx hx => ?_) ?_
        · go_simp
          try rfl
        go_simp
        refine hK1 _ ?_
        clear hK1 K1
        refine wpPre_e rfl rfl (fun K1 hK1 => ?_)
        apply Exists.intro
        refine And.intro (fun wx hx => ?_) ?_
        · go_simp
          try rfl
        go_simp
        refine hK1 _ ?_
        clear hK1 K1
        refine wpPre_e rfl rfl (fun K1 hK1 => ?_)
        apply Exists.intro
        refine And.intro (fun wx hx => ?_) ?_
        · go_simp
          try rfl
        go_simp
        refine hK1 _ ?_
        clear hK1 K1
        refine wpPre_e rfl rfl (fun K1 hK1 => ?_)
        apply Exists.intro
        refine And.intro (fun wx hx => ?_) ?_
        · have e0 := below_fact hx rfl c4
          have e1 := below_fact hx rfl c3
          have e2 := below_fact hx rfl t0
          have e3 := below_fact hx rfl t1
          go_simp
          try rfl
        go_simp
        refine hK1 _ ?_
        clear hK1 K1
        refine wpPre_e rfl rfl (fun K1 hK1 => ?_)
        apply Exists.intro
        refine And.intro (fun wx hx => ?_) ?_
        · go_simp
          try rfl
        go_simp
        refine hK1 _ ?_
        clear hK1 K1
        refine wpPre_e rfl rfl (fun K1 hK1 => ?_)
        apply Exists.intro
        refine And.intro (fun wx hx => ?_) ?_
        · go_simp
          try rfl
        go_simp
        refine hK1 _ ?_
        clear hK1 K1
        refine wpPre_e rfl rfl (fun K1 hK1 => ?_)
        apply Exists.intro
        refine And.intro (fun wx hx => ?_) ?_
        · go_simp
          try rfl
        go_simp
        refine hK1 _ ?_
        clear hK1 K1
        refine wpPre_e rfl rfl (fun K1 hK1 => ?_)
        apply Exists.intro
        refine And.intro (fun wx hx => ?_) ?_
        · have e0 := below_fact hx rfl c4
          have e1 := below_fact hx rfl c3
          have e2 := below_fact hx rfl t0
          have e3 := below_fact hx rfl t1
          go_simp
          try rfl
        go_simp
        refine hK1 _ ?_
        clear hK1 K1
        refine wpPre_e rfl rfl (fun K1 hK1 => ?_)
        apply Exists.intro
        refine And.intro (fun wx hx => ?_) ?_
        · go_simp
          try rfl
        go_simp
        refine hK1 _ ?_
        clear hK1 K1
        refine wpPre_e rfl rfl (fun K1 hK1 => ?_)
        apply Exists.intro
        refine And.intro (fun wx hx => ?_) ?_
        · go_simp
          try rfl
        go_simp
        refine hK1 _ ?_
        clear hK1 K1
        refine wpPre_e rfl rfl (fun K1 hK1 => ?_)
        apply Exists.intro
        refine And.intro (fun wx hx => ?_) ?_
        · go_simp
          try rfl
        go_simp
        refine hK1 _ ?_
        clear hK1 K1
        refine wpPre_e rfl rfl (fun K1 hK1 => ?_)
        apply Exists.intro
        refine And.intro (fun wx hx => ?_) ?_
        · have e0 := below_fact hx rfl c4
          have e1 := below_fact hx rfl c3
          have e2 := below_fact hx rfl t0
          have e3 := below_fact hx rfl t1
          go_simp
          try rfl
        go_simp
        refine hK1 _ ?_
        clear hK1 K1
        refine wpPre_e rfl rfl (fun K1 hK1 => ?_)
        apply Exists.intro
        refine And.intro (fun wx hx => ?_) ?_
        · go_simp
          try rfl
        go_simp
        refine hK1 _ ?_
        clear hK1 K1
        refine wpPre_e rfl rfl (fun K1 hK1 => ?_)
        apply Exists.intro
        refine And.intro (fun wx hx => ?_) ?_
        · go_simp
          try rfl
        go_simp
        refine hK1 _ ?_
        clear hK1 K1
        refine wpPre_i rfl (fun K1 hK1 => ?_)
        rw [if_pos (by go_simp)]
        apply Exists.intro
        refine And.intro (fun wx hx => ?_) ?_
        · go_simp
          try rfl
        go_simp
        refine hK1 _ ?_
        clear hK1 K1
        refine wpPre_i rfl (fun K1 hK1 => ?_)
        rw [if_pos (by go_simp)]
        apply Exists.intro
        refine And.intro (fun wx hx => ?_) ?_
        · go_simp
          try rfl
        go_simp
        refine hK1 _ ?_
        clear hK1 K1
        refine wpPre_i rfl (fun K1 hK1 => ?_)
        rw [if_pos (by go_simp)]
        apply Exists.intro
        refine And.intro (fun wx hx => ?_) ?_
        · go_simp
          try rfl
        go_simp
        refine hK1 _ ?_
        clear hK1 K1
        refine wpPre_i rfl (fun K1 hK1 => ?_)
        rw [if_pos (by go_simp)]
        apply Exists.intro
        refine And.intro (fun wx hx => ?_) ?_
        · have e0 := below_fact hx rfl c4
          have e1 := below_fact hx rfl c3
          have e2 := below_fact hx rfl t0
          have e3 := below_fact hx rfl t1
          go_simp
          try rfl
        go_simp
        refine hK1 _ ?_
        clear hK1 K1
        refine wpPre_i rfl (fun K1 hK1 => ?_)
        rw [if_pos (by go_simp)]
        apply Exists.intro
        refine And.intro (fun wx hx => ?_) ?_
        · go_simp
          try rfl
        go_simp
        refine hK1 _ ?_
        clear hK1 K1
        refine wpPre_i rfl (fun K1 hK1 => ?_)
        rw [if_pos (by go_simp)]
        apply Exists.intro
        refine And.intro (fun wx hx => ?_) ?_
        · go_simp
          try rfl
        go_simp
        refine hK1 _ ?_
        clear hK1 K1
        refine wpPre_i rfl (fun K1 hK1 => ?_)
        rw [if_pos (by go_simp)]
        apply Exists.intro
        refine And.intro (fun wx hx => ?_) ?_
        · go_simp
          try rfl
        go_simp
        refine hK1 _ ?_
        clear hK1 K1
        refine wpPre_i rfl (fun K1 hK1 => ?_)
        rw [if_pos (by go_simp)]
        apply Exists.intro
        refine And.intro (fun wx hx => ?_) ?_
        · have e0 := below_fact hx rfl c4
          have e1 := below_fact hx rfl c3
          have e2 := below_fact hx rfl t0
          have e3 := below_fact hx rfl t1
          go_simp
          try rfl
        go_simp
        refine hK1 _ ?_
        clear hK1 K1
        refine wpPre_i rfl (fun K1 hK1 => ?_)
        rw [if_pos (by go_simp)]
        apply Exists.intro
        refine And.intro (fun wx hx => ?_) ?_
        · go_simp
          try rfl
        go_simp
        refine hK1 _ ?_
        clear hK1 K1
        refine wpPre_e rfl rfl (fun K1 hK1 => ?_)
        apply Exists.intro
        refine And.intro (fun wx hx => ?_) ?_
        · go_simp
          try rfl
        go_simp
        refine hK1 _ ?_
        clear hK1 K1
        refine wpPre_e rfl rfl (fun K1 hK1 => ?_)
        apply Exists.intro
        refine And.intro (fun wx hx => ?_) ?_
        · go_simp
          try rfl
        go_simp
        refine hK1 _ ?_
        clear hK1 K1
        refine wpPre_i rfl (fun K1 hK1 => ?_)
        rw [if_pos (by go_simp)]
        apply Exists.intro
        refine And.intro (fun wx hx => ?_) ?_
        · go_simp
          try rfl
        go_simp
        refine hK1 _ ?_
        clear hK1 K1
        refine wpPre_i rfl (fun K1 hK1 => ?_)
        rw [if_pos (by go_simp)]
        apply Exists.intro
        refine And.intro (fun wx hx => ?_) ?_
        · go_simp
          try rfl
        go_simp
        refine hK1 _ ?_
        clear hK1 K1
        refine wpPre_i rfl (fun K1 hK1 => ?_)
        rw [if_pos (by go_simp)]
        apply Exists.intro
        refine And.intro (fun wx hx => ?_) ?_
        · go_simp
          try rfl
        go_simp
        refine hK1 _ ?_
        clear hK1 K1
        refine wpPre_i rfl (fun K1 hK1 => ?_)
        rw [if_pos (by go_simp)]
        apply Exists.intro
        refine And.intro (fun wx hx => ?_) ?_
        · have e0 := below_fact hx rfl c4
          have e1 := below_fact hx rfl c3
          have e2 := below_fact hx rfl t0
          have e3 := below_fact hx rfl t1
          go_simp
          try rfl
        go_simp
        refine hK1 _ ?_
        clear hK1 K1
        refine wpPre_i rfl (fun K1 hK1 => ?_)
        rw [if_pos (by go_simp)]
        apply Exists.intro
        refine And.intro (fun wx hx => ?_) ?_
        · go_simp
          try rfl
        go_simp
        refine hK1 _ ?_
        clear hK1 K1
        refine wpPre_i rfl (fun K1 hK1 => ?_)
        rw [if_pos (by go_simp)]
        apply Exists.intro
        refine And.intro (fun wx hx => ?_) ?_
        · go_simp
          try rfl
        go_simp
        refine hK1 _ ?_
        clear hK1 K1
        refine wpPre_i rfl (fun K1 hK1 => ?_)
        rw [if_pos (by go_simp)]
        apply Exists.intro
        refine And.intro (fun wx hx => ?_) ?_
        · go_simp
          try rfl
        go_simp
        refine hK1 _ ?_
        clear hK1 K1
        refine wpPre_i rfl (fun K1 hK1 => ?_)
        rw [if_pos (by go_simp)]
        apply Exists.intro
        refine And.intro (fun wx hx => ?_) ?_
        · have e0 := below_fact hx rfl c4
          have e1 := below_fact hx rfl c3
          have e2 := below_fact hx rfl t0
          have e3 := below_fact hx rfl t1
          go_simp
          try rfl
        go_simp
        refine hK1 _ ?_
        clear hK1 K1
        refine wpPre_i rfl (fun K1 hK1 => ?_)
        rw [if_pos (by go_simp)]
        apply Exists.intro
        refine And.intro (fun wx hx => ?_) ?_
        · go_simp
          try rfl
        go_simp
        refine hK1 _ ?_
        clear hK1 K1
        refine wpPre_i rfl (fun K1 hK1 => ?_)
        rw [if_pos (by go_simp)]
        apply Exists.intro
        refine And.intro (fun wx hx => ?_) ?_
        · go_simp
          try rfl
        go_simp
        refine hK1 _ ?_
        clear hK1 K1
        refine wpPre_e rfl rfl (fun K1 hK1 => ?_)
        apply Exists.intro
        refine And.intro (fun wx hx => ?_) ?_
        · go_simp
          try rfl
        go_simp
        refine hK1 _ ?_
        clear hK1 K1
        refine wpPre_nil ?_
        refine wpStg_nil ?_
        go_wp2
        go_roundw
        case rel => exact ⟨k + 1, by omega, by go_num, fun j hj => by rcases Nat.lt_or_ge j k with h | h; exact HOk.out j h; rw [show j = k by omega]; exact HH.out, HB.out.trans ((Below.refl wr.heap.size wr).drew.mono HB.out.size)⟩
        case measure => simp [intOf]; omega
      have HH : Hid (R.hit p k = true) := by unfold Hid Rb.hit; rw [hm', decide_eq_true h0, hp]; simp
      have hp' : ((R.ls.item k).port == p) = true := by simp [hp]
      clear hp
      go_wp2_with fail
      refine wp_region_calmD 30 (fun wx => Below wr.heap.size wr wx) [(0, true), (1, true), (2, true), (3, false), (4, true), (5, true), (6, true), (7, false), (8, true), (9, true), (10, true), (11, false), (12, true), (13, true), (14, true), (15, true), (16, true), (17, false), (18, true), (19, true), (20, true), (21, false), (22, true), (23, true), (24, true), (25, true), (26, true), (27, true), (28, false), (29, true), (30, true), (31, true), (32, false), (33, true), (34, true), (35, true)] [] (by kernel_rfl) (by kernel_rfl) (Below.refl _ _).drew ?_
      refine wpPre_e rfl rfl (fun K1 hK1 => ?_)
      apply Exists.intro
      refine And.intro (fun wx hx => ?_) ?_
      · go_simp
        try rfl
      go_simp
      refine hK1 _ ?_
      clear hK1 K1
      refine wpPre_e rfl rfl (fun K1 hK1 => ?_)
      apply Exists.intro
      refine And.intro (fun wx hx => ?_) ?_
      · go_simp
        try rfl
      go_simp
      refine hK1 _ ?_
      clear hK1 K1
      refine wpPre_e rfl rfl (fun K1 hK1 => ?_)
      apply Exists.intro
      refine And.intro (fun wx hx => ?_) ?_
      · go_simp
        try rfl
      go_simp
      refine hK1 _ ?_
      clear hK1 K1
      refine wpPre_e rfl rfl (fun K1 hK1 => ?_)
      apply Exists.intro
      refine And.intro (fun wx hx => ?_) ?_
      · have e0 := below_fact hx rfl c4
        have e1 := below_fact hx rfl c3
        have e2 := below_fact hx rfl t0
        have e3 := below_fact hx rfl t1
        go_simp
        try rfl
      go_simp
      refine hK1 _ ?_
      clear hK1 K1
      refine wpPre_e rfl rfl (fun K1 hK1 => ?_)
      apply Exists.intro
      refine And.intro (fun wx hx => ?_) ?_
      · go_simp
        try rfl
      go_simp
      refine hK1 _ ?_
      clear hK1 K1
      refine wpPre_e rfl rfl (fun K1 hK1 => ?_)
      apply Exists.intro
      refine And.intro (fun wx hx => ?_) ?_
      · go_simp
        try rfl
      go_simp
      refine hK1 _ ?_
      clear hK1 K1
      refine wpPre_e rfl rfl (fun K1 hK1 => ?_)
      apply Exists.intro
      refine And.intro (fun wx hx => ?_) ?_
      · go_simp
        try rfl
      go_simp
      refine hK1 _ ?_
      clear hK1 K1
      refine wpPre_e rfl rfl (fun K1 hK1 => ?_)
      apply Exists.intro
      refine And.intro (fun wx hx => ?_) ?_
      · have e0 := below_fact hx rfl c4
        have e1 := below_fact hx rfl c3
        have e2 := below_fact hx rfl t0
        have e3 := below_fact hx rfl t1
        go_simp
        try rfl
      go_simp
      refine hK1 _ ?_
      clear hK1 K1
      refine wpPre_e rfl rfl (fun K1 hK1 => ?_)
      apply Exists.intro
      refine And.intro (fun wx hx => ?_) ?_
      · go_simp
        try rfl
      go_simp
      refine hK1 _ ?_
      clear hK1 K1
      refine wpPre_e rfl rfl (fun K1 hK1 => ?_)
      apply Exists.intro
      refine And.intro (fun wx hx => ?_) ?_
      · go_simp
        try rfl
      go_simp
      refine hK1 _ ?_
      clear hK1 K1
      refine wpPre_e rfl rfl (fun K1 hK1 => ?_)
      apply Exists.intro
      refine And.intro (fun wx hx => ?_) ?_
      · go_simp
        try rfl
      go_simp
      refine hK1 _ ?_
      clear hK1 K1
      refine wpPre_e rfl rfl (fun K1 hK1 => ?_)
      apply Exists.intro
      refine And.intro (fun wx hx => ?_) ?_
      · have e0 := below_fact hx rfl c4
        have e1 := below_fact hx rfl c3
        have e2 := below_fact hx rfl t0
        have e3 := below_fact hx rfl t1
        go_simp
        try rfl
      go_simp
      refine hK1 _ ?_
      clear hK1 K1
      refine wpPre_e rfl rfl (fun K1 hK1 => ?_)
      apply Exists.intro
      refine And.intro (fun wx hx => ?_) ?_
      · go_simp
        try rfl
      go_simp
      refine hK1 _ ?_
      clear hK1 K1
      refine wpPre_e rfl rfl (fun K1 hK1 => ?_)
      apply Exists.intro
      refine And.intro (fun wx hx => ?_) ?_
      · go_simp
        try rfl
      go_simp
      refine hK1 _ ?_
      clear hK1 K1
      refine wpPre_i rfl (fun K1 hK1 => ?_)
      rw [if_pos (by go_simp)]
      apply Exists.intro
      refine And.intro (fun wx hx => ?_) ?_
      · go_simp
        try rfl
      go_simp
      refine hK1 _ ?_
      clear hK1 K1
      refine wpPre_i rfl (fun K1 hK1 => ?_)
      rw [if_pos (by go_simp)]
      apply Exists.intro
      refine And.intro (fun wx hx => ?_) ?_
      · go_simp
        try rfl
      go_simp
      refine hK1 _ ?_
      clear hK1 K1
      refine wpPre_i rfl (fun K1 hK1 => ?_)
      rw [if_pos (by go_simp)]
      apply Exists.intro
      refine And.intro (fun wx hx => ?_) ?_
      · go_simp
        try rfl
      go_simp
      refine hK1 _ ?_
      clear hK1 K1
      refine wpPre_i rfl (fun K1 hK1 => ?_)
      rw [if_pos (by go_simp)]
      apply Exists.intro
      refine And.intro (fun wx hx => ?_) ?_
      · have e0 := below_fact hx rfl c4
        have e1 := below_fact hx rfl c3
        have e2 := below_fact hx rfl t0
        have e3 := below_fact hx rfl t1
        go_simp
        try rfl
      go_simp
      refine hK1 _ ?_
      clear hK1 K1
      refine wpPre_i rfl (fun K1 hK1 => ?_)
      rw [if_pos (by go_simp)]
      apply Exists.intro
      refine And.intro (fun wx hx => ?_) ?_
      · go_simp
        try rfl
      go_simp
      refine hK1 _ ?_
      clear hK1 K1
      refine wpPre_i rfl (fun K1 hK1 => ?_)
      rw [if_pos (by go_simp)]
      apply Exists.intro
      refine And.intro (fun wx hx => ?_) ?_
      · go_simp
        try rfl
      go_simp
      refine hK1 _ ?_
      clear hK1 K1
      refine wpPre_i rfl (fun K1 hK1 => ?_)
      rw [if_pos (by go_simp)]
      apply Exists.intro
      refine And.intro (fun wx hx => ?_) ?_
      · go_simp
        try rfl
      go_simp
      refine hK1 _ ?_
      clear hK1 K1
      refine wpPre_i rfl (fun K1 hK1 => ?_)
      rw [if_pos (by go_simp)]
      apply Exists.intro
      refine And.intro (fun wx hx => ?_) ?_
      · have e0 := below_fact hx rfl c4
        have e1 := below_fact hx rfl c3
        have e2 := below_fact hx rfl t0
        have e3 := below_fact hx rfl t1
        go_simp
        try rfl
      go_simp
      refine hK1 _ ?_
      clear hK1 K1
      refine wpPre_i rfl (fun K1 hK1 => ?_)
      rw [if_pos (by go_simp)]
      apply Exists.intro
      refine And.intro (fun wx hx => ?_) ?_
      · go_simp
        try rfl
      go_simp
      refine hK1 _ ?_
      clear hK1 K1
      refine wpPre_e rfl rfl (fun K1 hK1 => ?_)
      apply Exists.intro
      refine And.intro (fun wx hx => ?_) ?_
      · go_simp
        try rfl
      go_simp
      refine hK1 _ ?_
      clear hK1 K1
      refine wpPre_e rfl rfl (fun K1 hK1 => ?_)
      apply Exists.intro
      refine And.intro (fun wx hx => ?_) ?_
      · go_simp
        try rfl
      go_simp
      refine hK1 _ ?_
      clear hK1 K1
      refine wpPre_i rfl (fun K1 hK1 => ?_)
      rw [if_pos (by go_simp)]
      apply Exists.intro
      refine And.intro (fun wx hx => ?_) ?_
      · go_simp
        try rfl
      go_simp
      refine hK1 _ ?_
      clear hK1 K1
      refine wpPre_i rfl (fun K1 hK1 => ?_)
      rw [if_pos (by go_simp)]
      apply Exists.intro
      refine And.intro (fun wx hx => ?_) ?_
      · go_simp
        try rfl
      go_simp
      refine hK1 _ ?_
      clear hK1 K1
      refine wpPre_i rfl (fun K1 hK1 => ?_)
      rw [if_pos (by go_simp)]
      apply Exists.intro
      refine And.intro (fun wx hx => ?_) ?_
      · go_simp
        try rfl
      go_simp
      refine hK1 _ ?_
      clear hK1 K1
      refine wpPre_i rfl (fun K1 hK1 => ?_)
      rw [if_pos (by go_simp)]
      apply Exists.intro
      refine And.intro (fun wx hx => ?_) ?_
      · have e0 := below_fact hx rfl c4
        have e1 := below_fact hx rfl c3
        have e2 := below_fact hx rfl t0
        have e3 := below_fact hx rfl t1
        go_simp
        try rfl
      go_simp
      refine hK1 _ ?_
      clear hK1 K1
      refine wpPre_i rfl (fun K1 hK1 => ?_)
      rw [if_pos (by go_simp)]
      apply Exists.intro
      refine And.intro (fun wx hx => ?_) ?_
      · go_simp
        try rfl
      go_simp
      refine hK1 _ ?_
      clear hK1 K1
      refine wpPre_i rfl (fun K1 hK1 => ?_)
      rw [if_pos (by go_simp)]
      apply Exists.intro
      refine And.intro (fun wx hx => ?_) ?_
      · go_simp
        try rfl
      go_simp
      refine hK1 _ ?_
      clear hK1 K1
      refine wpPre_i rfl (fun K1 hK1 => ?_)
      rw [if_pos (by go_simp)]
      apply Exists.intro
      refine And.intro (fun wx hx => ?_) ?_
      · go_simp
        try rfl
      go_simp
      refine hK1 _ ?_
      clear hK1 K1
      refine wpPre_i rfl (fun K1 hK1 => ?_)
      rw [if_pos (by go_simp)]
      apply Exists.intro
      refine And.intro (fun wx hx => ?_) ?_
      · have e0 := below_fact hx rfl c4
        have e1 := below_fact hx rfl c3
        have e2 := below_fact hx rfl t0
        have e3 := below_fact hx rfl t1
        go_simp
        try rfl
      go_simp
      refine hK1 _ ?_
      clear hK1 K1
      refine wpPre_i rfl (fun K1 hK1 => ?_)
      rw [if_pos (by go_simp)]
      apply Exists.intro
      refine And.intro (fun wx hx => ?_) ?_
      · go_simp
        try rfl
      go_simp
      refine hK1 _ ?_
      clear hK1 K1
      refine wpPre_i rfl (fun K1 hK1 => ?_)
      rw [if_pos (by go_simp)]
      apply Exists.intro
      refine And.intro (fun wx hx => ?_) ?_
      · go_simp
        try rfl
      go_simp
      refine hK1 _ ?_
      clear hK1 K1
      refine wpPre_e rfl rfl (fun K1 hK1 => ?_)
      apply Exists.intro
      refine And.intro (fun wx hx => ?_) ?_
      · go_simp
        try rfl
      go_simp
      refine hK1 _ ?_
      clear hK1 K1
      refine wpPre_nil ?_
      refine wpStg_nil ?_
      go_wp2
      refine bodyPost_ret (v := .int .i64 (k : Int)) (by simp [results, Try.results63, go_sem]) rfl ?_
      exact ⟨by rw [Rb.cl, cln_hit HOk.out HH.out hlt], HB.out.trans ((Below.refl wr.heap.size wr).drew.mono HB.out.size)⟩
    · have hlt' : ¬ (k : Int) < (R.ls.n : Int) := by omega
      obtain rfl : k = R.ls.n := by omega
      clear hbel
      go_wp2
      refine bodyPost_ret (v := .int .i64 (-1)) (by simp [results, Try.results63, go_sem]) rfl ?_
      exact ⟨by rw [Rb.cl, cln_none HOk.out], HB.out⟩
end Go.Proofs.Ytdncnnjhfipokaa
