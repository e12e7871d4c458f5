import Derived.Test.YtnbcidlmckmaaaaKbC
namespace Go.Proofs.Ytnbcidlmckmaaaa
open Go.RowKit
set_option maxRecDepth 8000
def Bk.okP (K : Bk) (p : Nat) : Bool := ((p : Int) == K.back) || !(K.st p == 0)
def Bk.alig (K : Bk) : Bool := (List.range K.ports.toNat).all fun p => K.okP p
set_option maxHeartbeats 2000000 in
theorem aligned_any (w : World) (b : Nat) (K : Bk) (hI : BkI w b K) : Calls Try.prog 57 #[.pointer (some ⟨b, 0, none⟩)] w fun e w' => e = .returned (.bool K.alig) ∧ w' = w := by
  have c1 := hI.box.cell 1
  have c2 := hI.box.cell 2
  have HI := hid hI
  obtain ⟨N, hN⟩ : ∃ N : Nat, K.ports = (N : Int) := ⟨K.ports.toNat, by have := hI.p0; omega⟩
  have hp1 := hI.p1
  simp [Bk.arr] at c1 c2
  rw [hN] at c1
  clear hI
  go_enter Try.func57, Try.ntmps57
  go_wp2_with fail
  go_loopw [8] (fun x wr => wr = w ∧ ∃ k : Nat, k ≤ N ∧ x = .int .i64 (k : Int) ∧ ∀ p, p < k → K.okP p = true) (fun x _ => N - (intOf x).toNat)
  case atStart => exact ⟨rfl, 0, Nat.zero_le _, rfl, fun p hp => absurd hp (by omega)⟩
  case round =>
    obtain ⟨rfl, k, hk, rfl, hok⟩ := hrel
    have HOk := hid hok
    clear hok
    by_cases hlt : k < N
    · have hlt' : (k : Int) < (N : Int) := by omega
      have hk4 : (k : Int) < 4 := by omega
      have cs := HI.out.cs (i := k) (by omega)
      by_cases hb : (k : Int) = K.back
      · have hq : K.okP k = true := by simp [Bk.okP, hb]
        have hb' : ((k : Int) != K.back) = false := by simp [hb]
        go_wp2
        go_roundw
        case rel => exact ⟨trivial, k + 1, by omega, by go_num, fun p hp => by rcases Nat.lt_or_ge p k with h | h; exact HOk.out p h; rw [show p = k by omega]; exact hq⟩
        case measure => simp [intOf]; omega
      · by_cases hs : K.st k = 0
        · rw [hs] at cs
          go_wp2
          have hf : K.alig = false := by
            unfold Bk.alig
            rw [List.all_eq_false]
            refine ⟨k, List.mem_range.2 (by omega), ?_⟩
            simp [Bk.okP, hb, hs]
          refine bodyPost_ret (v := .bool false) (by simp [results, Try.results57, go_sem]) rfl ⟨by rw [hf], rfl⟩
        · have hq : K.okP k = true := by simp [Bk.okP, hs]
          have hb' : ((k : Int) != K.back) = true := by simp [hb]
          have hs' : (K.st k == 0) = false := by simp [hs]
          go_wp2
          go_roundw
          case rel => exact ⟨trivial, k + 1, by omega, by go_num, fun p hp => by rcases Nat.lt_or_ge p k with h | h; exact HOk.out p h; rw [show p = k by omega]; exact hq⟩
          case measure => simp [intOf]; omega
    · have hlt' : ¬ (k : Int) < (N : Int) := by omega
      go_wp2
      have hf : K.alig = true := by
        unfold Bk.alig
        rw [List.all_eq_true]
        intro p hp
        exact HOk.out p (by have := List.mem_range.1 hp; omega)
      refine bodyPost_ret (v := .bool true) (by simp [results, Try.results57, go_sem]) rfl ⟨by rw [hf], rfl⟩
def Bk.setSt (K : Bk) (i : Nat) (v : Int) : Bk := { K with st := fun j => if j = i then v else K.st j }
theorem Bk.arr_st (K : Bk) {i : Nat} (hi : i < 4) (v : Int) : K.arr.setIfInBounds (4 + i) (.int .i64 v) = (K.setSt i v).arr := by
  rcases (by omega : i = 0 ∨ i = 1 ∨ i = 2 ∨ i = 3) with rfl | rfl | rfl | rfl <;> simp [Bk.arr, Bk.setSt]
/-- the ports that were held are let go, up to the port n -/
def Bk.rel (K : Bk) (n : Nat) : Bk := { K with st := fun i => if i < n ∧ K.st i = 2 then 1 else K.st i }
theorem Bk.rel_zero (K : Bk) : K.rel 0 = K := by simp [Bk.rel]
theorem Bk.rel_held (K : Bk) {k : Nat} (h : K.st k = 2) : (K.rel k).setSt k 1 = K.rel (k + 1) := by
  unfold Bk.rel Bk.setSt
  congr 1
  funext i
  by_cases hi : i = k
  · subst hi; simp [h]
  · simp only [if_neg hi]
    by_cases h1 : i < k
    · have : i < k + 1 := by omega
      simp [h1, this]
    · have : ¬ i < k + 1 := by omega
      simp [h1, this]
theorem Bk.rel_open (K : Bk) {k : Nat} (h : ¬ K.st k = 2) : K.rel k = K.rel (k + 1) := by
  unfold Bk.rel
  congr 1
  funext i
  by_cases hi : i = k
  · subst hi; simp [h]
  · by_cases h1 : i < k
    · have : i < k + 1 := by omega
      simp [h1, this]
    · have : ¬ i < k + 1 := by omega
      simp [h1, this]
theorem Bk.rel_at (K : Bk) (k : Nat) : (K.rel k).st k = K.st k := by simp [Bk.rel]
theorem Bk.rel_s (K : Bk) (n : Nat) (h : ∀ i, i < 4 → K.st i = 0 ∨ K.st i = 1 ∨ K.st i = 2) : ∀ i, i < 4 → (K.rel n).st i = 0 ∨ (K.rel n).st i = 1 ∨ (K.rel n).st i = 2 := by
  intro i hi
  simp only [Bk.rel]
  split
  · exact .inr (.inl rfl)
  · exact h i hi
set_option maxHeartbeats 2000000 in
theorem release_any (w : World) (b : Nat) (K : Bk) (hI : BkI w b K) : Calls Try.prog 58 #[.pointer (some ⟨b, 3, none⟩)] w fun e w' => e = .returned (.tuple #[]) ∧ SetLog w b K w' (K.rel 4) := by
  have HI := hid hI
  clear hI
  go_enter Try.func58, Try.ntmps58
  go_wp2_with fail
  go_loopw [3] (fun x wr => ∃ k : Nat, k ≤ 4 ∧ x = .int .i64 (k : Int) ∧ Box wr b (K.rel k).arr 78 ∧ But (fun y => y = b) w wr) (fun x _ => 4 - (intOf x).toNat)
  case atStart => exact ⟨0, Nat.zero_le _, rfl, by rw [Bk.rel_zero]; exact HI.out.box, But.one _ _⟩
  case round =>
    obtain ⟨k, hk, rfl, hX, hbut⟩ := hrel
    have HB := hid (And.intro hX hbut)
    have hbl := hX.lt
    by_cases hlt : k < 4
    · have hlt' : (k : Int) < 4 := by omega
      have cs : wr.cell? ⟨b, 4 + k, none⟩ = some (.int .i64 (K.st k)) := by
        rw [hX.cell, ← Bk.rel_at K k]
        rcases (by omega : k = 0 ∨ k = 1 ∨ k = 2 ∨ k = 3) with rfl | rfl | rfl | rfl <;> rfl
      have fs := hX.frozen (4 + k)
      clear hX hbut
      by_cases hs : K.st k = 2
      · have hX2 := HB.out.1.set (4 + k) (.int .i64 1)
        rw [Bk.arr_st _ hlt, Bk.rel_held K hs] at hX2
        have HX2 := hid hX2
        rw [hs] at cs
        clear hX2
        go_wp2
        go_roundw
        case rel => exact ⟨k + 1, by omega, by go_num, HX2.out, HB.out.2.setAt (4 + k) _⟩
        case measure => simp [intOf]; omega
      · have hX2 := HB.out.1
        rw [Bk.rel_open K hs] at hX2
        have HX2 := hid hX2
        clear hX2
        go_wp2
        go_roundw
        case rel => exact ⟨k + 1, by omega, by go_num, HX2.out, HB.out.2⟩
        case measure => simp [intOf]; omega
    · obtain rfl : k = 4 := by omega
      clear hX hbut
      go_wp2_with fail
      go_end0
      exact ⟨rfl, HI.out.chg rfl HB.out.1 HB.out.2 rfl rfl rfl HI.out.n0 HI.out.n1 (K.rel_s 4 HI.out.s0)⟩
/-- why a marker can't be taken -/
def Bk.refE (K : Bk) (x id : Int) : Int := if K.has x = false then 132 else if id < 1 ∨ 9999 < id then 133 else if K.held x = true then 134 else 0
set_option maxHeartbeats 2000000 in
theorem refusal_any (x id : Int) (w : World) (b : Nat) (K : Bk) (hI : BkI w b K) : Calls Try.prog 36 #[.pointer (some ⟨b, 0, none⟩), .int .i64 x, .int .i64 id] w fun e w' => e = .returned (.int .i64 (K.refE x id)) ∧ w' = w := by
  have HH := hid (has_any x w b K hI)
  have HG := hid (held_any x w b K hI)
  clear hI
  rcases hh : K.has x with _ | _
  · have HE : Hid (K.refE x id = 132) := by unfold Hid; rw [Bk.refE, if_pos hh]
    go_enter Try.func36, Try.ntmps36
    go_wp2_with fail
    refine HH.out.mono ?_
    rintro e w1 ⟨rfl, rfl⟩
    rw [hh]
    go_wp2
    refine bodyPost_ret (v := .int .i64 132) (by simp [results, Try.results36, go_sem]) rfl ⟨by rw [HE.out], rfl⟩
  by_cases hid1 : id < 1
  · have HE : Hid (K.refE x id = 133) := by unfold Hid; rw [Bk.refE, if_neg (by rw [hh]; decide), if_pos (.inl hid1)]
    go_enter Try.func36, Try.ntmps36
    go_wp2_with fail
    refine HH.out.mono ?_
    rintro e w1 ⟨rfl, rfl⟩
    rw [hh]
    go_wp2
    refine bodyPost_ret (v := .int .i64 133) (by simp [results, Try.results36, go_sem]) rfl ⟨by rw [HE.out], rfl⟩
  by_cases hid2 : 9999 < id
  · have HE : Hid (K.refE x id = 133) := by unfold Hid; rw [Bk.refE, if_neg (by rw [hh]; decide), if_pos (.inr hid2)]
    go_enter Try.func36, Try.ntmps36
    go_wp2_with fail
    refine HH.out.mono ?_
    rintro e w1 ⟨rfl, rfl⟩
    rw [hh]
    go_wp2
    refine bodyPost_ret (v := .int .i64 133) (by simp [results, Try.results36, go_sem]) rfl ⟨by rw [HE.out], rfl⟩
  rcases hd : K.held x with _ | _
  · have HE : Hid (K.refE x id = 0) := by unfold Hid; rw [Bk.refE, if_neg (by rw [hh]; decide), if_neg (by omega), if_neg (by rw [hd]; decide)]
    go_enter Try.func36, Try.ntmps36
    go_wp2_with fail
    refine HH.out.mono ?_
    rintro e w1 ⟨rfl, rfl⟩
    rw [hh]
    go_wp2_with fail
    refine HG.out.mono ?_
    rintro e w1 ⟨rfl, rfl⟩
    rw [hd]
    go_wp2
    refine bodyPost_ret (v := .int .i64 0) (by simp [results, Try.results36, go_sem]) rfl ⟨by rw [HE.out], rfl⟩
  · have HE : Hid (K.refE x id = 134) := by unfold Hid; rw [Bk.refE, if_neg (by rw [hh]; decide), if_neg (by omega), if_pos hd]
    go_enter Try.func36, Try.ntmps36
    go_wp2_with fail
    refine HH.out.mono ?_
    rintro e w1 ⟨rfl, rfl⟩
    rw [hh]
    go_wp2_with fail
    refine HG.out.mono ?_
    rintro e w1 ⟨rfl, rfl⟩
    rw [hd]
    go_wp2
    refine bodyPost_ret (v := .int .i64 134) (by simp [results, Try.results36, go_sem]) rfl ⟨by rw [HE.out], rfl⟩
end Go.Proofs.Ytnbcidlmckmaaaa
