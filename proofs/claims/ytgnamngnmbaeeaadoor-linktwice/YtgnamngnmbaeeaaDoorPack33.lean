import Derived.Test.YtgnamngnmbaeeaaDoorPack32
namespace Go.Proofs.YtgnamngnmbaeeaaDoor
open Go.RowKit
set_option maxRecDepth 8000
/-- the places of a round's packets -/
def plU (t : Int) : Nat := if t < 0 then (-(t + 1)).toNat else t.toNat
def plK (i n u : Nat) : Nat := (i + u / 6) % n
def plV (n m k : Nat) : Nat := if m = 1 ∨ m = 4 then n - 1 - k else if m = 2 ∨ m = 5 then (if 2 * k + 1 < n then 2 * k + 1 else 2 * (k - n / 2)) else k
def plP (i n : Nat) (t : Int) : Nat := plV n (plU t % 6) (plK i n (plU t))
theorem plV_lt {n m k : Nat} (h : k < n) : plV n m k < n := by
  unfold plV
  split
  · omega
  · split
    · split <;> omega
    · exact h
theorem plP_lt {i n : Nat} (t : Int) (h : i < n) : plP i n t < n := plV_lt (Nat.mod_lt _ (by omega))
theorem plV_sur {n m j : Nat} (h : j < n) : ∃ k, k < n ∧ plV n m k = j := by
  unfold plV
  by_cases h1 : m = 1 ∨ m = 4
  · exact ⟨n - 1 - j, by omega, by rw [if_pos h1]; omega⟩
  · by_cases h2 : m = 2 ∨ m = 5
    · by_cases h3 : j % 2 = 1
      · exact ⟨j / 2, by omega, by rw [if_neg h1, if_pos h2, if_pos (by omega)]; omega⟩
      · exact ⟨j / 2 + n / 2, by omega, by rw [if_neg h1, if_pos h2, if_neg (by omega)]; omega⟩
    · exact ⟨j, h, by rw [if_neg h1, if_neg h2]⟩
theorem plK_sur {n k : Nat} (u : Nat) (h : k < n) : ∃ i, i < n ∧ plK i n u = k := by
  have hn : 0 < n := by omega
  refine ⟨(k + (n - u / 6 % n)) % n, Nat.mod_lt _ hn, ?_⟩
  unfold plK
  rw [Nat.mod_add_mod]
  have h1 := Nat.div_add_mod (u / 6) n
  have h2 := Nat.mod_lt (u / 6) hn
  rw [show k + (n - u / 6 % n) + u / 6 = k + n + n * (u / 6 / n) by omega, Nat.add_mul_mod_self_left, Nat.add_mod_right, Nat.mod_eq_of_lt h]
theorem plP_sur {n j : Nat} (t : Int) (h : j < n) : ∃ i, i < n ∧ plP i n t = j := by
  obtain ⟨k, h1, h2⟩ := plV_sur (m := plU t % 6) h
  obtain ⟨i, h3, h4⟩ := plK_sur (plU t) h1
  exact ⟨i, h3, by unfold plP; rw [h4]; exact h2⟩
theorem place_num (i n : Nat) (t : Int) (hi : i < n) (hn : n ≤ 16) (ht : Fit64 t) : ∃ u v m k : Nat, u = plU t ∧ (t < 0 → IntKind.i64.wrap (t + 1) = t + 1 ∧ IntKind.i64.wrap (-(t + 1)) = (u : Int)) ∧ (¬ t < 0 → t = (u : Int)) ∧ (u : Int).tdiv 6 = (v : Int) ∧ IntKind.i64.wrap (v : Int) = (v : Int) ∧
    IntKind.i64.wrap ((i : Int) + (v : Int)) = (i : Int) + (v : Int) ∧ ((i : Int) + (v : Int)).tmod (n : Int) = (k : Int) ∧ (u : Int).tmod 6 = (m : Int) ∧ m < 6 ∧ k < n ∧ plP i n t = plV n m k := by
  unfold Fit64 at ht
  have hu : plU t ≤ 9223372036854775807 ∧ (t < 0 → (plU t : Int) = -(t + 1)) ∧ (¬ t < 0 → t = (plU t : Int)) := by unfold plU; split <;> omega
  refine ⟨plU t, plU t / 6, plU t % 6, plK i n (plU t), rfl, fun h => ⟨wr64 (by omega) (by omega), ?_⟩, hu.2.2, ?_, wr64 (by omega) (by omega), wr64 (by omega) (by omega), ?_, ?_, Nat.mod_lt _ (by decide), Nat.mod_lt _ (by omega), rfl⟩
  · rw [wr64 (by omega) (by omega)]; exact (hu.2.1 h).symm
  · rw [Int.tdiv_eq_ediv_of_nonneg (by omega)]; rfl
  · rw [Int.tmod_eq_emod_of_nonneg (by omega)]; unfold plK; rw [Int.natCast_emod]; rfl
  · rw [Int.tmod_eq_emod_of_nonneg (by omega)]; rfl
theorem plV_num (n k : Nat) (hk : k < n) (hn : n ≤ 16) : ∃ h2 : Nat, (n : Int).tdiv 2 = (h2 : Int) ∧ h2 = n / 2 ∧ IntKind.i64.wrap (h2 : Int) = (h2 : Int) ∧ IntKind.i64.wrap ((n : Int) - 1) = (n : Int) - 1 ∧ IntKind.i64.wrap ((n : Int) - 1 - (k : Int)) = ((n - 1 - k : Nat) : Int) ∧ IntKind.i64.wrap (2 * (k : Int)) = 2 * (k : Int) ∧
    IntKind.i64.wrap (2 * (k : Int) + 1) = 2 * (k : Int) + 1 ∧ IntKind.i64.wrap ((k : Int) - (h2 : Int)) = (k : Int) - (h2 : Int) ∧ IntKind.i64.wrap (2 * ((k : Int) - (h2 : Int))) = 2 * ((k : Int) - (h2 : Int)) := by
  refine ⟨n / 2, ?_, rfl, ?_, ?_, ?_, ?_, ?_, ?_, ?_⟩
  · rw [Int.tdiv_eq_ediv_of_nonneg (by omega)]; rfl
  all_goals rw [wr64 (by omega) (by omega)]
  omega
set_option maxHeartbeats 8000000 in
theorem place_any (i n : Nat) (t : Int) (hi : i < n) (hn : n ≤ 16) (ht : Fit64 t) (w : World) : Calls Tryd.prog 29 #[.int .i64 (i : Int), .int .i64 (n : Int), .int .i64 t] w fun e w' => e = .returned (.int .i64 (plP i n t : Int)) ∧ w' = w := by
  obtain ⟨u, v, m, k, hu, hneg, hpos, hd6, hwv, hiv, hrem, hm6, hm, hk, hP⟩ := place_num i n t hi hn ht
  obtain ⟨h2, hd2, hh2, hw2, hn1, hnk, h2k, h2k1, hkh, h2kh⟩ := plV_num n k hk hn
  have HP := hid hP
  have HH := hid hh2
  have HK := hid hk
  have hn0 : ¬ (n : Int) = 0 := by omega
  clear hP hu ht hi hn hh2
  have tail : ∀ (x : Nat) (w1 : World), x = plV n m k → w1 = w → (Ending.returned (.int .i64 (x : Int)) = .returned (.int .i64 (plP i n t : Int)) ∧ w1 = w) := fun x w1 e e1 => by rw [HP.out, e]; exact ⟨rfl, e1⟩
  have HT := hid tail
  clear tail
  by_cases ht0 : t < 0
  case' pos =>
    obtain ⟨hw3, hw4⟩ := hneg ht0
    clear hneg hpos
  case' neg =>
    have hj := hpos ht0
    clear hneg hpos
    subst hj
  all_goals match m, hm with
    | 0, _ => ?_
    | 1, _ => ?_
    | 2, _ => ?_
    | 3, _ => ?_
    | 4, _ => ?_
    | 5, _ => ?_
  all_goals clear hm
  all_goals go_enter Tryd.func29, Tryd.ntmps29
  all_goals go_wp2_with fail
  all_goals first
    | exact bodyPost_ret (v := .int .i64 (k : Int)) (by simp [results, Tryd.results29, go_sem]) rfl (HT.out k _ rfl rfl)
    | exact bodyPost_ret (v := .int .i64 ((n - 1 - k : Nat) : Int)) (by simp [results, Tryd.results29, go_sem]) rfl (HT.out (n - 1 - k) _ rfl rfl)
    | exact bodyPost_ret (v := .int .i64 (2 * (k : Int) + 1)) (by simp [results, Tryd.results29, go_sem]) rfl (by
        rw [show 2 * (k : Int) + 1 = ((2 * k + 1 : Nat) : Int) by omega]
        exact HT.out (2 * k + 1) _ (by unfold plV; rw [if_neg (by decide), if_pos (by decide), if_pos (by omega)]) rfl)
    | exact bodyPost_ret (v := .int .i64 (2 * ((k : Int) - (h2 : Int)))) (by simp [results, Tryd.results29, go_sem]) rfl (by
        have e2 := HH.out
        rw [show 2 * ((k : Int) - (h2 : Int)) = ((2 * (k - n / 2) : Nat) : Int) by omega]
        exact HT.out (2 * (k - n / 2)) _ (by unfold plV; rw [if_neg (by decide), if_pos (by decide), if_neg (by omega)]) rfl)
end Go.Proofs.YtgnamngnmbaeeaaDoor

namespace Go.Proofs.YtgnamngnmbaeeaaDoor
open Go.RowKit
set_option maxRecDepth 8000
/-- the ends within a round -/
def tkR (S : LS) (n : Nat) (t : Int) : Nat → RA
  | 0 => S.R
  | k + 1 => takeN (tkR S n t k) (pktD S.A (plP k n t))
def tkB (S : LS) (n : Nat) (t : Int) : Nat → List (List Int)
  | 0 => []
  | k + 1 => tkB S n t k ++ [pktA (tkR S n t (k + 1))]
def akA (A : SA) (B : List (List Int)) (n : Nat) (t : Int) : Nat → SA
  | 0 => A
  | k + 1 => ackN (akA A B n t k) (B.getD (plP k n t) [])
theorem tick_read {S : LS} (h : Inv S) (hz : S.P.length ≤ 1073741824) {j : Nat} (hj : j < S.A.q.length) : ∃ m, S.P[S.A.an + j]? = some m ∧ readP (pktD S.A j) = some ⟨68, S.R.ln, S.A.an + j + 1, 0, m⟩ := by
  have han := h.an
  have hl : S.A.an + j < S.P.length := by omega
  have hm : S.A.q.getD j [] = S.P[S.A.an + j] := by
    rw [List.getD_eq_getElem?_getD, h.q, List.getElem?_drop, List.getElem?_eq_getElem hl, Option.getD_some]
  refine ⟨S.P[S.A.an + j], List.getElem?_eq_getElem hl, ?_⟩
  unfold pktD
  rw [hm, h.ln.1, show S.A.an + 1 + j = S.A.an + j + 1 by omega]
  exact read_data h.ln.2 ⟨by omega, by omega⟩ (h.pm _ (List.getElem_mem hl))
structure TkI (S : LS) (n : Nat) (t : Int) (k : Nat) : Prop where
  inv : Inv { S with R := tkR S n t k }
  ln : (tkR S n t k).ln = S.R.ln
  wi : (tkR S n t k).wi = S.R.wi
  wd : (tkR S n t k).wd = S.R.wd
  wt : S.R.wt ≤ (tkR S n t k).wt
  len : (tkB S n t k).length = k
  ans : ∀ z ∈ tkB S n t k, IsAns { S with R := tkR S n t k } z
  last : 0 < k → (tkB S n t k)[k - 1]? = some (pktA (tkR S n t k))
  got : ∀ i, i < k → plP i n t < S.R.wi → Got (tkR S n t k) (S.A.an + plP i n t + 1)
theorem tki_step {S : LS} {n : Nat} {t : Int} {k : Nat} (h0 : Inv S) (hz : S.P.length ≤ 1073741824) (hn : n ≤ S.A.q.length) (hk : k < n) (h : TkI S n t k) : unpE (tkR S n t k).ln 68 (pktD S.A (plP k n t)) = 0 ∧ TkI S n t (k + 1) := by
  have hj := plP_lt t hk
  obtain ⟨m, hm, hr⟩ := tick_read h0 hz (j := plP k n t) (by omega)
  have hu : unpE (tkR S n t k).ln 68 (pktD S.A (plP k n t)) = 0 := unpE_read hr rfl h.ln.symm
  have hT : TkF (tkR S n t k) (S.A.an + plP k n t + 1) m (tkR S n t (k + 1)) := by
    have e : tkR S n t (k + 1) = readyR (keepR (tkR S n t k) (S.A.an + plP k n t + 1) m) := by
      show takeN _ _ = _
      unfold takeN
      rw [hr]
      simp only
      rw [if_pos hu]
    rw [e]
    exact take_f _ _ _
  have hI : Inv { S with R := tkR S n t (k + 1) } := TkF.inv (S := { S with R := tkR S n t k }) h.inv hm hT
  refine ⟨hu, hI, hT.ln.trans h.ln, hT.wi.trans h.wi, hT.wd.trans h.wd, Nat.le_trans h.wt hT.wt, ?_, fun z hz => ?_, fun _ => ?_, fun i hi hw => ?_⟩
  · show (tkB S n t k ++ [_]).length = k + 1
    rw [List.length_append, h.len]; rfl
  · have hz' : z ∈ tkB S n t k ++ [pktA (tkR S n t (k + 1))] := hz
    simp only [List.mem_append, List.mem_singleton] at hz'
    rcases hz' with hz' | rfl
    · exact (h.ans z hz').mono hT.ln hT.wt fun _ h => h
    · exact ans_now hI
  · show (tkB S n t k ++ [pktA (tkR S n t (k + 1))])[k + 1 - 1]? = _
    rw [List.getElem?_append_right (by rw [h.len]; omega), h.len]
    simp
  · rcases Nat.lt_or_ge i k with e | e
    · exact hT.mono _ (h.got i e hw)
    · obtain rfl : i = k := by omega
      refine hT.got ?_
      have h1 := h0.le
      have h2 := h.wt
      rw [h.wi]
      omega
theorem tki_zero {S : LS} (h0 : Inv S) (n : Nat) (t : Int) : TkI S n t 0 :=
  ⟨h0, rfl, rfl, rfl, Nat.le_refl _, rfl, (fun z hz => by cases hz), (fun h => absurd h (by omega)), fun i hi => absurd hi (by omega)⟩
theorem tki_all {S : LS} {n : Nat} {t : Int} (h0 : Inv S) (hz : S.P.length ≤ 1073741824) (hn : n ≤ S.A.q.length) : ∀ k, k ≤ n → TkI S n t k
  | 0, _ => tki_zero h0 n t
  | k + 1, hk => (tki_step h0 hz hn hk (tki_all h0 hz hn k (by omega))).2
theorem tki_end {S : LS} {n : Nat} {t : Int} (h0 : Inv S) (h : TkI S n t n) : S.A.an + min n S.R.wi + 1 ≤ (tkR S n t n).wt := by
  refine Classical.byContradiction fun hc => ?_
  have h1 := h0.le
  have h2 := h.wt
  obtain ⟨j, hj⟩ : ∃ j, (tkR S n t n).wt = S.A.an + j + 1 := ⟨(tkR S n t n).wt - S.A.an - 1, by omega⟩
  obtain ⟨i, hi, hp⟩ := plP_sur t (show j < n by omega)
  have h3 := h.got i hi (by rw [hp]; omega)
  rw [hp, ← hj] at h3
  rcases h3 with h3 | h3
  · omega
  · have h4 : lkp (tkR S n t n).kp (tkR S n t n).wt = none := h.inv.se
    rw [h4] at h3
    cases h3
structure AkI (S : LS) (B : List (List Int)) (n : Nat) (t : Int) (k : Nat) : Prop where
  inv : Inv { S with A := akA S.A B n t k }
  wi : (akA S.A B n t k).wi = S.A.wi
  an : S.A.an ≤ (akA S.A B n t k).an
  last : (∃ i, i < k ∧ plP i n t + 1 = n) → (akA S.A B n t k).an + 1 = S.R.wt ∧ (akA S.A B n t k).wd = S.R.wd
theorem aki_zero {S : LS} (h0 : Inv S) (B : List (List Int)) (n : Nat) (t : Int) : AkI S B n t 0 := ⟨h0, rfl, Nat.le_refl _, fun ⟨i, h, _⟩ => absurd h (by omega)⟩
theorem aki_step {S : LS} {B : List (List Int)} {n : Nat} {t : Int} {k : Nat} (hz : S.P.length ≤ 1073741824) (hB : ∀ z ∈ B, IsAns S z) (hl : B.length = n) (hL : 0 < n → B[n - 1]? = some (pktA S.R)) (hk : k < n) (h : AkI S B n t k) :
    ackE (akA S.A B n t k) (B.getD (plP k n t) []) = 0 ∧ AkI S B n t (k + 1) := by
  have hj := plP_lt t hk
  have hmem : B.getD (plP k n t) [] ∈ B := by
    rw [List.getD_eq_getElem?_getD, List.getElem?_eq_getElem (by omega), Option.getD_some]
    exact List.getElem_mem _
  have ha : IsAns { S with A := akA S.A B n t k } (B.getD (plP k n t) []) := (hB _ hmem).mono rfl (Nat.le_refl _) fun _ h => h
  have hI := h.inv.ack1 hz ha
  obtain ⟨he, nx, wd, h1, h2, h3, h4, h5, h6⟩ := ack_ans h.inv hz ha
  have h6' : akA S.A B n t (k + 1) = { akA S.A B n t k with q := (akA S.A B n t k).q.drop (max (akA S.A B n t k).an (nx - 1) - (akA S.A B n t k).an), an := max (akA S.A B n t k).an (nx - 1), wd := max (akA S.A B n t k).wd wd } := h6
  have e1 : (akA S.A B n t (k + 1)).an = max (akA S.A B n t k).an (nx - 1) := by rw [h6']
  have e2 : (akA S.A B n t (k + 1)).wd = max (akA S.A B n t k).wd wd := by rw [h6']
  have hle : (akA S.A B n t k).an + 1 ≤ S.R.wt := h.inv.le
  have hwd : (wd : Int) ≤ S.td := h.inv.wsl _ h3
  have hwd2 : ((akA S.A B n t k).wd : Int) ≤ S.td := h.inv.wsl _ h.inv.aw
  have htd : S.td = (S.R.wd : Int) := h.inv.td
  have h2' : nx ≤ S.R.wt := h2
  refine ⟨he, hI, ?_, ?_, fun ⟨i, hi, hp⟩ => ?_⟩
  · rw [h6']; exact h.wi
  · rw [e1]; have := h.an; omega
  · rw [e1, e2]
    rcases Nat.lt_or_ge i k with e | e
    · obtain ⟨l1, l2⟩ := h.last ⟨i, e, hp⟩
      omega
    · obtain rfl : i = k := by omega
      have hb : B.getD (plP i n t) [] = pktA S.R := by
        have h7 := hL (by omega)
        rw [show n - 1 = plP i n t by omega] at h7
        rw [List.getD_eq_getElem?_getD, h7]; rfl
      rw [hb] at h5
      have hln := h.inv.ln.2
      have hwt := h.inv.wt
      have h8 : readP (pktA S.R) = some ⟨65, S.R.ln, S.R.wt, S.R.wd, []⟩ := read_ans hln (by have : S.R.wt ≤ S.P.length + 1 := hwt; omega) h.inv.wdl
      rw [h8] at h5
      simp only [Option.some.injEq, Let.mk.injEq, true_and, and_true] at h5
      obtain ⟨e3, e4⟩ := h5
      have e3' : S.R.wt = nx := e3
      have e4' : S.R.wd = wd := e4
      omega
theorem aki_all {S : LS} {B : List (List Int)} {n : Nat} {t : Int} (h0 : Inv S) (hz : S.P.length ≤ 1073741824) (hB : ∀ z ∈ B, IsAns S z) (hl : B.length = n) (hL : 0 < n → B[n - 1]? = some (pktA S.R)) : ∀ k, k ≤ n → AkI S B n t k
  | 0, _ => aki_zero h0 B n t
  | k + 1, hk => (aki_step hz hB hl hL hk (aki_all h0 hz hB hl hL k (by omega))).2
/-- the line behind a round -/
def rnN (S : LS) : Nat := min S.A.q.length S.A.wi
def rnR (S : LS) (t : Int) : LS := { S with R := tkR S (rnN S) t (rnN S) }
def rnS (S : LS) (t : Int) : LS := { S with R := tkR S (rnN S) t (rnN S), A := akA S.A (tkB S (rnN S) t (rnN S)) (rnN S) (t.tdiv 3) (rnN S) }
theorem round_pure {S : LS} (h : Inv S) (hz : S.P.length ≤ 1073741824) (t : Int) : Inv (rnS S t) ∧ Grw S (rnS S t) 0 ∧ S.A.an ≤ (rnS S t).A.an ∧ (0 < S.A.q.length → (rnS S t).A.an + 1 = (rnS S t).R.wt ∧ (rnS S t).A.wd = (rnS S t).R.wd ∧ min (S.A.an + min S.A.wi S.R.wi) S.P.length ≤ (rnS S t).A.an) := by
  have hn : rnN S ≤ S.A.q.length := Nat.min_le_left _ _
  have hT := tki_all (t := t) h hz hn (rnN S) (Nat.le_refl _)
  have hA := aki_all (S := rnR S t) (t := t.tdiv 3) hT.inv hz hT.ans hT.len hT.last (rnN S) (Nat.le_refl _)
  have hwi := h.wi
  have han := h.an
  refine ⟨hA.inv, ⟨Nat.le_refl _, Nat.le_refl _, hA.wi, hT.wi⟩, hA.an, fun hq => ?_⟩
  have hp : 0 < rnN S := by unfold rnN; omega
  obtain ⟨i, hi, hpi⟩ := plP_sur (t.tdiv 3) (show rnN S - 1 < rnN S by omega)
  obtain ⟨l1, l2⟩ := hA.last ⟨i, hi, by omega⟩
  have h3 := tki_end h hT
  have l1' : (rnS S t).A.an + 1 = (rnS S t).R.wt := l1
  have l2' : (rnS S t).A.wd = (rnS S t).R.wd := l2
  have h3' : S.A.an + min (rnN S) S.R.wi + 1 ≤ (rnS S t).R.wt := h3
  refine ⟨l1', l2', ?_⟩
  unfold rnN at h3'
  omega
end Go.Proofs.YtgnamngnmbaeeaaDoor
