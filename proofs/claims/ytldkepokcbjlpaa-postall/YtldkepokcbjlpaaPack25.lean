import Derived.Test.YtldkepokcbjlpaaPack24
namespace Go.Proofs.Ytldkepokcbjlpaa
open Go.RowKit Go.Conc
set_option maxRecDepth 60000
def rowM (f g : Nat → Int) (k n : Nat) : List Value := (List.range n).map fun j => .int .i64 (if j < k then g j else f j)
def chgN (f g : Nat → Int) : Nat → Nat
  | 0 => 0
  | k + 1 => chgN f g k + if g k = f k then 0 else 1
theorem chgN_mono (f g : Nat → Int) {i j : Nat} (h : i ≤ j) : chgN f g i ≤ chgN f g j := by
  induction h with
  | refl => exact Nat.le_refl _
  | step _ ih => rw [chgN]; omega
theorem rowM_set {f g : Nat → Int} {k n : Nat} (hk : k < n) : (rowM f g k n).set k (.int .i64 (g k)) = rowM f g (k + 1) n := by
  unfold rowM
  apply List.ext_getElem?
  intro i
  rw [List.getElem?_set]
  simp only [List.length_map, List.length_range, List.getElem?_map]
  by_cases hi : i < n
  · rw [List.getElem?_range hi]
    by_cases h : k = i
    · subst h; simp [hk]
    · rw [if_neg h]
      simp only [Option.map_some, Option.some.injEq]
      by_cases h2 : i < k
      · rw [if_pos h2, if_pos (by omega)]
      · rw [if_neg h2, if_neg (by omega)]
  · rw [List.getElem?_eq_none (by simp; omega)]
    by_cases h : k = i
    · subst h; omega
    · rw [if_neg h]; rfl
theorem Ps.stat_at (P : Ps) {k : Nat} (hk : k < P.sts.n) : P.stat (P.first + (k : Int)) = P.sts.item k := by
  unfold Ps.stat Ps.next
  rw [if_neg (by omega), show (P.first + (k : Int) - P.first).toNat = k by omega]
set_option maxHeartbeats 8000000 in
theorem moved_any (w : World) (b : Nat) (P : Ps) (hI : PsI w b P) (base g c : Nat) (f : Nat → Int) (ho : w.ownsRow base 3 1 (.slice (some ⟨g, 0, none⟩) P.sts.n c) P.sts.n (rowM f P.sts.item 0 P.sts.n)) (hne : ¬ P.C b g) (hm : ∀ j, j < P.sts.n → mayB (f j) (P.sts.item j) = true) (hf : ∀ j, j < P.sts.n → 0 ≤ f j ∧ f j ≤ 4) (hc : chgN f P.sts.item P.sts.n ≤ 1) (hl : ∀ j, j < P.sts.n → (P.sts.item j = 1 ↔ P.under = P.first + (j : Int))) :
    Calls Try.prog 17 #[.pointer (some ⟨b, 0, none⟩), .int .i64 P.first, .slice (some ⟨g, 0, none⟩) P.sts.n c] w fun e w' => e = .returned (.bool true) ∧ w'.ownsRow base 3 1 (.slice (some ⟨g, 0, none⟩) P.sts.n c) P.sts.n (rowM f P.sts.item P.sts.n P.sts.n) ∧ But (fun k => k = g) w w' := by
  have HI := hid hI
  have HOp := hid (open_any w b P hI)
  have hn1 := hI.n1
  have hf0 := hI.f0
  have hf1 := hI.f1
  have hgw := (ho.lt g rfl).2
  have HA := hid (And.intro ho (And.intro hne (And.intro hm (And.intro hf (And.intro hc hl)))))
  clear hI ho hne hm hf hc hl
  go_enter Try.func17, Try.ntmps17
  go_wp2_with (go_at_call 21; refine HOp.out.mono ?_; rintro e w1 ⟨p1, c1, N1, hN1, rfl, hq1⟩; clear hN1; have H1 := hid hq1.bel; clear hq1)
  clear HOp
  go_loopw [9, 10] (fun y x wr => ∃ k : Nat, k ≤ P.sts.n ∧ x = .int .i64 (k : Int) ∧ y = .int .i64 ((chgN f P.sts.item k : Nat) : Int) ∧ wr.ownsRow base 3 1 (.slice (some ⟨g, 0, none⟩) P.sts.n c) P.sts.n (rowM f P.sts.item k P.sts.n) ∧ But (fun k => k = g) w wr) (fun _ x _ => P.sts.n - (intOf x).toNat)
  case atStart => exact ⟨0, Nat.zero_le _, rfl, rfl, ownsRow_keep HA.out.1 (fun k hk hl => H1.out.block k hl), But.ofBelow H1.out⟩
  case round =>
    obtain ⟨k, hk, rfl, rfl, hO, hbt⟩ := hrel
    have hIr : PsI wr b P := HI.out.kept fun j hj hl => hbt.block j hl (fun e => HA.out.2.1 (by rw [← e]; exact hj))
    have hgl := (hO.lt g rfl).2
    have HO := hid (And.intro hO hbt)
    have HIr := hid hIr
    have hcm := chgN_mono f P.sts.item hk
    have hc1 := HA.out.2.2.2.2.1
    clear hO hbt hIr
    by_cases hlt : k < P.sts.n
    · have hlt' : (k : Int) < (P.sts.n : Int) := by omega
      have HSt := hid (Status_any (P.first + (k : Int)) wr b P HIr.out)
      have HStE := hid (P.stat_at hlt)
      have HSt4 := hid (HIr.out.st k hlt)
      have HF := hid (HA.out.2.2.2.1 k hlt)
      have HMay := hid (HA.out.2.2.1 k hlt)
      have hsum : IntKind.i64.wrap (P.first + (k : Int)) = P.first + (k : Int) := by rw [IntKind.wrap_i64]; omega
      have HL := hid (HA.out.2.2.2.2.2 k hlt)
      have hb1 : (P.sts.item k == 1) = (P.under == P.first + (k : Int)) := by
        rw [Bool.eq_iff_iff, beq_iff_eq, beq_iff_eq]; exact HL.out
      by_cases he : P.sts.item k = f k
      · have HE : Hid (chgN f P.sts.item (k + 1) = chgN f P.sts.item k) := by unfold Hid; rw [chgN, if_pos he]; rfl
        have he' : (P.sts.item k != f k) = false := by simp [he]
        have HB1 := hid hb1
        have HE1 := hid he'
        clear hb1 he' he
        go_wp2_with fail
        refine HSt.out.mono ?_
        rintro e w2 ⟨rfl, hb2⟩
        rw [HStE.out]
        have hO2 := ownsRow_keep HO.out.1 (fun k hk hl => hb2.block k hl)
        have t0 : w2.cell? ⟨g, k, none⟩ = some (.int .i64 (f k)) := by
          have h := hO2.cellAt k (by omega)
          rw [h]
          simp [rowM, List.getElem?_range hlt]
        have f0 : w2.frozen? ⟨g, k, none⟩ = false := hO2.frozenAt k
        have gl2 := Nat.lt_of_lt_of_le hgl hb2.size
        have HO2 := hid hO2
        have HB2 := hid hb2
        clear hO2 hb2 HSt
        have HY := hid (may_any (f k) (P.sts.item k) HF.out HSt4.out w2)
        go_wp2_with fail
        refine HY.out.mono ?_
        rintro e w3 ⟨rfl, rfl⟩
        rw [HMay.out]
        have hb1 := HB1.out
        have he' := HE1.out
        clear HY
        go_wp2_with fail
        go_roundw
        case rel =>
          have h3 := HO2.out.stored k (.int .i64 (P.sts.item k))
          rw [rowM_set hlt] at h3
          exact ⟨k + 1, by omega, by go_num, by rw [HE.out]; try rfl, h3.1, HO.out.2.trans ((But.ofBelow HB2.out).trans ((But.one w3 g).setAt k _))⟩
        case measure => simp [intOf]; omega
      · have HE : Hid (chgN f P.sts.item (k + 1) = chgN f P.sts.item k + 1) := by unfold Hid; rw [chgN, if_neg he]
        have he' : (P.sts.item k != f k) = true := by simp [he]
        have HB1 := hid hb1
        have HE1 := hid he'
        clear hb1 he' he
        go_wp2_with fail
        refine HSt.out.mono ?_
        rintro e w2 ⟨rfl, hb2⟩
        rw [HStE.out]
        have hO2 := ownsRow_keep HO.out.1 (fun k hk hl => hb2.block k hl)
        have t0 : w2.cell? ⟨g, k, none⟩ = some (.int .i64 (f k)) := by
          have h := hO2.cellAt k (by omega)
          rw [h]
          simp [rowM, List.getElem?_range hlt]
        have f0 : w2.frozen? ⟨g, k, none⟩ = false := hO2.frozenAt k
        have gl2 := Nat.lt_of_lt_of_le hgl hb2.size
        have HO2 := hid hO2
        have HB2 := hid hb2
        clear hO2 hb2 HSt
        have HY := hid (may_any (f k) (P.sts.item k) HF.out HSt4.out w2)
        go_wp2_with fail
        refine HY.out.mono ?_
        rintro e w3 ⟨rfl, rfl⟩
        rw [HMay.out]
        have hb1 := HB1.out
        have he' := HE1.out
        clear HY
        go_wp2_with fail
        go_roundw
        case rel =>
          have h3 := HO2.out.stored k (.int .i64 (P.sts.item k))
          rw [rowM_set hlt] at h3
          exact ⟨k + 1, by omega, by go_num, by rw [HE.out]; try rfl, h3.1, HO.out.2.trans ((But.ofBelow HB2.out).trans ((But.one w3 g).setAt k _))⟩
        case measure => simp [intOf]; omega
    · obtain rfl : k = P.sts.n := by omega
      have hcz : ((chgN f P.sts.item P.sts.n : Nat) : Int) ≤ 1 := by omega
      have hsn : IntKind.i64.wrap (P.first + (P.sts.n : Int)) = P.first + (P.sts.n : Int) := by rw [IntKind.wrap_i64]; omega
      have hsm : IntKind.i64.wrap (P.first - 1) = P.first - 1 := by rw [IntKind.wrap_i64]; omega
      have hlt' : ¬ (P.sts.n : Int) < (P.sts.n : Int) := by omega
      have HS1 := hid (Status_any (P.first + (P.sts.n : Int)) wr b P HIr.out)
      have HE1 : Hid (P.stat (P.first + (P.sts.n : Int)) = 0) := if_pos (.inr (by unfold Ps.next; omega))
      have HE2 : Hid (P.stat (P.first - 1) = 0) := if_pos (.inl (by omega))
      go_wp2_with fail
      refine HS1.out.mono ?_
      rintro e w2 ⟨rfl, hb2⟩
      rw [HE1.out]
      have HB2 := hid hb2
      have HS2 := hid (Status_any (P.first - 1) w2 b P (HIr.out.below hb2))
      clear hb2 HS1
      go_wp2_with fail
      refine HS2.out.mono ?_
      rintro e w3 ⟨rfl, hb3⟩
      rw [HE2.out]
      have HB3 := hid hb3
      clear hb3 HS2
      go_wp2
      refine bodyPost_ret (v := .bool true) (by simp [results, Try.results17, go_sem]) rfl ?_
      exact ⟨rfl, ownsRow_keep (ownsRow_keep HO.out.1 (fun k hk hl => HB2.out.block k hl)) (fun k hk hl => HB3.out.block k hl), HO.out.2.trans ((But.ofBelow HB2.out).trans (But.ofBelow HB3.out))⟩
end Go.Proofs.Ytldkepokcbjlpaa

namespace Go.Proofs.Ytldkepokcbjlpaa
open Go.RowKit Go.Conc
theorem room_le : ∀ (T : Nat) (l : List Nat), l.Nodup → (∀ a ∈ l, a < T) → l.length ≤ T
  | 0, l, _, hl => by
    cases l with
    | nil => exact Nat.le_refl _
    | cons a r => exact absurd (hl a (List.mem_cons_self ..)) (Nat.not_lt_zero _)
  | T + 1, l, hn, hl => by
    by_cases hT : T ∈ l
    · have h1 : (l.erase T).length = l.length - 1 := List.length_erase_of_mem hT
      have h3 := room_le T (l.erase T) (hn.erase T) (fun a ha => by
        have h4 := (hn.mem_erase_iff).1 ha
        have := hl a h4.2
        have := h4.1
        omega)
      omega
    · have := room_le T l hn (fun a ha => by
        have := hl a ha
        have : a ≠ T := fun e => hT (e ▸ ha)
        omega)
      omega
theorem room_lt (T : Nat) (l : List Nat) (hn : l.Nodup) (hl : ∀ a ∈ l, a < T) (i : Nat) (hi : i < T) (hm : i ∉ l) : l.length < T :=
  room_le T (i :: l) (List.nodup_cons.2 ⟨hm, hn⟩) (fun a ha => by rcases List.mem_cons.1 ha with e | e; omega; exact hl a e)
end Go.Proofs.Ytldkepokcbjlpaa
