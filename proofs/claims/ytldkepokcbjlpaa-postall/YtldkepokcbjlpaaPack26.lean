import Derived.Test.YtldkepokcbjlpaaPack25
namespace Go.Proofs.Ytldkepokcbjlpaa
open Go.RowKit Go.Conc
/-- what holds between two calls -/
structure PInv (P : Ps) (L : List Value) : Prop where
  ls : ∃ ts : List (Nat × PtT), L = ts.map (fun q => letV q.1 q.2) ∧ (ts.map (·.1)).Nodup ∧ ∀ q ∈ ts, (q.1 : Int) < P.tasks ∧ P.pl q.1 = 1
  un : P.under = 0 → L = [] ∧ ∀ i, i < 12 → P.pl i = 0
  la : ∀ j, j + 1 < P.sts.n → P.sts.item j ≠ 1
theorem PInv.nil {P : Ps} (h0 : ∀ i, i < 12 → P.pl i = 0) (hl : ∀ j, j + 1 < P.sts.n → P.sts.item j ≠ 1) : PInv P [] :=
  ⟨⟨[], rfl, List.nodup_nil, fun q hq => absurd hq (by simp)⟩, fun _ => ⟨rfl, h0⟩, hl⟩
theorem Ps.refE_zero {P : Ps} {id task : Int} (h : P.refE id task = 0) : 0 ≤ task ∧ task < P.tasks ∧ ¬ P.under = 0 ∧ P.pl task.toNat = 0 := by
  unfold Ps.refE at h
  split at h
  · cases h
  · rename_i h1
    split at h
    · cases h
    · rename_i h2
      split at h
      · cases h
      · rename_i h3
        refine ⟨by omega, by omega, fun e => h2 (.inl e), ?_⟩
        by_cases h4 : P.pl task.toNat = 0
        · exact h4
        · exact absurd h4 h3
theorem PInv.room {P : Ps} {L : List Value} (h : PInv P L) {id task : Int} (hr : P.refE id task = 0) : L.length < P.tasks.toNat := by
  obtain ⟨ts, rfl, hn, hq⟩ := h.ls
  obtain ⟨h0, h1, _, h3⟩ := Ps.refE_zero hr
  have := room_lt P.tasks.toNat (ts.map (·.1)) hn (fun a ha => by
    obtain ⟨q, hq1, rfl⟩ := List.mem_map.1 ha
    have := (hq q hq1).1
    omega) task.toNat (by omega) (fun hm => by
    obtain ⟨q, hq1, e⟩ := List.mem_map.1 hm
    have h5 := (hq q hq1).2
    rw [e, h3] at h5
    cases h5)
  simpa using this
theorem Ps.under_hand (P : Ps) (i : Nat) : (P.hand i).under = P.under := rfl
theorem PInv.handed {P : Ps} {L : List Value} (h : PInv P L) {id : Int} {i : Nat} (u : PtT) (hr : P.refE id (i : Int) = 0) : PInv (P.hand i) (L ++ [letV i u]) := by
  obtain ⟨ts, rfl, hn, hq⟩ := h.ls
  obtain ⟨h0, h1, h2, h3⟩ := Ps.refE_zero hr
  rw [Int.toNat_natCast] at h3
  have hni : i ∉ ts.map (·.1) := fun hm => by
    obtain ⟨q, hq1, e⟩ := List.mem_map.1 hm
    have h5 := (hq q hq1).2
    rw [e, h3] at h5
    cases h5
  refine ⟨⟨ts ++ [(i, u)], by simp, ?_, fun q hq1 => ?_⟩, fun h => absurd h h2, h.la⟩
  · rw [List.map_append, List.nodup_append]
    refine ⟨hn, by simp, fun a ha b hb e => ?_⟩
    simp only [List.map_cons, List.map_nil, List.mem_singleton] at hb
    exact hni (by rw [← hb, ← e]; exact ha)
  · rcases List.mem_append.1 hq1 with h4 | h4
    · refine ⟨(hq q h4).1, ?_⟩
      show (if q.1 = i then 1 else P.pl q.1) = 1
      split
      · rfl
      · exact (hq q h4).2
    · simp only [List.mem_singleton] at h4
      subst h4
      exact ⟨h1, by show (if i = i then (1 : Int) else P.pl i) = 1; rw [if_pos rfl]⟩
end Go.Proofs.Ytldkepokcbjlpaa

namespace Go.Proofs.Ytldkepokcbjlpaa
open Go.RowKit Go.Conc
theorem PInv.not1 {P : Ps} {L : List Value} (h : PInv P L) (hf : 1 ≤ P.first) (hu : P.under = 0) : ∀ j, j < P.sts.n → P.sts.item j ≠ 1 := fun j hj => by
  by_cases h1 : j + 1 < P.sts.n
  · exact h.la j h1
  · intro h2
    have h3 : P.stat (P.next - 1) = 1 := by
      rw [show P.next - 1 = P.first + (j : Int) by unfold Ps.next; omega, P.stat_at hj]; exact h2
    unfold Ps.under at hu
    rw [if_pos h3] at hu
    unfold Ps.next at hu
    omega
theorem PInv.trig {P : Ps} {L : List Value} (h : PInv P L) (hf : 1 ≤ P.first) (hu : P.under = 0) (p : Option Addr) (c : Nat) : L = [] ∧ PInv (P.push p c 1) L := by
  obtain ⟨rfl, h0⟩ := h.un hu
  refine ⟨rfl, PInv.nil h0 (fun j hj => ?_)⟩
  have hj2 : j + 1 < P.sts.n + 1 := hj
  show (if j < P.sts.n then P.sts.item j else 1) ≠ 1
  rw [if_pos (by omega)]
  exact h.not1 hf hu j (by omega)
theorem PInv.fin {P : Ps} {L : List Value} (h : PInv P L) (x : Int) : PInv (P.fin x) [] := PInv.nil (fun _ _ => rfl) (fun j hj => by
  have hj2 : j + 1 < P.sts.n := hj
  show (if j = P.sts.n - 1 then x else P.sts.item j) ≠ 1
  rw [if_neg (by omega)]
  exact h.la j hj2)
theorem Ps.wantsU_nil {P : Ps} : ∀ {k : Nat}, P.wantsU k = [] → ∀ j, j < k → P.pl j = 2
  | 0, _, j, hj => absurd hj (Nat.not_lt_zero _)
  | k + 1, h, j, hj => by
    rw [Ps.wantsU] at h
    split at h
    · rename_i h2
      by_cases e : j = k
      · rw [e]; exact h2
      · exact Ps.wantsU_nil h j (by omega)
    · simp at h
theorem PInv.gath {P : Ps} {q : Nat × PtT} {ts : List (Nat × PtT)} (hn : ((q :: ts).map (·.1)).Nodup) (hq : ∀ r ∈ q :: ts, (r.1 : Int) < P.tasks ∧ P.pl r.1 = 1) (hu : ¬ P.under = 0) (hl : ∀ j, j + 1 < P.sts.n → P.sts.item j ≠ 1) (x : PtT) : PInv (P.gath q.1 x) (ts.map fun r => letV r.1 r.2) ∧ ((P.gath q.1 x).wants = [] → ts = []) := by
  rw [List.map_cons, List.nodup_cons] at hn
  have hp : ∀ r ∈ ts, (P.gath q.1 x).pl r.1 = 1 := fun r hr => by
    show (if r.1 = q.1 then 2 else P.pl r.1) = 1
    rw [if_neg (fun e => hn.1 (by rw [← e]; exact List.mem_map_of_mem hr))]
    exact (hq r (List.mem_cons_of_mem _ hr)).2
  refine ⟨⟨⟨ts, rfl, hn.2, fun r hr => ⟨(hq r (List.mem_cons_of_mem _ hr)).1, hp r hr⟩⟩, fun h => absurd h hu, hl⟩, fun hw => ?_⟩
  cases ts with
  | nil => rfl
  | cons r rs =>
    have h1 := hp r (List.mem_cons_self ..)
    have h2 := (hq r (List.mem_cons_of_mem _ (List.mem_cons_self ..))).1
    have h3 := Ps.wantsU_nil hw r.1 (by show r.1 < P.tasks.toNat; omega)
    rw [h1] at h3
    cases h3
theorem Ps.under_setSt {P : Ps} {i : Nat} {x : Int} (hi : i < P.sts.n) (h1 : P.sts.item i ≠ 1) (hx : x ≠ 1) : (P.setSt i x).under = P.under := by
  have h2 : ((P.setSt i x).stat (P.next - 1) = 1) ↔ (P.stat (P.next - 1) = 1) := by
    have e : P.next - 1 = P.first + ((P.sts.n - 1 : Nat) : Int) := by unfold Ps.next; omega
    have a := P.stat_at (k := P.sts.n - 1) (by omega)
    have b := (P.setSt i x).stat_at (k := P.sts.n - 1) (by show P.sts.n - 1 < P.sts.n; omega)
    rw [e, a]
    have b' : (P.setSt i x).stat (P.first + ((P.sts.n - 1 : Nat) : Int)) = (if P.sts.n - 1 = i then x else P.sts.item (P.sts.n - 1)) := b
    rw [b']
    split
    · rename_i e2
      rw [e2]
      exact ⟨fun h => absurd h hx, fun h => absurd h h1⟩
    · exact Iff.rfl
  unfold Ps.under
  show (if (P.setSt i x).stat (P.next - 1) = 1 then P.next - 1 else 0) = _
  by_cases h : P.stat (P.next - 1) = 1
  · rw [if_pos (h2.2 h), if_pos h]
  · rw [if_neg (fun e => h (h2.1 e)), if_neg h]
theorem PInv.settled {P : Ps} {L : List Value} (h : PInv P L) {i : Nat} {x : Int} (hi : i < P.sts.n) (h1 : P.sts.item i ≠ 1) (hx : x ≠ 1) : PInv (P.setSt i x) L := by
  refine ⟨h.ls, fun hu => h.un (by rw [← Ps.under_setSt hi h1 hx]; exact hu), fun j hj => ?_⟩
  show (if j = i then x else P.sts.item j) ≠ 1
  split
  · exact hx
  · exact h.la j hj
end Go.Proofs.Ytldkepokcbjlpaa
