import Derived.Test.YtnbcidlmckmaaaaKcD
namespace Go.Proofs.Ytnbcidlmckmaaaa
open Go.RowKit
set_option maxRecDepth 8000
/-- what is known of the copies and the parts -/
structure RJ (K : Bk) (c h : Int) : Prop where
  h0 : 0 ≤ h
  hc : h ≤ c
  cn : c ≤ K.now
  cp : K.cp = true → c = K.now ∧ h < c
  op : c = K.now → c = 0 ∨ K.cp = true ∨ K.opn = false
theorem Bk.opn_eq {K K' : Bk} (h1 : K'.st = K.st) (h2 : K'.ports = K.ports) : K'.opn = K.opn := by unfold Bk.opn; rw [h1, h2]
theorem RJ.same {K K' : Bk} {c h : Int} (j : RJ K c h) (h1 : K'.st = K.st) (h2 : K'.ports = K.ports) (h3 : K'.now = K.now) (h4 : K'.cp = K.cp) : RJ K' c h :=
  ⟨j.h0, j.hc, by rw [h3]; exact j.cn, fun e => by rw [h3]; exact j.cp (h4 ▸ e), fun e => by rw [h4, Bk.opn_eq h1 h2]; exact j.op (by rw [← h3]; exact e)⟩
theorem RJ.took {x : Int} {r : RT} {w w' : World} {b : Nat} {K K' : Bk} {c h : Int} (j : RJ K c h) (q : TookQ x r w b K w' K') : RJ K' c h := by
  rcases e : K.lays x with _ | _
  · rw [q.n e]; exact j
  · obtain ⟨u, p, cc, _, _, rfl⟩ := q.y e
    exact j.same rfl rfl rfl rfl
theorem Bk.has_lt {K : Bk} {x : Int} (h : K.has x = true) : x.toNat < K.ports.toNat := by
  have : 0 ≤ x ∧ x < K.ports := by simpa [Bk.has] using h
  omega
theorem RJ.mark {x id : Int} {a : LT RT} {num : Int} {l : LT VT} {q : LT RT} {w w' : World} {b : Nat} {K K' : Bk} {r : Bool} {c h : Int} (j : RJ K c h) (m : MarkQ x id a num l q w b K w' K' r) :
    (r = true → c < id ∧ K'.now = id ∧ RJ K' id h) ∧ (r = false → RJ K' c h) := by
  rcases e : K.marks x id with _ | _
  · obtain ⟨rfl, rfl⟩ := m.n e
    exact ⟨fun h => (by cases h), fun _ => j⟩
  obtain ⟨w1, _, hr, hQ⟩ := m.y e
  simp only [Bk.marks, Bool.and_eq_true, beq_iff_eq, Bool.or_eq_true, decide_eq_true_eq] at e
  obtain ⟨e0, e1⟩ := e
  have hh : K.has x = true := by
    rcases h : K.has x with _ | _
    · rw [Bk.refE, if_pos h] at e0; cases e0
    · rfl
  have hid0 : 1 ≤ id := by
    rw [Bk.refE, if_neg (by rw [hh]; decide)] at e0
    by_cases h : id < 1 ∨ 9999 < id
    · rw [if_pos h] at e0; cases e0
    · omega
  have hn := hQ.b.now
  have hcp := hQ.b.cp
  rw [← hr] at hcp
  by_cases hgt : K.now < id
  · have hbs : K.base id = K.begin id := by rw [Bk.base, if_pos hgt]
    rw [hbs] at hn hcp hr
    have hn : K'.now = id := hn
    have hcp : K'.cp = r := by rw [hcp]; rfl
    have hcn := j.cn
    have hhc := j.hc
    refine ⟨fun ht => ⟨by omega, hn, ⟨j.h0, by omega, by omega, fun _ => ⟨hn.symm, by omega⟩, fun _ => .inr (.inl (by rw [hcp, ht]))⟩⟩, fun hf => ⟨j.h0, j.hc, by omega, fun e => (by rw [hcp, hf] at e; cases e), fun e => by omega⟩⟩
  · have hbs : K.base id = K := by rw [Bk.base, if_neg hgt]
    rw [hbs] at hn hcp hr hQ
    rcases e1 with e1 | e1
    · exact absurd e1 hgt
    obtain ⟨rfl, hst⟩ := e1
    have hop : K.opn = true := K.opn_iff.2 ⟨x.toNat, Bk.has_lt hh, hst⟩
    have hcn := j.cn
    have hhc := j.hc
    refine ⟨fun ht => ?_, fun hf => ⟨j.h0, j.hc, by omega, fun e => ?_, fun e => ?_⟩⟩
    · have hKc : K.cp = false := by
        rw [ht] at hr
        unfold Bk.shutR at hr
        split at hr
        · simp at hr; exact hr.2
        · simpa using hr.symm
      have hlt : c < K.now := by
        rcases (by omega : c < K.now ∨ c = K.now) with h1 | h1
        · exact h1
        · rcases j.op h1 with h2 | h2 | h2
          · omega
          · rw [hKc] at h2; cases h2
          · rw [hop] at h2; cases h2
      exact ⟨hlt, hn, ⟨j.h0, by omega, by omega, fun _ => ⟨hn.symm, by omega⟩, fun _ => .inr (.inl (by rw [hcp, ht]; simp))⟩⟩
    · rw [hcp, hf, Bool.or_false] at e
      rw [hn]; exact j.cp e
    · rw [hn] at e
      rcases j.op e with h2 | h2 | h2
      · omega
      · exact .inr (.inl (by rw [hcp, h2]; rfl))
      · rw [hop] at h2; cases h2
theorem RJ.part {K : Bk} {c h : Int} (j : RJ K c h) (hd : (K.cp && !K.opn) = true) : c = K.now ∧ h < K.now ∧ RJ K.part c K.now := by
  simp only [Bool.and_eq_true, Bool.not_eq_true'] at hd
  have h1 := j.cp hd.1
  have h0 := j.h0
  refine ⟨h1.1, by omega, ⟨by omega, by omega, j.cn, fun e => (by cases e), fun _ => .inr (.inr ?_)⟩⟩
  rw [← hd.2]; rfl
/-- the logs are not too long -/
def LgN (K : Bk) (N : Nat) : Prop := ∀ i, i < 4 → (K.lg i).n ≤ N
theorem LgN.took {x : Int} {r : RT} {w w' : World} {b : Nat} {K K' : Bk} {N : Nat} (h : LgN K N) (q : TookQ x r w b K w' K') : LgN K' (N + 10000) := by
  intro i hi
  have := h i hi
  rcases e : K.lays x with _ | _
  · rw [q.n e]; omega
  · obtain ⟨u, p, cc, _, _, rfl⟩ := q.y e
    by_cases hx : i = x.toNat
    · subst hx; simp only [Bk.setLog, if_true, LT.push]; omega
    · simp only [Bk.setLog, if_neg hx]; omega
theorem LgN.mark {x id : Int} {a : LT RT} {num : Int} {l : LT VT} {q : LT RT} {w w' : World} {b : Nat} {K K' : Bk} {r : Bool} {N : Nat} (h : LgN K N) (sa : SzR a) (m : MarkQ x id a num l q w b K w' K' r) : LgN K' (N + 10000) := by
  intro i hi
  have := h i hi
  rcases e : K.marks x id with _ | _
  · rw [(m.n e).1]; omega
  obtain ⟨w1, _, hr, hQ⟩ := m.y e
  have hb : ((K.base id).lg i).n ≤ N := by
    unfold Bk.base
    split
    · exact Nat.zero_le _
    · exact this
  by_cases hx : i = x.toNat
  · subst hx
    by_cases h3 : (K.base id).mode = 3
    · obtain ⟨m, p, c, e1, e2, _⟩ := hQ.b.lg3 h3
      rw [e1]
      have := e2.n
      have := sa.n
      simp only [LT.join]; omega
    · rw [hQ.b.lgi h3]; omega
  · rw [hQ.b.lgo i hx]; omega
theorem LgN.part {K : Bk} (N : Nat) : LgN K.part N := fun _ _ => Nat.zero_le _
theorem LgN.le {K : Bk} {N M : Nat} (h : LgN K N) (hm : N ≤ M) : LgN K M := fun i hi => Nat.le_trans (h i hi) hm
end Go.Proofs.Ytnbcidlmckmaaaa
