import Derived.Test.YtehmifdgfgngdaaDoorBurst
namespace Go.Proofs.YtehmifdgfgngdaaDoor

/-- which bits a pattern turns, behind i rounds -/
def eN (first pt L i j : Nat) : Bool := decide (first ≤ j ∧ j < first + i ∧ j < 8 * L) && pt.testBit (j - first)
/-- does round i turn a bit? -/
def hit (first pt L i : Nat) : Prop := pt / 2 ^ i % 2 = 1 ∧ first + i < 8 * L
/-- what the frame has become behind i rounds -/
structure Turned (F zs : List Int) (first pt i c : Nat) : Prop where
  len : zs.length = F.length
  byte : ∀ z ∈ zs, 0 ≤ z ∧ z < 256
  bit : ∀ j, Crc.bitOf zs j = (Crc.bitOf F j ^^ eN first pt F.length i j)
  none : c = 0 → zs = F ∧ ∀ j, eN first pt F.length i j = false
  some : 0 < c → ∃ j, eN first pt F.length i j = true
  le : c ≤ i

theorem Turned.start (F : List Int) (first pt : Nat) (hb : ∀ z ∈ F, 0 ≤ z ∧ z < 256) : Turned F F first pt 0 0 := by
  have e : ∀ j, eN first pt F.length 0 j = false := by intro j; unfold eN; rw [decide_eq_false (by omega)]; rfl
  exact ⟨rfl, hb, fun j => by rw [e, Bool.xor_false], fun _ => ⟨rfl, e⟩, fun h => absurd h (by omega), Nat.le_refl _⟩

theorem eN_miss {first pt L i : Nat} (h : ¬ hit first pt L i) (j : Nat) : eN first pt L (i + 1) j = eN first pt L i j := by
  unfold eN
  by_cases hj : j = first + i
  · subst hj
    rw [decide_eq_false (show ¬ (first ≤ first + i ∧ first + i < first + i ∧ first + i < 8 * L) by omega), Bool.false_and, show first + i - first = i by omega]
    by_cases hl : first + i < 8 * L
    · have : pt.testBit i = false := by
        rw [Nat.testBit_eq_decide_div_mod_eq]
        exact decide_eq_false (fun hb => h ⟨hb, hl⟩)
      rw [this, Bool.and_false]
    · rw [decide_eq_false (by omega), Bool.false_and]
  · congr 1
    rw [decide_eq_decide]
    omega
theorem eN_hit {first pt L i : Nat} (h : hit first pt L i) (j : Nat) : eN first pt L (i + 1) j = (eN first pt L i j ^^ decide (j = first + i)) := by
  unfold eN
  by_cases hj : j = first + i
  · subst hj
    have hb : pt.testBit i = true := by rw [Nat.testBit_eq_decide_div_mod_eq]; exact decide_eq_true h.1
    have hl := h.2
    rw [show first + i - first = i by omega, hb, decide_eq_true (show first ≤ first + i ∧ first + i < first + (i + 1) ∧ first + i < 8 * L by omega), decide_eq_false (show ¬ (first ≤ first + i ∧ first + i < first + i ∧ first + i < 8 * L) by omega), decide_eq_true (show first + i = first + i from rfl)]
    rfl
  · rw [decide_eq_false hj, Bool.xor_false]
    congr 1
    rw [decide_eq_decide]
    omega

theorem Turned.miss {F zs : List Int} {first pt i c : Nat} (t : Turned F zs first pt i c) (h : ¬ hit first pt F.length i) : Turned F zs first pt (i + 1) c := by
  refine ⟨t.len, t.byte, fun j => ?_, fun hc => ⟨(t.none hc).1, fun j => ?_⟩, fun hc => ?_, Nat.le_succ_of_le t.le⟩
  · rw [eN_miss h]; exact t.bit j
  · rw [eN_miss h]; exact (t.none hc).2 j
  · obtain ⟨j, hj⟩ := t.some hc
    exact ⟨j, by rw [eN_miss h]; exact hj⟩

theorem Turned.turn {F zs : List Int} {first pt i c y : Nat} (t : Turned F zs first pt i c) (h : hit first pt F.length i) (hy : y < 256) (hz : zs.getD ((first + i) / 8) 0 = (y : Int)) :
    Turned F (zs.set ((first + i) / 8) ((y ^^^ 2 ^ ((first + i) % 8) : Nat) : Int)) first pt (i + 1) (c + 1) := by
  have hl := t.len
  refine ⟨by simp [hl], fun z hzm => ?_, fun j => ?_, fun hc => absurd hc (by omega), fun _ => ⟨first + i, ?_⟩, Nat.succ_le_succ t.le⟩
  · rcases List.mem_or_eq_of_mem_set hzm with h1 | h1
    · exact t.byte z h1
    · have := xor_byte hy (Nat.mod_lt (first + i) (by omega : 0 < 8)); omega
  · rw [bitOf_set zs (first + i) y (by rw [hl]; exact h.2) hz j, t.bit j, eN_hit h, Bool.xor_assoc]
  · have hl2 := h.2
    unfold eN
    rw [decide_eq_true (by omega), show first + i - first = i by omega, Nat.testBit_eq_decide_div_mod_eq, decide_eq_true h.1]
    rfl

theorem turned_exa {za zs : List Int} {first pt c : Nat} (hm : za.length ≤ 32768) (ha : ∀ z ∈ za, 0 ≤ z ∧ z < 256) (hf : 32 ≤ first) (t : Turned (frameOf za) zs first pt 32 c) :
    (c = 0 → exa zs = (0, za)) ∧ (0 < c → exa zs = (13, [])) := by
  have hl := frameOf_length za
  refine ⟨fun hc => ?_, fun hc => ?_⟩
  · rw [(t.none hc).1]; exact exa_frame za hm
  · obtain ⟨j, hj⟩ := t.some hc
    have hu : unw zs = (13, []) := by
      refine unw_burst za zs (eN first pt (frameOf za).length 32) first j hm ha t.byte (by rw [t.len, hl]) (fun i _ => t.bit i) ?_ hf ?_ ?_ ?_ hj
      · intro i hi; unfold eN; rw [decide_eq_false (by omega)]; rfl
      · intro i hi; unfold eN; rw [decide_eq_false (by omega)]; rfl
      · intro i hi; unfold eN; rw [decide_eq_false (by omega)]; rfl
      · intro i hi; rw [t.len] at hi; unfold eN; rw [decide_eq_false (by omega)]; rfl
    unfold exa
    rw [hu]
    simp
end Go.Proofs.YtehmifdgfgngdaaDoor
