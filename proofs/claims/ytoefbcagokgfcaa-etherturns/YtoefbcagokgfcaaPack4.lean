import Derived.Test.YtoefbcagokgfcaaPack3
import Derived.Test.YtoefbcagokgfcaaPack0
namespace Go.Proofs.Ytoefbcagokgfcaa
open Go.RowKit
set_option maxRecDepth 8000
/-- j waits for i, by some way down to i -/
def reachP (ops : Array Oper) : Nat → Nat → Nat → Bool
  | 0, _, _ => false
  | f + 1, j, i => match ops[j]? with
    | none => false
    | some o => o.after.any fun e => Region.binds .any e && (e.on == i || (Nat.blt i e.on && reachP ops f e.on i))
theorem reachP_reachB (ops : Array Oper) : ∀ (f j i : Nat), reachP ops f j i = true → reachB ops f j i = true
  | 0, _, _, h => by cases h
  | f + 1, j, i, h => by
    unfold reachP at h
    unfold reachB
    split at h
    · cases h
    · rename_i o ho
      simp only [ho]
      obtain ⟨e, he, hb⟩ := Array.any_eq_true'.1 h
      simp only [Bool.and_eq_true, Bool.or_eq_true] at hb
      refine Array.any_eq_true'.2 ⟨e, he, ?_⟩
      simp only [Bool.and_eq_true, Bool.or_eq_true]
      exact ⟨hb.1, hb.2.imp_right fun h => reachP_reachB ops f _ _ h.2⟩
def brP (ops : Array Oper) (f : Nat) (pre : List (Nat × Bool)) (m : Nat) (b : Bool) (p : List (Nat × Bool)) (idx : List Nat) : Bool :=
  pre.all (fun x => (apB ops x.1 m && (x.2 || b)) || reachP ops f m x.1) && p.all (fun x => x.2 || b) && pairsB (fun i j => apB ops i j || reachP ops f j i) ((pre ++ p).map (·.1)) && pairsB (fun i j => i != j) (m :: ((pre ++ p).map (·.1) ++ idx))
/-- what changes the world, in one order -/
def trP (ops : Array Oper) (f : Nat) : List (Nat × Bool) → Tr → Bool
  | _, .done => true
  | pre, .one m b p t => brP ops f pre m b p (trIdx t) && (p.map (·.1) ++ trIdx t).all (fun z => reachP ops f z m) && trP ops f (pre ++ p) t
  | _, .two _ _ _ _ _ _ _ _ => false
def calmP (ops : Array Oper) (f : Nat) (pre : List (Nat × Bool)) (t : Tr) : Bool :=
  Region.noSelect ops && acB ops && (List.range ops.size).all (fun j => (pre.map (·.1) ++ trIdx t).contains j) && (pre.map (·.1) ++ trIdx t).all (fun j => decide (j < ops.size)) &&
  pairsB (fun i j => i != j) (pre.map (·.1) ++ trIdx t) && pairsB (fun i j => apB ops i j || reachP ops f j i) (pre.map (·.1)) && trP ops f pre t
theorem pairsB_mono {R R' : Nat → Nat → Bool} (hR : ∀ i j, R i j = true → R' i j = true) : ∀ {l : List Nat}, pairsB R l = true → pairsB R' l = true
  | [], _ => rfl
  | x :: l, h => by
    simp only [pairsB, Bool.and_eq_true, List.all_eq_true] at h ⊢
    exact ⟨fun y hy => hR _ _ (h.1 y hy), pairsB_mono hR h.2⟩
theorem brP_brB {ops : Array Oper} {f : Nat} {pre : List (Nat × Bool)} {m : Nat} {b : Bool} {p : List (Nat × Bool)} {idx : List Nat} (h : brP ops f pre m b p idx = true) : brB ops f pre m b p idx = true := by
  unfold brP at h
  unfold brB
  rw [Bool.and_eq_true, Bool.and_eq_true, Bool.and_eq_true] at h ⊢
  obtain ⟨⟨⟨h1, h2⟩, h3⟩, h4⟩ := h
  refine ⟨⟨⟨?_, h2⟩, pairsB_mono (fun i j hij => ?_) h3⟩, h4⟩
  · rw [List.all_eq_true] at h1 ⊢
    intro x hx
    have := h1 x hx
    rw [Bool.or_eq_true] at this ⊢
    exact this.imp_right (reachP_reachB _ _ _ _)
  · rw [Bool.or_eq_true] at hij ⊢
    exact hij.imp_right (reachP_reachB _ _ _ _)
theorem trP_trB {ops : Array Oper} {f : Nat} : ∀ {t : Tr} {pre : List (Nat × Bool)}, trP ops f pre t = true → trB ops f pre t = true
  | .done, _, _ => rfl
  | .one m b p t, pre, h => by
    rw [trP, Bool.and_eq_true, Bool.and_eq_true] at h
    rw [trB, Bool.and_eq_true, Bool.and_eq_true]
    refine ⟨⟨brP_brB h.1.1, ?_⟩, trP_trB h.2⟩
    have h2 := h.1.2
    rw [List.all_eq_true] at h2 ⊢
    exact fun z hz => reachP_reachB _ _ _ _ (h2 z hz)
  | .two .., _, h => by cases h
theorem calmP_calmE {ops : Array Oper} {f : Nat} {pre : List (Nat × Bool)} {t : Tr} (h : calmP ops f pre t = true) : calmE ops f pre t = true := by
  unfold calmP at h
  unfold calmE
  rw [Bool.and_eq_true, Bool.and_eq_true] at h ⊢
  obtain ⟨⟨h1, h2⟩, h3⟩ := h
  refine ⟨⟨h1, pairsB_mono (fun i j hij => ?_) h2⟩, trP_trB h3⟩
  rw [Bool.or_eq_true] at hij ⊢
  exact hij.imp_right (reachP_reachB _ _ _ _)
section
variable {P : Program} {ops : Array Oper} {Q : Exit → Act → World → Prop}
theorem wp_region_calmP {rid : Nat} {a : Act} {w : World} (f : Nat) (C : World → Prop) (pre : List (Nat × Bool)) (t : Tr) (hm : P.follows .mixedOrders = true) (hB : calmP ops f pre t = true) (hC : C w.drew)
    (h : wpPre P ops C pre (fun a => wpTr P ops Q C t a w.drew) a) : (Code.region rid ops true).wp P Q a w :=
  wp_region_calmE f C pre t hm (calmP_calmE hB) hC h
end
end Go.Proofs.Ytoefbcagokgfcaa

namespace Go.Proofs.Ytoefbcagokgfcaa
open Go.RowKit
set_option maxRecDepth 8000
theorem kindB : ∃ i, Kind 29 5 i (.int .u8 0) 1 1 := by
  obtain ⟨i0, hi, hz0, hz1, hz2⟩ := info_parts (show (Try.prog.info? 5).map (fun i => (i.zero, i.size, i.bytes)) = some (some (.int .u8 0), 1, 1) by kernel_rfl)
  exact ⟨i0, Try.underlying29, hi, hz0, hz1, hz2, rfl, by decide⟩
theorem wrap_u64 (x : Int) : IntKind.u64.wrap x = x % 18446744073709551616 := by
  simp [IntKind.wrap, IntKind.bits, IntKind.signed]
/-- a row of one byte -/
theorem row_one (w : World) (x : Int) : (w.alloc (.cells #[.int .u8 x] 5)).ownsRow w.heap.size 5 1 (.slice (some ⟨w.heap.size, 0, none⟩) 1 1) 1 [.int .u8 x] := by
  have h := World.ownsRow_made (base := w.heap.size) (e := 5) (size := 1) w #[.int .u8 x] 1 (Nat.le_refl _) (by unfold maxLen; omega) (by simp)
  refine ⟨by simp, .inr ⟨w.heap.size, 1, #[.int .u8 x], rfl, Nat.le_refl _, ?_, Nat.le_refl _, by unfold maxLen; omega, by simp, by simp⟩⟩
  exact Box.new w _ 5

/-- bytes in a row of the call's own -/
def OwnBy (base : Nat) (w : World) (v : Value) (zs : List Int) : Prop := w.ownsRow base 5 1 v zs.length (zs.map (Value.int .u8))
theorem OwnBy.app {base : Nat} {w w' : World} {v v' : Value} {zs ys : List Int} (_h : OwnBy base w v zs) (ho : w'.ownsRow base 5 1 v' (zs.length + ys.length) (zs.map (Value.int .u8) ++ ys.map (Value.int .u8))) : OwnBy base w' v' (zs ++ ys) := by
  unfold OwnBy
  rw [List.length_append, List.map_append]
  exact ho
theorem OwnBy.below {base : Nat} {w w' : World} {v : Value} {zs : List Int} (h : OwnBy base w v zs) (hb : Below w.heap.size w w') : OwnBy base w' v zs := ownsRow_keep h fun g _ hl => hb.block g hl
theorem OwnBy.slice {base : Nat} {w : World} {v : Value} {zs : List Int} (h : OwnBy base w v zs) (hz : 0 < zs.length) : ∃ b c, v = .slice (some ⟨b, 0, none⟩) zs.length c ∧ base ≤ b ∧ b < w.heap.size ∧ ∀ j u, (zs.map (Value.int .u8))[j]? = some u → w.cell? ((⟨b, 0, none⟩ : Addr).add j) = some u := by
  have hlt := World.ownsRow.lt h
  have hc := @World.ownsRow.cells _ _ _ _ _ _ _ h
  obtain ⟨_, ⟨hv, h0⟩ | ⟨b, cap, cur, hv, hbg, hh, _⟩⟩ := id h
  · omega
  · exact ⟨b, cap, hv, hbg, (hlt b (by rw [hv]; rfl)).2, hc (by rw [hv]; rfl)⟩
end Go.Proofs.Ytoefbcagokgfcaa
