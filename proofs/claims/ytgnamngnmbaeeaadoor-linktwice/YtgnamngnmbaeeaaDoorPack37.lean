import Derived.Test.YtgnamngnmbaeeaaDoorLoB
import Derived.Test.YtgnamngnmbaeeaaDoorPack35
import Derived.Test.YtgnamngnmbaeeaaDoorPack9
namespace Go.Proofs.YtgnamngnmbaeeaaDoor
open Go.RowKit
set_option maxRecDepth 8000
theorem takeN_twice {S : LS} (h : Inv S) (hz : S.P.length ≤ 1073741824) {z : List Int} (hd : IsDat S z) : takeN (takeN S.R z) z = takeN S.R z ∧ unpE (takeN S.R z).ln 68 z = 0 := by
  obtain ⟨k, m, h1, h2⟩ := hd.read h hz
  have h3 : unpE S.R.ln 68 z = 0 := unpE_read h2 rfl rfl
  have e1 : takeN S.R z = readyR (keepR S.R (k + 1) m) := by unfold takeN; rw [h2]; simp only; rw [if_pos h3]
  have hT := take_f S.R (k + 1) m
  have h4 : unpE (takeN S.R z).ln 68 z = 0 := by rw [e1]; exact unpE_read h2 rfl hT.ln.symm
  refine ⟨?_, h4⟩
  have e2 : takeN (takeN S.R z) z = readyR (keepR (takeN S.R z) (k + 1) m) := by
    rw [show takeN (takeN S.R z) z = _ from by unfold takeN; rw [h2]]
    simp only
    rw [if_pos h3, ← e1, if_pos h4]
  rw [e2, e1]
  exact take_again h.se (k + 1) m
theorem ackN_twice {S : LS} (h : Inv S) (hz : S.P.length ≤ 1073741824) {z : List Int} (hd : IsAns S z) : ackN (ackN S.A z) z = ackN S.A z ∧ ackE (ackN S.A z) z = 0 := by
  have hI := h.ack1 hz hd
  have hd' : IsAns { S with A := ackN S.A z } z := hd.mono rfl (Nat.le_refl _) fun _ h => h
  refine ⟨?_, (ack_ans hI hz hd').1⟩
  obtain ⟨_, nx, wd, _, _, _, _, h5, h6⟩ := ack_ans h hz hd
  rw [h6]
  unfold ackN
  rw [h5]
  simp only
  rw [show max (max S.A.an (nx - 1)) (nx - 1) = max S.A.an (nx - 1) by omega, show max (max S.A.wd wd) wd = max S.A.wd wd by omega, Nat.sub_self, List.drop_zero]
theorem LI.re {w : World} {C C' : Nat → Nat} {c lb : Nat} {S : LS} (h : LI w C c lb S) (hc : ∀ k, k < w.heap.size → C' k = C k) : LI w C' c lb S := h.but (But.refl _ _) hc
/-- two lines beside one another -/
structure TW (B0 : Nat) (w : World) (C : Nat → Nat) (la lb : Nat) (S T : LS) : Prop where
  a : LI w C 10 la S
  b : LI w C 20 lb T
  old : ∀ k, k < B0 → C k = 100
  le : B0 ≤ w.heap.size
theorem TW.moveA {B0 : Nat} {w w' : World} {C : Nat → Nat} {la lb : Nat} {S T S' : LS} (h : TW B0 w C la lb S T) (hq : LQ w (upC w C (10 + 7)) 10 la S' w') : ∃ C', TW B0 w' C' la lb S' T ∧ Below B0 w w' ∧ (∀ k, k < w.heap.size → C' k = C k) ∧ ∀ k, k < w.heap.size → C k = 100 → w'.heap[k]? = w.heap[k]? := by
  obtain ⟨C', h1, h2, h3, h4⟩ := hq
  have hc : ∀ k, k < w.heap.size → C' k = C k := fun k hk => (h2 k hk).trans (upC_old hk)
  have hle := h.le
  have hs := h4.size
  have hin : ∀ k, k < w.heap.size → In7 (upC w C (10 + 7)) 10 k → 10 ≤ C k ∧ C k ≤ 16 := fun k hk e => by unfold In7 at e; rw [upC_old hk] at e; omega
  refine ⟨C', ⟨h1, h.b.but (h4.mono fun k hk e => ?_) hc, fun k hk => (hc k (by omega)).trans (h.old k hk), by omega⟩, ?_, hc, fun k hk e => h4.block k hk fun e2 => by have := hin k hk e2; omega⟩
  · have := hin k hk e; unfold In8; omega
  · refine But.below (h4.mono (Y := fun k => B0 ≤ k) fun k hk e => ?_) hle fun k hk e => by have e' : B0 ≤ k := e; omega
    have h5 := hin k hk e
    rcases Nat.lt_or_ge k B0 with e2 | e2
    · have := h.old k e2; omega
    · exact e2
theorem TW.moveB {B0 : Nat} {w w' : World} {C : Nat → Nat} {la lb : Nat} {S T T' : LS} (h : TW B0 w C la lb S T) (hq : LQ w (upC w C (20 + 7)) 20 lb T' w') : ∃ C', TW B0 w' C' la lb S T' ∧ Below B0 w w' ∧ (∀ k, k < w.heap.size → C' k = C k) ∧ ∀ k, k < w.heap.size → C k = 100 → w'.heap[k]? = w.heap[k]? := by
  obtain ⟨C', h1, h2, h3, h4⟩ := hq
  have hc : ∀ k, k < w.heap.size → C' k = C k := fun k hk => (h2 k hk).trans (upC_old hk)
  have hle := h.le
  have hs := h4.size
  have hin : ∀ k, k < w.heap.size → In7 (upC w C (20 + 7)) 20 k → 20 ≤ C k ∧ C k ≤ 26 := fun k hk e => by unfold In7 at e; rw [upC_old hk] at e; omega
  refine ⟨C', ⟨h.a.but (h4.mono fun k hk e => ?_) hc, h1, fun k hk => (hc k (by omega)).trans (h.old k hk), by omega⟩, ?_, hc, fun k hk e => h4.block k hk fun e2 => by have := hin k hk e2; omega⟩
  · have := hin k hk e; unfold In8; omega
  · refine But.below (h4.mono (Y := fun k => B0 ≤ k) fun k hk e => ?_) hle fun k hk e => by have e' : B0 ≤ k := e; omega
    have h5 := hin k hk e
    rcases Nat.lt_or_ge k B0 with e2 | e2
    · have := h.old k e2; omega
    · exact e2
theorem TW.below {B0 : Nat} {w w' : World} {C : Nat → Nat} {la lb : Nat} {S T : LS} (h : TW B0 w C la lb S T) (hb : Below w.heap.size w w') : TW B0 w' (upC w C 100) la lb S T := by
  have hle := h.le
  have hs := hb.size
  exact ⟨h.a.but (But.ofBelow hb) fun k hk => upC_old hk, h.b.but (But.ofBelow hb) fun k hk => upC_old hk, fun k hk => (upC_old (by omega)).trans (h.old k hk), by omega⟩
theorem TW.newA {B0 : Nat} {w : World} {C : Nat → Nat} {la lb : Nat} {S T : LS} (h : TW B0 w C la lb S T) : LI w (upC w C (10 + 7)) 10 la S ∧ ∀ k, w.heap.size ≤ k → In8 (upC w C (10 + 7)) 10 k :=
  ⟨h.a.re fun k hk => upC_old hk, fun k hk => by unfold In8; rw [upC_new hk]; omega⟩
theorem TW.newB {B0 : Nat} {w : World} {C : Nat → Nat} {la lb : Nat} {S T : LS} (h : TW B0 w C la lb S T) : LI w (upC w C (20 + 7)) 20 lb T ∧ ∀ k, w.heap.size ≤ k → In8 (upC w C (20 + 7)) 20 k :=
  ⟨h.b.re fun k hk => upC_old hk, fun k hk => by unfold In8; rw [upC_new hk]; omega⟩
theorem TW.outA {B0 : Nat} {w : World} {C : Nat → Nat} {la lb : Nat} {S T : LS} (h : TW B0 w C la lb S T) (h0 : 0 < B0) : Out8 (upC w C (10 + 7)) 10 := by
  unfold Out8 In8
  have := h.le
  rw [upC_old (by omega), h.old 0 h0]
  omega
theorem TW.outB {B0 : Nat} {w : World} {C : Nat → Nat} {la lb : Nat} {S T : LS} (h : TW B0 w C la lb S T) (h0 : 0 < B0) : Out8 (upC w C (20 + 7)) 20 := by
  unfold Out8 In8
  have := h.le
  rw [upC_old (by omega), h.old 0 h0]
  omega
end Go.Proofs.YtgnamngnmbaeeaaDoor

namespace Go.Proofs.YtgnamngnmbaeeaaDoor
open Go.RowKit
set_option maxRecDepth 8000
def brPG (ops : Array Oper) (f : Nat) (pre : List (Nat × Bool)) (m : Nat) (b : Bool) (p : List (Nat × Bool)) (idx : List Nat) : Bool :=
  pre.all (fun x => (apB ops x.1 m && (x.2 || b)) || reachP ops f m x.1) && pairsB (fun i j => apB ops i j || reachP ops f j i) ((pre ++ p).map (·.1)) && pairsB (fun i j => i != j) (m :: ((pre ++ p).map (·.1) ++ idx))
/-- what changes the world, in one order -/
def trPG (ops : Array Oper) (f : Nat) : List (Nat × Bool) → Tr → Bool
  | _, .done => true
  | pre, .one m b p t => brPG ops f pre m b p (trIdx t) && (p.map (·.1) ++ trIdx t).all (fun z => reachP ops f z m) && trPG ops f (pre ++ p) t
  | _, .two _ _ _ _ _ _ _ _ => false
def calmPG (ops : Array Oper) (f : Nat) (pre : List (Nat × Bool)) (t : Tr) : Bool :=
  Region.noSelect ops && acB ops && (List.range ops.size).all (fun j => (pre.map (·.1) ++ trIdx t).contains j) && (pre.map (·.1) ++ trIdx t).all (fun j => decide (j < ops.size)) &&
  pairsB (fun i j => i != j) (pre.map (·.1) ++ trIdx t) && pairsB (fun i j => apB ops i j || reachP ops f j i) (pre.map (·.1)) && trPG ops f pre t
theorem brPG_brG {ops : Array Oper} {f : Nat} {pre : List (Nat × Bool)} {m : Nat} {b : Bool} {p : List (Nat × Bool)} {idx : List Nat} (h : brPG ops f pre m b p idx = true) : brG ops f pre m b p idx = true := by
  unfold brPG at h
  unfold brG
  rw [Bool.and_eq_true, Bool.and_eq_true] at h ⊢
  obtain ⟨⟨h1, h3⟩, h4⟩ := h
  refine ⟨⟨?_, pairsB_mono (fun i j hij => ?_) h3⟩, h4⟩
  · rw [List.all_eq_true] at h1 ⊢
    intro x hx
    have := h1 x hx
    rw [Bool.or_eq_true] at this ⊢
    exact this.imp_right (reachP_reachB _ _ _ _)
  · rw [Bool.or_eq_true] at hij ⊢
    exact hij.imp_right (reachP_reachB _ _ _ _)
theorem trPG_trG {ops : Array Oper} {f : Nat} : ∀ {t : Tr} {pre : List (Nat × Bool)}, trPG ops f pre t = true → trG ops f pre t = true
  | .done, _, _ => rfl
  | .one m b p t, pre, h => by
    rw [trPG, Bool.and_eq_true, Bool.and_eq_true] at h
    rw [trG, Bool.and_eq_true, Bool.and_eq_true]
    refine ⟨⟨brPG_brG h.1.1, ?_⟩, trPG_trG h.2⟩
    have h2 := h.1.2
    rw [List.all_eq_true] at h2 ⊢
    exact fun z hz => reachP_reachB _ _ _ _ (h2 z hz)
  | .two .., _, h => by cases h
theorem calmPG_calmG {ops : Array Oper} {f : Nat} {pre : List (Nat × Bool)} {t : Tr} (h : calmPG ops f pre t = true) : calmG ops f pre t = true := by
  unfold calmPG at h
  unfold calmG
  rw [Bool.and_eq_true, Bool.and_eq_true] at h ⊢
  obtain ⟨⟨h1, h2⟩, h3⟩ := h
  refine ⟨⟨h1, pairsB_mono (fun i j hij => ?_) h2⟩, trPG_trG h3⟩
  rw [Bool.or_eq_true] at hij ⊢
  exact hij.imp_right (reachP_reachB _ _ _ _)
section
variable {P : Program} {ops : Array Oper} {Q : Exit → Act → World → Prop}
theorem wp_region_calmPG {rid : Nat} {a : Act} {w : World} (f : Nat) (C : World → Prop) (pre : List (Nat × Bool)) (t : Tr) (hm : P.follows .mixedOrders = true) (hB : calmPG ops f pre t = true) (hC : C w.drew)
    (h : wpPre P ops C pre (fun a => wpTg P ops Q t C a w.drew) a) : (Code.region rid ops true).wp P Q a w :=
  wp_region_calmG f C pre t hm (calmPG_calmG hB) hC h
end
end Go.Proofs.YtgnamngnmbaeeaaDoor
