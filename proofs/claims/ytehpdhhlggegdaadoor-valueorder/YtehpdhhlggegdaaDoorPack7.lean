import Derived.Test.YtehpdhhlggegdaaDoorPack3
import Derived.Test.YtehpdhhlggegdaaDoorPack0
import Derived.Test.YtehpdhhlggegdaaDoorPack2
namespace Go.Proofs.YtehpdhhlggegdaaDoor
open Go.RowKit
set_option maxRecDepth 8000

/-- a value's cells as a block has them -/
def vcells (u : VT) : Array Value := #[.int .i64 u.kind, .int .i64 u.int, .string u.text, .slice u.p u.n u.c]
/-- behind the two copies: two new boxes, the copies elsewhere in new memory -/
def TwoBox (w1 : World) (u u2 : VT) (s5 s6 : Value) (wx : World) : Prop :=
  ∃ bc bd, s5 = .pointer (some ⟨bc, 0, none⟩) ∧ s6 = .pointer (some ⟨bd, 0, none⟩) ∧ bc ≠ bd ∧ w1.heap.size ≤ bc ∧ w1.heap.size ≤ bd ∧
    Box wx bc #[.int .i64 u.kind, .int .i64 u.int, .string u.text, .slice u.p u.n u.c] 24 ∧ Box wx bd #[.int .i64 u2.kind, .int .i64 u2.int, .string u2.text, .slice u2.p u2.n u2.c] 24 ∧ Below w1.heap.size w1 wx
/-- four stores into a box -/
def set4 (w : World) (b : Nat) (u : VT) : World :=
  (((w.setCell ⟨b, 0, none⟩ (.int .i64 u.kind)).setCell ⟨b, 1, none⟩ (.int .i64 u.int)).setCell ⟨b, 2, none⟩ (.string u.text)).setCell ⟨b, 3, none⟩ (.slice u.p u.n u.c)
theorem set4_size (w : World) (b : Nat) (u : VT) : (set4 w b u).heap.size = w.heap.size := by simp [set4, World.setCell]
theorem set4_box {w : World} {b : Nat} {u : VT} {z : Array Value} {e : TypeId} (h : Box w b z e) (hz : z.size = 4) : Box (set4 w b u) b #[.int .i64 u.kind, .int .i64 u.int, .string u.text, .slice u.p u.n u.c] e := by
  have h4 := (((h.set 0 (.int .i64 u.kind)).set 1 (.int .i64 u.int)).set 2 (.string u.text)).set 3 (.slice u.p u.n u.c)
  obtain ⟨l⟩ := z
  match l, hz with
  | [a, b, c, d], _ => simpa [set4] using h4
theorem set4_but {X : Nat → Prop} {a w : World} {b : Nat} (u : VT) (h : But X a w) (hb : b < a.heap.size → X b) : But X a (set4 w b u) :=
  (((h.setCell (p := ⟨b, 0, none⟩) hb _).setCell (p := ⟨b, 1, none⟩) hb _).setCell (p := ⟨b, 2, none⟩) hb _).setCell (p := ⟨b, 3, none⟩) hb _

/-- from what the blocks hold in the end -/
theorem twb_of {w1 w3 : World} {u u2 : VT} (hb : Below w1.heap.size w1 w3) {wx : World} {bc bd : Nat} {X : Nat → Prop} (hne : bc ≠ bd) (hc : w1.heap.size ≤ bc) (hd : w1.heap.size ≤ bd) (hx : But X w3 wx) (hX : ∀ y, X y → y = bc ∨ y = bd)
   
    (h1 : Box wx bc #[.int .i64 u.kind, .int .i64 u.int, .string u.text, .slice u.p u.n u.c] 24) (h2 : Box wx bd #[.int .i64 u2.kind, .int .i64 u2.int, .string u2.text, .slice u2.p u2.n u2.c] 24) :
    TwoBox w1 u u2 (.pointer (some ⟨bc, 0, none⟩)) (.pointer (some ⟨bd, 0, none⟩)) wx := by
  refine ⟨bc, bd, rfl, rfl, hne, hc, hd, h1, h2, hb.trans (hx.below hb.size fun b hb2 hx2 => ?_)⟩
  rcases hX b hx2 with h | h
  · omega
  · omega
theorem twb_A {w1 w3 : World} {u u2 : VT} (hb : Below w1.heap.size w1 w3) :
    TwoBox w1 u u2 (.pointer (some ⟨w3.heap.size, 0, none⟩)) (.pointer (some ⟨w3.heap.size + 1, 0, none⟩)) ((w3.alloc (.cells (vcells u) 24)).alloc (.cells (vcells u2) 24)) := by
  have hs := hb.size
  refine twb_of hb (X := fun _ => False) (by omega) hs (by omega) (((But.refl _ _).alloc _).alloc _) (fun y h => h.elim) ?_ ?_
  · exact (Box.new w3 (vcells u) 24).below ((Below.refl _ _).alloc (Nat.le_refl _) _)
  · have h := Box.new (w3.alloc (.cells (vcells u) 24)) (vcells u2) 24
    rw [show (w3.alloc (.cells (vcells u) 24)).heap.size = w3.heap.size + 1 by simp] at h
    exact h
theorem twb_A' {w1 w3 : World} {u u2 : VT} (hb : Below w1.heap.size w1 w3) :
    TwoBox w1 u u2 (.pointer (some ⟨w3.heap.size + 1, 0, none⟩)) (.pointer (some ⟨w3.heap.size, 0, none⟩)) ((w3.alloc (.cells (vcells u2) 24)).alloc (.cells (vcells u) 24)) := by
  have hs := hb.size
  refine twb_of hb (X := fun _ => False) (by omega) (by omega) hs (((But.refl _ _).alloc _).alloc _) (fun y h => h.elim) ?_ ?_
  · have h := Box.new (w3.alloc (.cells (vcells u2) 24)) (vcells u) 24
    rw [show (w3.alloc (.cells (vcells u2) 24)).heap.size = w3.heap.size + 1 by simp] at h
    exact h
  · exact (Box.new w3 (vcells u2) 24).below ((Below.refl _ _).alloc (Nat.le_refl _) _)
theorem twb_B {w1 w3 : World} {u u2 : VT} (hb : Below w1.heap.size w1 w3) {bc : Nat} {z : Array Value} (hq : Box w3 bc z 24) (hz : z.size = 4) (hc : w1.heap.size ≤ bc) :
    TwoBox w1 u u2 (.pointer (some ⟨bc, 0, none⟩)) (.pointer (some ⟨w3.heap.size, 0, none⟩)) ((set4 w3 bc u).alloc (.cells (vcells u2) 24)) := by
  have hs := hb.size
  have hl := hq.lt
  refine twb_of hb (X := fun y => y = bc) (by omega) hc hs ((set4_but (X := fun y => y = bc) u (But.refl _ _) (fun _ => rfl)).alloc _) (fun y h => .inl h) ?_ ?_
  · exact (set4_box hq hz).below ((Below.refl _ _).alloc (Nat.le_refl _) _)
  · have h := Box.new (set4 w3 bc u) (vcells u2) 24
    rw [set4_size] at h
    exact h
theorem twb_B' {w1 w3 : World} {u u2 : VT} (hb : Below w1.heap.size w1 w3) {bd : Nat} {z : Array Value} (hq : Box w3 bd z 24) (hz : z.size = 4) (hd : w1.heap.size ≤ bd) :
    TwoBox w1 u u2 (.pointer (some ⟨w3.heap.size, 0, none⟩)) (.pointer (some ⟨bd, 0, none⟩)) ((set4 w3 bd u2).alloc (.cells (vcells u) 24)) := by
  have hs := hb.size
  have hl := hq.lt
  refine twb_of hb (X := fun y => y = bd) (by omega) hs hd ((set4_but (X := fun y => y = bd) u2 (But.refl _ _) (fun _ => rfl)).alloc _) (fun y h => .inr h) ?_ ?_
  · have h := Box.new (set4 w3 bd u2) (vcells u) 24
    rw [set4_size] at h
    exact h
  · exact (set4_box hq hz).below ((Below.refl _ _).alloc (Nat.le_refl _) _)
theorem twb_C {w1 w3 : World} {u u2 : VT} (hb : Below w1.heap.size w1 w3) {bc bd : Nat} {z z2 : Array Value} (hq : Box w3 bc z 24) (hz : z.size = 4) (hq2 : Box w3 bd z2 24) (hz2 : z2.size = 4) (hne : bc ≠ bd) (hc : w1.heap.size ≤ bc) (hd : w1.heap.size ≤ bd)
    :
    TwoBox w1 u u2 (.pointer (some ⟨bc, 0, none⟩)) (.pointer (some ⟨bd, 0, none⟩)) (set4 (set4 w3 bc u) bd u2) := by
  refine twb_of hb (X := fun y => y = bc ∨ y = bd) hne hc hd (set4_but u2 (set4_but u (But.refl _ _) (fun _ => .inl rfl)) (fun _ => .inr rfl)) (fun y h => h) ?_ ?_
  · exact (set4_box hq hz).but (X := fun y => y = bd) (set4_but u2 (But.refl _ _) (fun _ => rfl)) hne
  · exact set4_box (hq2.but (X := fun y => y = bc) (set4_but u (But.refl _ _) (fun _ => rfl)) (fun e => hne e.symm)) hz2
end Go.Proofs.YtehpdhhlggegdaaDoor

namespace Go.Proofs.YtehpdhhlggegdaaDoor
open Go.RowKit
set_option maxRecDepth 8000
theorem clean_len {t : VT} : (flatP (cleanT t)).length ≤ 12 := by
  unfold cleanT
  split
  · rename_i h
    have h1 := chk_len t 0 0 h
    have h2 := (chk_le t 0 0 (by omega)).2 h
    omega
  · simp [zeroT, flatP]
/-- bytes as a text -/
def strOf (zs : List Int) : ByteArray := zs.foldl (fun r n => r.push (UInt8.ofNat n.toNat)) ByteArray.empty
theorem conv_any {w : World} {base b c : Nat} {zs : List Int} (h : OwnBy base w (.slice (some ⟨b, 0, none⟩) zs.length c) zs) : (convert 29 9 (.slice (some ⟨b, 0, none⟩) zs.length c)).run Tryd.prog w = .ok (.string (strOf zs)) w := by
  rw [run_convert_bytes_string (P := Tryd.prog) w 29 9 5 _ _ _ Tryd.underlying29 Tryd.underlying5 Tryd.underlying9]
  have hl := run_loadCells_list (P := Tryd.prog) (w := w) ⟨b, 0, none⟩ (zs.map (Value.int .u8)) (World.ownsRow.cells h rfl)
  rw [List.length_map] at hl
  exact run_bytesToString w ⟨b, 0, none⟩ zs.length c zs hl
end Go.Proofs.YtehpdhhlggegdaaDoor

namespace Go.Proofs.YtehpdhhlggegdaaDoor
open Go.RowKit
set_option maxRecDepth 8000
/-- what the law's own count comes to -/
def cnt : VT → Nat → Nat
  | .nil, _ => 1
  | .mk k i s n _ _ f, d => if fitB k i s n = false ∨ (k = 3 ∧ 3 ≤ d) ∨ 24 < s.size ∨ 6 < n then 1000000 else 1 + ((List.range n).map fun j => cnt (f j) (d + 1)).sum
theorem cnt_eq (k i : Int) (s : ByteArray) (n : Nat) (p : Option Addr) (c : Nat) (f : Nat → VT) (d : Nat) : cnt (.mk k i s n p c f) d = if fitB k i s n = false ∨ (k = 3 ∧ 3 ≤ d) ∨ 24 < s.size ∨ 6 < n then 1000000 else 1 + ((List.range n).map fun j => cnt (f j) (d + 1)).sum := rfl
/-- of the first j items -/
def cntN (f : Nat → VT) (d j : Nat) : Nat := ((List.range j).map fun j => cnt (f j) (d + 1)).sum
theorem cntN_succ (f : Nat → VT) (d j : Nat) : cntN f d (j + 1) = cntN f d j + cnt (f j) (d + 1) := by simp [cntN, List.range_succ]
theorem cnt_pos (t : VT) (d : Nat) : 1 ≤ cnt t d := by
  cases t with
  | nil => exact Nat.le_refl _
  | mk k i s n p c f => rw [cnt_eq]; split <;> omega
theorem cntN_mono (f : Nat → VT) (d : Nat) {a b : Nat} (h : a ≤ b) : cntN f d a ≤ cntN f d b := by
  induction h with
  | refl => exact Nat.le_refl _
  | step _ ih => rw [cntN_succ]; omega
theorem cnt_le : ∀ (t : VT) (d : Nat), cnt t d ≤ 1000000 * (1 + t.total) := by
  intro t
  induction t with
  | nil => intro d; show 1 ≤ 1000000 * (1 + 0); omega
  | mk k i s n p c f ih =>
    intro d
    rw [cnt_eq]
    split
    · omega
    · have key : ∀ m, cntN f d m ≤ 1000000 * (m + ((List.range m).map fun j => (f j).total).sum) := by
        intro m
        induction m with
        | zero => simp [cntN]
        | succ m ihm =>
          have h := ih m (d + 1)
          rw [cntN_succ, List.range_succ, List.map_append, List.sum_append]
          simp only [List.map_cons, List.map_nil, List.sum_cons, List.sum_nil]
          omega
      have h := key n
      simp only [cntN] at h
      simp only [VT.total]
      omega
/-- valid, or too many -/
theorem cnt_chk : ∀ (t : VT) (d m : Nat), ((chk t d m).1 = 0 → cnt t d = (flatP t).length) ∧ ((chk t d m).1 ≠ 0 → 12 < m + cnt t d) := by
  intro t
  induction t with
  | nil =>
    intro d m
    unfold chk cnt
    by_cases h1 : 12 ≤ m
    · rw [if_pos h1]; exact ⟨fun h => (by simp at h), fun _ => (by omega)⟩
    · rw [if_neg h1]; exact ⟨fun _ => (by simp [flatP]), fun h => absurd rfl h⟩
  | mk k i s n p c f ih =>
    intro d m
    rw [chk_eq, cnt_eq, flatP_eq]
    have hp : 1 ≤ (if fitB k i s n = false ∨ (k = 3 ∧ 3 ≤ d) ∨ 24 < s.size ∨ 6 < n then 1000000 else 1 + ((List.range n).map fun j => cnt (f j) (d + 1)).sum) := by split <;> omega
    by_cases h1 : 12 ≤ m
    · rw [if_pos h1]; exact ⟨fun h => (by simp at h), fun _ => (by omega)⟩
    rw [if_neg h1]
    by_cases h2 : fitB k i s n = false
    · rw [if_pos h2, if_pos (Or.inl h2)]; exact ⟨fun h => (by simp at h), fun _ => (by omega)⟩
    rw [if_neg h2]
    by_cases h3 : k = 3 ∧ 3 ≤ d
    · rw [if_pos h3, if_pos (Or.inr (Or.inl h3))]; exact ⟨fun h => (by simp at h), fun _ => (by omega)⟩
    rw [if_neg h3]
    by_cases h4 : 24 < s.size
    · rw [if_pos h4, if_pos (Or.inr (Or.inr (Or.inl h4)))]; exact ⟨fun h => (by simp at h), fun _ => (by omega)⟩
    rw [if_neg h4]
    by_cases h5 : 6 < n
    · rw [if_pos h5, if_pos (Or.inr (Or.inr (Or.inr h5)))]; exact ⟨fun h => (by simp at h), fun _ => (by omega)⟩
    rw [if_neg h5, if_neg (by intro h; rcases h with h | h | h | h <;> contradiction)]
    have key : ∀ j, ((stepN (fun j m => chk (f j) (d + 1) m) (m + 1) j).1 = 0 → cntN f d j = (flatN f j).length ∧ (stepN (fun j m => chk (f j) (d + 1) m) (m + 1) j).2 = m + 1 + (flatN f j).length) ∧ ((stepN (fun j m => chk (f j) (d + 1) m) (m + 1) j).1 ≠ 0 → 12 < m + 1 + cntN f d j) := by
      intro j
      induction j with
      | zero => exact ⟨fun _ => ⟨rfl, rfl⟩, fun h => absurd rfl h⟩
      | succ j ihj =>
        by_cases hz : (stepN (fun j m => chk (f j) (d + 1) m) (m + 1) j).1 = 0
        · obtain ⟨e1, e2⟩ := ihj.1 hz
          rw [stepN_succ hz]
          have hc := ih j (d + 1) (stepN (fun j m => chk (f j) (d + 1) m) (m + 1) j).2
          rw [cntN_succ, flatN_succ, List.length_append]
          refine ⟨fun h => ⟨by rw [e1, hc.1 h], ?_⟩, fun h => ?_⟩
          · rw [chk_len _ _ _ h, e2]; omega
          · have := hc.2 h
            rw [e2] at this
            omega
        · have h6 := ihj.2 hz
          rw [stepN_stuck (Nat.le_succ j) hz]
          refine ⟨fun h => absurd h hz, fun _ => ?_⟩
          rw [cntN_succ]
          omega
    have hk := key n
    refine ⟨fun h => ?_, fun h => ?_⟩
    · have := (hk.1 h).1
      simp only [cntN, flatN] at this
      simp only [List.length_cons]
      omega
    · have := hk.2 h
      simp only [cntN] at this
      omega
/-- the law's clean is the cleaned -/
theorem cnt_clean (t : VT) : (12 < cnt t 0) ↔ (chk t 0 0).1 ≠ 0 := by
  have h := cnt_chk t 0 0
  refine ⟨fun h1 h2 => ?_, fun h1 => by have := h.2 h1; omega⟩
  have h3 := h.1 h2
  have h4 := chk_len t 0 0 h2
  have h5 := (chk_le t 0 0 (by omega)).2 h2
  omega
end Go.Proofs.YtehpdhhlggegdaaDoor
