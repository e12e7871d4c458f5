import Derived.Test.YtdmhemofhmfkoabGreatDoorPack0
import Derived.Test.YtdmhemofhmfkoabGreatDoorPack1
import Derived.Test.YtdmhemofhmfkoabGreatDoorPack24
namespace Go.Proofs.YtdmhemofhmfkoabGreatDoor
open Go.RowKit
set_option maxRecDepth 8000

/-- eight bytes, the highest first -/
def be8 (m : Nat) : List Int := [(m / 72057594037927936 % 256 : Nat), (m / 281474976710656 % 256 : Nat), (m / 1099511627776 % 256 : Nat), (m / 4294967296 % 256 : Nat), (m / 16777216 % 256 : Nat), (m / 65536 % 256 : Nat), (m / 256 % 256 : Nat), (m % 256 : Nat)]
def placeB (n : Int) : List Int := be8 (n + 9223372036854775808).toNat

theorem size_le_alloc (w : World) (o : Obj) : w.heap.size ≤ (w.alloc o).heap.size := by simp
theorem xor_top (r : Nat) (h : r < 9223372036854775808) : r ^^^ 9223372036854775808 = r + 9223372036854775808 := by
  have h1 : (r ^^^ 2 ^ 63) % 2 ^ 63 = r := by
    rw [Nat.xor_mod_two_pow, Nat.mod_self, Nat.xor_zero, Nat.mod_eq_of_lt (by omega)]
  have h2 : (r ^^^ 2 ^ 63) / 2 ^ 63 = 1 := by
    rw [Nat.xor_div_two_pow, Nat.div_eq_of_lt (by omega), Nat.div_self (by omega), Nat.zero_xor]
  have h3 := Nat.div_add_mod (r ^^^ 2 ^ 63) (2 ^ 63)
  rw [h1, h2] at h3
  have e : (2 : Nat) ^ 63 = 9223372036854775808 := by decide
  rw [e] at h3
  omega
theorem xor_top' (r : Nat) (h : r < 9223372036854775808) : (r + 9223372036854775808) ^^^ 9223372036854775808 = r := by
  rw [← xor_top r h, Nat.xor_assoc, Nat.xor_self, Nat.xor_zero]
theorem place_xor (n : Int) (hn : -9223372036854775808 ≤ n) (hn2 : n ≤ 9223372036854775807) : bits BinOp.xor IntKind.u64 (IntKind.u64.wrap n) 9223372036854775808 = ((n + 9223372036854775808).toNat : Int) := by
  by_cases h : 0 ≤ n
  · obtain ⟨a, rfl⟩ := Int.eq_ofNat_of_zero_le h
    have e : IntKind.u64.wrap (a : Int) = (a : Int) := by rw [wrap_u64]; omega
    rw [e]
    have := bits_xor_u64_nat a 9223372036854775808 (by omega) (by omega)
    rw [xor_top a (by omega)] at this
    rw [show ((9223372036854775808 : Nat) : Int) = 9223372036854775808 from rfl] at this
    rw [this]
    omega
  · obtain ⟨r, hr⟩ := Int.eq_ofNat_of_zero_le (show 0 ≤ n + 9223372036854775808 by omega)
    have e : IntKind.u64.wrap n = ((r + 9223372036854775808 : Nat) : Int) := by rw [wrap_u64]; omega
    rw [e]
    have := bits_xor_u64_nat (r + 9223372036854775808) 9223372036854775808 (by omega) (by omega)
    rw [xor_top' r (by omega)] at this
    rw [show ((9223372036854775808 : Nat) : Int) = 9223372036854775808 from rfl] at this
    rw [this]
    omega

end Go.Proofs.YtdmhemofhmfkoabGreatDoor

namespace Go.Proofs.YtdmhemofhmfkoabGreatDoor
open Go.RowKit
set_option maxRecDepth 8000

/-- a text's bytes, 255 behind each 0 -/
def escB (l : List UInt8) : List Int := l.flatMap fun b => if b.toNat = 0 then [0, 255] else [(b.toNat : Int)]
/-- bytes whose order is the values' order -/
def rankB : VT → List Int
  | .nil => [1]
  | .mk k i s n _ _ f => (k + 1) :: (if k = 1 then placeB i else if k = 2 then escB s.data.toList ++ [0, 0] else if k = 3 then ((List.range n).flatMap fun j => rankB (f j)) ++ [0] else [])
theorem rankB_eq (k i : Int) (s : ByteArray) (n : Nat) (p : Option Addr) (c : Nat) (f : Nat → VT) : rankB (.mk k i s n p c f) = (k + 1) :: (if k = 1 then placeB i else if k = 2 then escB s.data.toList ++ [0, 0] else if k = 3 then ((List.range n).flatMap fun j => rankB (f j)) ++ [0] else []) := rfl
theorem esc_len (l : List UInt8) : (escB l).length ≤ 2 * l.length := by
  induction l with
  | nil => simp [escB]
  | cons b l ih =>
    have : escB (b :: l) = (if b.toNat = 0 then [0, 255] else [(b.toNat : Int)]) ++ escB l := by simp [escB]
    rw [this, List.length_append, List.length_cons]
    split <;> simp <;> omega
theorem flatMap_len (g : Nat → List Int) (h : Nat → List PT) : ∀ n, (∀ j, j < n → (g j).length ≤ 60 * (h j).length) → ((List.range n).flatMap g).length ≤ 60 * ((List.range n).flatMap h).length := by
  intro n
  induction n with
  | zero => intro _; simp
  | succ n ih =>
    intro e
    rw [List.range_succ, List.flatMap_append, List.flatMap_append, List.length_append, List.length_append]
    have h1 := ih fun j hj => e j (by omega)
    have h2 := e n (by omega)
    simp only [List.flatMap_cons, List.flatMap_nil, List.append_nil]
    omega
theorem rank_len : ∀ t : VT, Val t → (rankB t).length ≤ 60 * (flatP t).length := by
  intro t
  induction t with
  | nil => intro h; exact h.elim
  | mk k i s n p c f ih =>
    intro h
    rw [rankB_eq, flatP_eq]
    have hs : s.data.toList.length = s.size := by simp
    have he := esc_len s.data.toList
    have hz := h.1.2.1
    have hf := flatMap_len (fun j => rankB (f j)) (fun j => flatP (f j)) n fun j hj => ih j (h.2 j hj)
    simp only [List.length_cons]
    by_cases h1 : k = 1
    · rw [if_pos h1]; simp [placeB, be8]; omega
    rw [if_neg h1]
    by_cases h2 : k = 2
    · rw [if_pos h2]; simp only [List.length_append, List.length_cons, List.length_nil]; omega
    rw [if_neg h2]
    by_cases h3 : k = 3
    · rw [if_pos h3]; simp only [List.length_append, List.length_cons, List.length_nil]; omega
    · rw [if_neg h3]; simp only [List.length_nil]; omega
theorem pt_get : ∀ (L : List PT) (i r : Nat) (h : i < L.length), r < 4 → (ptCells L)[i * 4 + r]? = (L[i]'h).cells[r]? := by
  intro L
  induction L with
  | nil => intro i r h; exact absurd h (by simp)
  | cons q L ih =>
    intro i r h hr
    have e : ptCells (q :: L) = q.cells ++ ptCells L := by simp [ptCells]
    rw [e]
    cases i with
    | zero =>
      rw [List.getElem?_append_left (by simp [PT.cells]; omega)]
      simp
    | succ i =>
      have hl : q.cells.length = 4 := rfl
      rw [List.getElem?_append_right (by rw [hl]; omega), hl]
      have h2 := ih i r (by simpa using h) hr
      rw [show (i + 1) * 4 + r - 4 = i * 4 + r by omega, h2]
      simp
/-- a part that lies in a row of parts -/
theorem part_at {w : World} {base g c : Nat} {L : List PT} (h : w.ownsRow base 122 4 (.slice (some ⟨g, 0, none⟩) L.length c) L.length (ptCells L)) {i : Nat} {q : PT} (hq : L[i]? = some q) :
    i < L.length ∧ w.cell? ⟨g, i * 4, none⟩ = some (.int .i64 q.kind) ∧ w.cell? ⟨g, i * 4 + 1, none⟩ = some (.int .i64 q.int) ∧ w.cell? ⟨g, i * 4 + 2, none⟩ = some (.string q.text) ∧ w.cell? ⟨g, i * 4 + 3, none⟩ = some (.int .i64 q.n) := by
  obtain ⟨hi, rfl⟩ := List.getElem?_eq_some_iff.1 hq
  have hc := h.cells (g := g) rfl
  have k : ∀ r u, r < 4 → (L[i]).cells[r]? = some u → w.cell? ⟨g, i * 4 + r, none⟩ = some u := by
    intro r u hr hu
    have := hc (i * 4 + r) u (by rw [pt_get L i r hi hr]; exact hu)
    rw [Go.WideShapes.add_plain, Nat.zero_add] at this
    exact this
  exact ⟨hi, k 0 _ (by omega) rfl, k 1 _ (by omega) rfl, k 2 _ (by omega) rfl, k 3 _ (by omega) rfl⟩
end Go.Proofs.YtdmhemofhmfkoabGreatDoor

namespace Go.Proofs.YtdmhemofhmfkoabGreatDoor
open Go.RowKit
set_option maxRecDepth 8000

def RankPost (w : World) (t : VT) (i : Nat) (r : Ending) (w' : World) : Prop :=
  ∃ v, r = .returned (.tuple #[v, .int .i64 ((i + (flatP t).length : Nat) : Int)]) ∧ w'.ownsRow w.heap.size 5 1 v (rankB t).length ((rankB t).map (Value.int .u8)) ∧ Below w.heap.size w w'
end Go.Proofs.YtdmhemofhmfkoabGreatDoor

namespace Go.Proofs.YtdmhemofhmfkoabGreatDoor
open Go.RowKit
set_option maxRecDepth 8000

end Go.Proofs.YtdmhemofhmfkoabGreatDoor

namespace Go.Proofs.YtdmhemofhmfkoabGreatDoor
open Go.RowKit
set_option maxRecDepth 8000

theorem news2 (w : World) (a b : Value) (e : TypeId) : ∀ j u, [a, b][j]? = some u → (w.alloc (.cells #[a, b] e)).cell? ((⟨w.heap.size, 0, none⟩ : Addr).add j) = some u := by
  intro j u h
  rw [cell_new, ← h]
  simp
end Go.Proofs.YtdmhemofhmfkoabGreatDoor
