import Derived.Test.YtpknlbibijheaabPack31
import Derived.Test.YtpknlbibijheaabPack0
import Derived.Test.YtpknlbibijheaabPack33
import Derived.Test.YtpknlbibijheaabFlatGood
namespace Go.Proofs.Ytpknlbibijheaab
open Go.RowKit
set_option maxRecDepth 8000
/-- valid, without a look at the number of parts -/
def Val : VT → Prop
  | .nil => False
  | .mk k i s n _ _ f => (fitB k i s n = true ∧ s.size ≤ 24 ∧ n ≤ 6 ∧ -9223372036854775808 ≤ i ∧ i ≤ 9223372036854775807) ∧ ∀ j, j < n → Val (f j)
theorem val_of {w : World} {S : Nat → Prop} : ∀ (t : VT) (d m : Nat), VT.In w S t → (chk t d m).1 = 0 → Val t := by
  intro t
  induction t with
  | nil => intro d m h; exact h.elim
  | mk k i s n p c f ih =>
    intro d m hin h
    rw [chk_eq] at h
    by_cases h1 : 12 ≤ m
    · rw [if_pos h1] at h; simp at h
    rw [if_neg h1] at h
    by_cases h2 : fitB k i s n = false
    · rw [if_pos h2] at h; simp at h
    rw [if_neg h2] at h
    by_cases h3 : k = 3 ∧ 3 ≤ d
    · rw [if_pos h3] at h; simp at h
    rw [if_neg h3] at h
    by_cases h4 : 24 < s.size
    · rw [if_pos h4] at h; simp at h
    rw [if_neg h4] at h
    by_cases h5 : 6 < n
    · rw [if_pos h5] at h; simp at h
    rw [if_neg h5] at h
    refine ⟨⟨by simpa using h2, by omega, by omega, hin.fit.i0, hin.fit.i1⟩, fun j hj => ?_⟩
    have e : ∀ q, q ≤ n → (stepN (fun j m => chk (f j) (d + 1) m) (m + 1) q).1 = 0 := by
      intro q hq
      by_cases hz : (stepN (fun j m => chk (f j) (d + 1) m) (m + 1) q).1 = 0
      · exact hz
      · rw [stepN_stuck hq hz] at h; exact absurd h hz
    have e1 := e (j + 1) hj
    rw [stepN_succ (e j (by omega))] at e1
    exact ih j _ _ (hin.sub hj) e1
theorem zero_val : Val zeroT := ⟨⟨by simp [fitB], by decide, by omega, by omega, by omega⟩, fun j hj => absurd hj (by omega)⟩
theorem clean_val {w : World} {S : Nat → Prop} {t : VT} (h : VT.In w S t) : Val (cleanT t) := by
  unfold cleanT
  split
  · rename_i hc; exact val_of t 0 0 h hc
  · exact zero_val
end Go.Proofs.Ytpknlbibijheaab

namespace Go.Proofs.Ytpknlbibijheaab
open Go.RowKit
set_option maxRecDepth 8000

/-- eight bytes, the highest first -/
def be8 (m : Nat) : List Int := [(m / 72057594037927936 % 256 : Nat), (m / 281474976710656 % 256 : Nat), (m / 1099511627776 % 256 : Nat), (m / 4294967296 % 256 : Nat), (m / 16777216 % 256 : Nat), (m / 65536 % 256 : Nat), (m / 256 % 256 : Nat), (m % 256 : Nat)]
def placeB (n : Int) : List Int := be8 (n + 9223372036854775808).toNat

theorem size_le_alloc (w : World) (o : Obj) : w.heap.size ≤ (w.alloc o).heap.size := by simp
theorem xor_top (r : Nat) (h : r < 9223372036854775808) : r ^^^ 9223372036854775808 = r + 9223372036854775808 := by
  have h1 : (r ^^^ 2 ^ 63) % 2 ^ 63 = r := by
    rw [Nat.xor_mod_two_pow, Nat.mod_self, Nat.xor_zero, Nat.mod_eq_of_lt (by omega)]
  have h2 : (r ^^^ 2 ^ 63) / 2 ^ 63 = 1 := by
    rw [Nat.xor_div_two_pow, Nat.div_eq_of_lt (by omega), Nat.div_self (by omega), Nat.zero_xor]
  have h3 := Nat.div_add_mod (r ^^^ 2 ^ 63) (2 ^ 63)
  rw [h1, h2] at h3
  have e : (2 : Nat) ^ 63 = 9223372036854775808 := by decide
  rw [e] at h3
  omega
theorem xor_top' (r : Nat) (h : r < 9223372036854775808) : (r + 9223372036854775808) ^^^ 9223372036854775808 = r := by
  rw [← xor_top r h, Nat.xor_assoc, Nat.xor_self, Nat.xor_zero]
theorem place_xor (n : Int) (hn : -9223372036854775808 ≤ n) (hn2 : n ≤ 9223372036854775807) : bits BinOp.xor IntKind.u64 (IntKind.u64.wrap n) 9223372036854775808 = ((n + 9223372036854775808).toNat : Int) := by
  by_cases h : 0 ≤ n
  · obtain ⟨a, rfl⟩ := Int.eq_ofNat_of_zero_le h
    have e : IntKind.u64.wrap (a : Int) = (a : Int) := by rw [wrap_u64]; omega
    rw [e]
    have := bits_xor_u64_nat a 9223372036854775808 (by omega) (by omega)
    rw [xor_top a (by omega)] at this
    rw [show ((9223372036854775808 : Nat) : Int) = 9223372036854775808 from rfl] at this
    rw [this]
    omega
  · obtain ⟨r, hr⟩ := Int.eq_ofNat_of_zero_le (show 0 ≤ n + 9223372036854775808 by omega)
    have e : IntKind.u64.wrap n = ((r + 9223372036854775808 : Nat) : Int) := by rw [wrap_u64]; omega
    rw [e]
    have := bits_xor_u64_nat (r + 9223372036854775808) 9223372036854775808 (by omega) (by omega)
    rw [xor_top' r (by omega)] at this
    rw [show ((9223372036854775808 : Nat) : Int) = 9223372036854775808 from rfl] at this
    rw [this]
    omega

set_option maxHeartbeats 4000000 in
theorem place_any (n : Int) (hn : -9223372036854775808 ≤ n) (hn2 : n ≤ 9223372036854775807) (w : World) :
    Calls Try.prog 59 #[.int .i64 n] w fun e w' => ∃ v, e = .returned v ∧ w'.ownsRow w.heap.size 5 1 v 8 ((placeB n).map (Value.int .u8)) ∧ Below w.heap.size w w' := by
  obtain ⟨i0, Kd⟩ := kindB
  have hX := place_xor n hn hn2
  unfold placeB
  have hm : Hid ((n + 9223372036854775808).toNat < 18446744073709551616) := by unfold Hid; omega
  generalize (n + 9223372036854775808).toNat = m at *
  clear hn hn2
  have hR0 : w.ownsRow w.heap.size 5 1 (.slice none 0 0) 0 [] := World.ownsRow_nil _ _ _ _
  have hb0 : Below w.heap.size w w := Below.refl _ _
  have hs0 := Nat.le_refl w.heap.size
  go_enter Try.func59, Try.ntmps59
  go_wp2_with fail
  refine wp_loop_rounds 9 ?_
  rw [rounds_succ]
  go_wp2_with (at_builtin; refine wpList_app rfl (.tmp 13) (.tmp 18) 91 5 i0 _ 1 1 Kd rfl w.heap.size (.slice none 0 0) 0 [] rfl (hR0.alloc _) ⟨w.heap.size, 0, none⟩ 1 1 [.int .u8 ((m : Int) / 72057594037927936 % 256)] rfl rfl (cell_one_new _ _ _) (ints_oneCell .u8 [_]) (by omega) (by omega) (Nat.le_trans hs0 (size_le_alloc _ _)) ?_)
  intro v1 w1 hR1 hg hn
  have hb1 : Below w.heap.size w w1 := (hb0.alloc hs0 _).grown hg (Nat.le_trans hs0 (size_le_alloc _ _)) (fun k hk => (hR0.lt k hk).1)
  have hs1 := hb1.size
  clear hR0 hg hn hb0 hs0
  go_wp2_with fail
  rw [rounds_succ]
  go_wp2_with (at_builtin; refine wpList_app rfl (.tmp 13) (.tmp 18) 91 5 i0 _ 1 1 Kd rfl w.heap.size v1 1 [.int .u8 ((m : Int) / 72057594037927936 % 256)] rfl (hR1.alloc _) ⟨w1.heap.size, 0, none⟩ 1 1 [.int .u8 ((m : Int) / 281474976710656 % 256)] rfl rfl (cell_one_new _ _ _) (ints_oneCell .u8 [_]) (by omega) (by omega) (Nat.le_trans hs1 (size_le_alloc _ _)) ?_)
  intro v2 w2 hR2 hg hn
  have hb2 : Below w.heap.size w w2 := (hb1.alloc hs1 _).grown hg (Nat.le_trans hs1 (size_le_alloc _ _)) (fun k hk => (hR1.lt k hk).1)
  have hs2 := hb2.size
  clear hR1 hg hn hb1 hs1
  go_wp2_with fail
  rw [rounds_succ]
  go_wp2_with (at_builtin; refine wpList_app rfl (.tmp 13) (.tmp 18) 91 5 i0 _ 1 1 Kd rfl w.heap.size v2 2 [.int .u8 ((m : Int) / 72057594037927936 % 256), .int .u8 ((m : Int) / 281474976710656 % 256)] rfl (hR2.alloc _) ⟨w2.heap.size, 0, none⟩ 1 1 [.int .u8 ((m : Int) / 1099511627776 % 256)] rfl rfl (cell_one_new _ _ _) (ints_oneCell .u8 [_]) (by omega) (by omega) (Nat.le_trans hs2 (size_le_alloc _ _)) ?_)
  intro v3 w3 hR3 hg hn
  have hb3 : Below w.heap.size w w3 := (hb2.alloc hs2 _).grown hg (Nat.le_trans hs2 (size_le_alloc _ _)) (fun k hk => (hR2.lt k hk).1)
  have hs3 := hb3.size
  clear hR2 hg hn hb2 hs2
  go_wp2_with fail
  rw [rounds_succ]
  go_wp2_with (at_builtin; refine wpList_app rfl (.tmp 13) (.tmp 18) 91 5 i0 _ 1 1 Kd rfl w.heap.size v3 3 [.int .u8 ((m : Int) / 72057594037927936 % 256), .int .u8 ((m : Int) / 281474976710656 % 256), .int .u8 ((m : Int) / 1099511627776 % 256)] rfl (hR3.alloc _) ⟨w3.heap.size, 0, none⟩ 1 1 [.int .u8 ((m : Int) / 4294967296 % 256)] rfl rfl (cell_one_new _ _ _) (ints_oneCell .u8 [_]) (by omega) (by omega) (Nat.le_trans hs3 (size_le_alloc _ _)) ?_)
  intro v4 w4 hR4 hg hn
  have hb4 : Below w.heap.size w w4 := (hb3.alloc hs3 _).grown hg (Nat.le_trans hs3 (size_le_alloc _ _)) (fun k hk => (hR3.lt k hk).1)
  have hs4 := hb4.size
  clear hR3 hg hn hb3 hs3
  go_wp2_with fail
  rw [rounds_succ]
  go_wp2_with (at_builtin; refine wpList_app rfl (.tmp 13) (.tmp 18) 91 5 i0 _ 1 1 Kd rfl w.heap.size v4 4 [.int .u8 ((m : Int) / 72057594037927936 % 256), .int .u8 ((m : Int) / 281474976710656 % 256), .int .u8 ((m : Int) / 1099511627776 % 256), .int .u8 ((m : Int) / 4294967296 % 256)] rfl (hR4.alloc _) ⟨w4.heap.size, 0, none⟩ 1 1 [.int .u8 ((m : Int) / 16777216 % 256)] rfl rfl (cell_one_new _ _ _) (ints_oneCell .u8 [_]) (by omega) (by omega) (Nat.le_trans hs4 (size_le_alloc _ _)) ?_)
  intro v5 w5 hR5 hg hn
  have hb5 : Below w.heap.size w w5 := (hb4.alloc hs4 _).grown hg (Nat.le_trans hs4 (size_le_alloc _ _)) (fun k hk => (hR4.lt k hk).1)
  have hs5 := hb5.size
  clear hR4 hg hn hb4 hs4
  go_wp2_with fail
  rw [rounds_succ]
  go_wp2_with (at_builtin; refine wpList_app rfl (.tmp 13) (.tmp 18) 91 5 i0 _ 1 1 Kd rfl w.heap.size v5 5 [.int .u8 ((m : Int) / 72057594037927936 % 256), .int .u8 ((m : Int) / 281474976710656 % 256), .int .u8 ((m : Int) / 1099511627776 % 256), .int .u8 ((m : Int) / 4294967296 % 256), .int .u8 ((m : Int) / 16777216 % 256)] rfl (hR5.alloc _) ⟨w5.heap.size, 0, none⟩ 1 1 [.int .u8 ((m : Int) / 65536 % 256)] rfl rfl (cell_one_new _ _ _) (ints_oneCell .u8 [_]) (by omega) (by omega) (Nat.le_trans hs5 (size_le_alloc _ _)) ?_)
  intro v6 w6 hR6 hg hn
  have hb6 : Below w.heap.size w w6 := (hb5.alloc hs5 _).grown hg (Nat.le_trans hs5 (size_le_alloc _ _)) (fun k hk => (hR5.lt k hk).1)
  have hs6 := hb6.size
  clear hR5 hg hn hb5 hs5
  go_wp2_with fail
  rw [rounds_succ]
  go_wp2_with (at_builtin; refine wpList_app rfl (.tmp 13) (.tmp 18) 91 5 i0 _ 1 1 Kd rfl w.heap.size v6 6 [.int .u8 ((m : Int) / 72057594037927936 % 256), .int .u8 ((m : Int) / 281474976710656 % 256), .int .u8 ((m : Int) / 1099511627776 % 256), .int .u8 ((m : Int) / 4294967296 % 256), .int .u8 ((m : Int) / 16777216 % 256), .int .u8 ((m : Int) / 65536 % 256)] rfl (hR6.alloc _) ⟨w6.heap.size, 0, none⟩ 1 1 [.int .u8 ((m : Int) / 256 % 256)] rfl rfl (cell_one_new _ _ _) (ints_oneCell .u8 [_]) (by omega) (by omega) (Nat.le_trans hs6 (size_le_alloc _ _)) ?_)
  intro v7 w7 hR7 hg hn
  have hb7 : Below w.heap.size w w7 := (hb6.alloc hs6 _).grown hg (Nat.le_trans hs6 (size_le_alloc _ _)) (fun k hk => (hR6.lt k hk).1)
  have hs7 := hb7.size
  clear hR6 hg hn hb6 hs6
  go_wp2_with fail
  rw [rounds_succ]
  go_wp2_with (at_builtin; refine wpList_app rfl (.tmp 13) (.tmp 18) 91 5 i0 _ 1 1 Kd rfl w.heap.size v7 7 [.int .u8 ((m : Int) / 72057594037927936 % 256), .int .u8 ((m : Int) / 281474976710656 % 256), .int .u8 ((m : Int) / 1099511627776 % 256), .int .u8 ((m : Int) / 4294967296 % 256), .int .u8 ((m : Int) / 16777216 % 256), .int .u8 ((m : Int) / 65536 % 256), .int .u8 ((m : Int) / 256 % 256)] rfl (hR7.alloc _) ⟨w7.heap.size, 0, none⟩ 1 1 [.int .u8 ((m : Int) % 256)] rfl rfl (cell_one_new _ _ _) (ints_oneCell .u8 [_]) (by omega) (by omega) (Nat.le_trans hs7 (size_le_alloc _ _)) ?_)
  intro v8 w8 hR8 hg hn
  have hb8 : Below w.heap.size w w8 := (hb7.alloc hs7 _).grown hg (Nat.le_trans hs7 (size_le_alloc _ _)) (fun k hk => (hR7.lt k hk).1)
  have hs8 := hb8.size
  clear hR7 hg hn hb7 hs7
  go_wp2_with fail
  rw [rounds_succ]
  go_wp2
  go_ret
  refine ⟨v8, rfl, ?_, hb8⟩
  simpa [be8] using hR8
end Go.Proofs.Ytpknlbibijheaab

namespace Go.Proofs.Ytpknlbibijheaab
open Go.RowKit
set_option maxRecDepth 8000

/-- a text's bytes, 255 behind each 0 -/
def escB (l : List UInt8) : List Int := l.flatMap fun b => if b.toNat = 0 then [0, 255] else [(b.toNat : Int)]
/-- bytes whose order is the values' order -/
def rankB : VT → List Int
  | .nil => [1]
  | .mk k i s n _ _ f => (k + 1) :: (if k = 1 then placeB i else if k = 2 then escB s.data.toList ++ [0, 0] else if k = 3 then ((List.range n).flatMap fun j => rankB (f j)) ++ [0] else [])
theorem rankB_eq (k i : Int) (s : ByteArray) (n : Nat) (p : Option Addr) (c : Nat) (f : Nat → VT) : rankB (.mk k i s n p c f) = (k + 1) :: (if k = 1 then placeB i else if k = 2 then escB s.data.toList ++ [0, 0] else if k = 3 then ((List.range n).flatMap fun j => rankB (f j)) ++ [0] else []) := rfl
theorem esc_len (l : List UInt8) : (escB l).length ≤ 2 * l.length := by
  induction l with
  | nil => simp [escB]
  | cons b l ih =>
    have : escB (b :: l) = (if b.toNat = 0 then [0, 255] else [(b.toNat : Int)]) ++ escB l := by simp [escB]
    rw [this, List.length_append, List.length_cons]
    split <;> simp <;> omega
theorem flatMap_len (g : Nat → List Int) (h : Nat → List PT) : ∀ n, (∀ j, j < n → (g j).length ≤ 60 * (h j).length) → ((List.range n).flatMap g).length ≤ 60 * ((List.range n).flatMap h).length := by
  intro n
  induction n with
  | zero => intro _; simp
  | succ n ih =>
    intro e
    rw [List.range_succ, List.flatMap_append, List.flatMap_append, List.length_append, List.length_append]
    have h1 := ih fun j hj => e j (by omega)
    have h2 := e n (by omega)
    simp only [List.flatMap_cons, List.flatMap_nil, List.append_nil]
    omega
theorem rank_len : ∀ t : VT, Val t → (rankB t).length ≤ 60 * (flatP t).length := by
  intro t
  induction t with
  | nil => intro h; exact h.elim
  | mk k i s n p c f ih =>
    intro h
    rw [rankB_eq, flatP_eq]
    have hs : s.data.toList.length = s.size := by simp
    have he := esc_len s.data.toList
    have hz := h.1.2.1
    have hf := flatMap_len (fun j => rankB (f j)) (fun j => flatP (f j)) n fun j hj => ih j (h.2 j hj)
    simp only [List.length_cons]
    by_cases h1 : k = 1
    · rw [if_pos h1]; simp [placeB, be8]; omega
    rw [if_neg h1]
    by_cases h2 : k = 2
    · rw [if_pos h2]; simp only [List.length_append, List.length_cons, List.length_nil]; omega
    rw [if_neg h2]
    by_cases h3 : k = 3
    · rw [if_pos h3]; simp only [List.length_append, List.length_cons, List.length_nil]; omega
    · rw [if_neg h3]; simp only [List.length_nil]; omega
theorem pt_get : ∀ (L : List PT) (i r : Nat) (h : i < L.length), r < 4 → (ptCells L)[i * 4 + r]? = (L[i]'h).cells[r]? := by
  intro L
  induction L with
  | nil => intro i r h; exact absurd h (by simp)
  | cons q L ih =>
    intro i r h hr
    have e : ptCells (q :: L) = q.cells ++ ptCells L := by simp [ptCells]
    rw [e]
    cases i with
    | zero =>
      rw [List.getElem?_append_left (by simp [PT.cells]; omega)]
      simp
    | succ i =>
      have hl : q.cells.length = 4 := rfl
      rw [List.getElem?_append_right (by rw [hl]; omega), hl]
      have h2 := ih i r (by simpa using h) hr
      rw [show (i + 1) * 4 + r - 4 = i * 4 + r by omega, h2]
      simp
/-- a part that lies in a row of parts -/
theorem part_at {w : World} {base g c : Nat} {L : List PT} (h : w.ownsRow base 103 4 (.slice (some ⟨g, 0, none⟩) L.length c) L.length (ptCells L)) {i : Nat} {q : PT} (hq : L[i]? = some q) :
    i < L.length ∧ w.cell? ⟨g, i * 4, none⟩ = some (.int .i64 q.kind) ∧ w.cell? ⟨g, i * 4 + 1, none⟩ = some (.int .i64 q.int) ∧ w.cell? ⟨g, i * 4 + 2, none⟩ = some (.string q.text) ∧ w.cell? ⟨g, i * 4 + 3, none⟩ = some (.int .i64 q.n) := by
  obtain ⟨hi, rfl⟩ := List.getElem?_eq_some_iff.1 hq
  have hc := h.cells (g := g) rfl
  have k : ∀ r u, r < 4 → (L[i]).cells[r]? = some u → w.cell? ⟨g, i * 4 + r, none⟩ = some u := by
    intro r u hr hu
    have := hc (i * 4 + r) u (by rw [pt_get L i r hi hr]; exact hu)
    rw [Go.WideShapes.add_plain, Nat.zero_add] at this
    exact this
  exact ⟨hi, k 0 _ (by omega) rfl, k 1 _ (by omega) rfl, k 2 _ (by omega) rfl, k 3 _ (by omega) rfl⟩
end Go.Proofs.Ytpknlbibijheaab
