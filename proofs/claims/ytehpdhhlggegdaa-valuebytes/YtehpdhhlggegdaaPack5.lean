import Derived.Test.YtehpdhhlggegdaaPack1
import Derived.Test.YtehpdhhlggegdaaPack0
namespace Go.Proofs.Ytehpdhhlggegdaa
open Go.RowKit
set_option maxRecDepth 8000

/-- a room that keeps nothing but values -/
def RS.plainV (R : RS) : Prop := ∀ i, i < 10 → i ≠ 2 → i ≠ 3 → R.F i = .slice none 0 0

theorem mark_at {base : Nat} {w : World} {R : RS} (hR : Rm base w R) {i : Nat} (hi : i < 10) {p : Option Addr} {c q : Nat} (hF : R.F i = .slice p (R.L i).length c) (hq : q < (R.L i).length) (hs : rmMark i = rmMark 2) {k : Nat} (hk : k < rmCnt i) (hz : rmSize i = 4 := by rfl) :
    ∃ gb xg d xc, p = some ⟨gb, 0, none⟩ ∧ d ≤ 281474976710656 ∧ gb < w.heap.size ∧ xg < w.heap.size ∧ w.cell? ⟨gb, q, none⟩ = some (.slice (some ⟨xg, 0, none⟩) (d + rmCnt i) xc) ∧
      w.cell? ⟨xg, (d + k) * 4, none⟩ = some (.int .i64 1) ∧ w.cell? ⟨xg, (d + k) * 4 + 1, none⟩ = some (.int .i64 (lotN k)) ∧ w.cell? ⟨xg, (d + k) * 4 + 2, none⟩ = some (.string ⟨#[]⟩) ∧ w.cell? ⟨xg, (d + k) * 4 + 3, none⟩ = some (.slice none 0 0) := by
  have hrow := hR.row i hi
  have hlt := hrow.lt
  obtain ⟨_, ⟨hv, h0⟩ | ⟨gb, cap, cur, hv, hbg, hh, hnc, _⟩⟩ := id hrow
  · omega
  · have hm := hR.mark i hi (R.L i)[q] (List.getElem_mem hq)
    obtain ⟨⟨⟨h1, h1b⟩, h2⟩, h3, _⟩ := hm
    have hc := hrow.cells (g := gb) (by rw [hv]; rfl) q (R.L i)[q].val (by simp [List.getElem?_eq_getElem hq])
    rw [Go.WideShapes.add_plain, Nat.zero_add] at hc
    obtain ⟨d, hd⟩ : ∃ d, (R.L i)[q].n = d + rmCnt i := ⟨(R.L i)[q].n - rmCnt i, by omega⟩
    have key : ∀ r u, r < 4 → (markV k).cells[r]? = some u → w.cell? ⟨(R.L i)[q].g, (d + k) * 4 + r, none⟩ = some u := by
      intro r u hr hu
      have h := h2 k hk r (by rw [hz]; exact hr)
      rw [hd, Nat.add_sub_cancel, hz, hs] at h
      rw [h]
      exact hu
    rw [hF] at hv
    simp only [Value.slice.injEq] at hv
    refine ⟨gb, (R.L i)[q].g, d, (R.L i)[q].c, hv.1, by omega, (hlt gb (by rw [hF, hv.1]; rfl)).2, h3, ?_, key 0 _ (by omega) rfl, key 1 _ (by omega) rfl, key 2 _ (by omega) rfl, key 3 _ (by omega) rfl⟩
    rw [hc, ← hd]; rfl

end Go.Proofs.Ytehpdhhlggegdaa

namespace Go.Proofs.Ytehpdhhlggegdaa
open Go.RowKit
set_option maxRecDepth 8000
/-- the mark of a list that the room keeps in field i -/
theorem mark_of {base : Nat} {w : World} {R : RS} (hR : Rm base w R) {i : Nat} (hi : i < 10) {p : Option Addr} {c q : Nat} (hF : R.F i = .slice p (R.L i).length c) (hq : q < (R.L i).length) {k : Nat} (hk : k < rmCnt i) :
    ∃ gb xg d xc, p = some ⟨gb, 0, none⟩ ∧ d ≤ 281474976710656 ∧ gb < w.heap.size ∧ xg < w.heap.size ∧ w.cell? ⟨gb, q, none⟩ = some (.slice (some ⟨xg, 0, none⟩) (d + rmCnt i) xc) ∧ ∀ r u, r < rmSize i → (rmMark i k)[r]? = some u → w.cell? ⟨xg, (d + k) * rmSize i + r, none⟩ = some u := by
  have hrow := hR.row i hi
  have hlt := hrow.lt
  obtain ⟨_, ⟨hv, h0⟩ | ⟨gb, cap, cur, hv, hbg, hh, hnc, _⟩⟩ := id hrow
  · omega
  · have hm := hR.mark i hi (R.L i)[q] (List.getElem_mem hq)
    obtain ⟨⟨⟨h1, h1b⟩, h2⟩, h3, _⟩ := hm
    have hc := hrow.cells (g := gb) (by rw [hv]; rfl) q (R.L i)[q].val (by simp [List.getElem?_eq_getElem hq])
    rw [Go.WideShapes.add_plain, Nat.zero_add] at hc
    obtain ⟨d, hd⟩ : ∃ d, (R.L i)[q].n = d + rmCnt i := ⟨(R.L i)[q].n - rmCnt i, by omega⟩
    rw [hF] at hv
    simp only [Value.slice.injEq] at hv
    refine ⟨gb, (R.L i)[q].g, d, (R.L i)[q].c, hv.1, by omega, (hlt gb (by rw [hF, hv.1]; rfl)).2, h3, ?_, fun r u hr hu => ?_⟩
    · rw [hc, ← hd]; rfl
    · have h := h2 k hk r hr
      rw [hd, Nat.add_sub_cancel] at h
      rw [h]
      exact hu
end Go.Proofs.Ytehpdhhlggegdaa

namespace Go.Proofs.Ytehpdhhlggegdaa
open Go.RowKit
set_option maxRecDepth 8000

theorem kindB : ∃ i, Kind 62 5 i (.int .u8 0) 1 1 := by
  obtain ⟨i0, hi, hz0, hz1, hz2⟩ := info_parts (show (Try.prog.info? 5).map (fun i => (i.zero, i.size, i.bytes)) = some (some (.int .u8 0), 1, 1) by kernel_rfl)
  exact ⟨i0, Try.underlying62, hi, hz0, hz1, hz2, rfl, by decide⟩
/-- eight bytes, the highest first -/
def be8 (m : Nat) : List Int := [(m / 72057594037927936 % 256 : Nat), (m / 281474976710656 % 256 : Nat), (m / 1099511627776 % 256 : Nat), (m / 4294967296 % 256 : Nat), (m / 16777216 % 256 : Nat), (m / 65536 % 256 : Nat), (m / 256 % 256 : Nat), (m % 256 : Nat)]
def placeB (n : Int) : List Int := be8 (n + 9223372036854775808).toNat

theorem size_le_alloc (w : World) (o : Obj) : w.heap.size ≤ (w.alloc o).heap.size := by simp
theorem xor_top (r : Nat) (h : r < 9223372036854775808) : r ^^^ 9223372036854775808 = r + 9223372036854775808 := by
  have h1 : (r ^^^ 2 ^ 63) % 2 ^ 63 = r := by
    rw [Nat.xor_mod_two_pow, Nat.mod_self, Nat.xor_zero, Nat.mod_eq_of_lt (by omega)]
  have h2 : (r ^^^ 2 ^ 63) / 2 ^ 63 = 1 := by
    rw [Nat.xor_div_two_pow, Nat.div_eq_of_lt (by omega), Nat.div_self (by omega), Nat.zero_xor]
  have h3 := Nat.div_add_mod (r ^^^ 2 ^ 63) (2 ^ 63)
  rw [h1, h2] at h3
  have e : (2 : Nat) ^ 63 = 9223372036854775808 := by decide
  rw [e] at h3
  omega
theorem xor_top' (r : Nat) (h : r < 9223372036854775808) : (r + 9223372036854775808) ^^^ 9223372036854775808 = r := by
  rw [← xor_top r h, Nat.xor_assoc, Nat.xor_self, Nat.xor_zero]
theorem wrap_u64 (x : Int) : IntKind.u64.wrap x = x % 18446744073709551616 := by
  simp [IntKind.wrap, IntKind.bits, IntKind.signed]
theorem place_xor (n : Int) (hn : -9223372036854775808 ≤ n) (hn2 : n ≤ 9223372036854775807) : bits BinOp.xor IntKind.u64 (IntKind.u64.wrap n) 9223372036854775808 = ((n + 9223372036854775808).toNat : Int) := by
  by_cases h : 0 ≤ n
  · obtain ⟨a, rfl⟩ := Int.eq_ofNat_of_zero_le h
    have e : IntKind.u64.wrap (a : Int) = (a : Int) := by rw [wrap_u64]; omega
    rw [e]
    have := bits_xor_u64_nat a 9223372036854775808 (by omega) (by omega)
    rw [xor_top a (by omega)] at this
    rw [show ((9223372036854775808 : Nat) : Int) = 9223372036854775808 from rfl] at this
    rw [this]
    omega
  · obtain ⟨r, hr⟩ := Int.eq_ofNat_of_zero_le (show 0 ≤ n + 9223372036854775808 by omega)
    have e : IntKind.u64.wrap n = ((r + 9223372036854775808 : Nat) : Int) := by rw [wrap_u64]; omega
    rw [e]
    have := bits_xor_u64_nat (r + 9223372036854775808) 9223372036854775808 (by omega) (by omega)
    rw [xor_top' r (by omega)] at this
    rw [show ((9223372036854775808 : Nat) : Int) = 9223372036854775808 from rfl] at this
    rw [this]
    omega

set_option maxHeartbeats 4000000 in
theorem place_any (n : Int) (hn : -9223372036854775808 ≤ n) (hn2 : n ≤ 9223372036854775807) (w : World) :
    Calls Try.prog 68 #[.int .i64 n] w fun e w' => ∃ v, e = .returned v ∧ w'.ownsRow w.heap.size 5 1 v 8 ((placeB n).map (Value.int .u8)) ∧ Below w.heap.size w w' := by
  obtain ⟨i0, Kd⟩ := kindB
  have hX := place_xor n hn hn2
  unfold placeB
  have hm : Hid ((n + 9223372036854775808).toNat < 18446744073709551616) := by unfold Hid; omega
  generalize (n + 9223372036854775808).toNat = m at *
  clear hn hn2
  have hR0 : w.ownsRow w.heap.size 5 1 (.slice none 0 0) 0 [] := World.ownsRow_nil _ _ _ _
  have hb0 : Below w.heap.size w w := Below.refl _ _
  have hs0 := Nat.le_refl w.heap.size
  go_enter Try.func68, Try.ntmps68
  go_wp2_with fail
  refine wp_loop_rounds 9 ?_
  rw [rounds_succ]
  go_wp2_with (at_builtin; refine wpList_app rfl (.tmp 13) (.tmp 18) 62 5 i0 _ 1 1 Kd rfl w.heap.size (.slice none 0 0) 0 [] rfl (hR0.alloc _) ⟨w.heap.size, 0, none⟩ 1 1 [.int .u8 ((m : Int) / 72057594037927936 % 256)] rfl rfl (cell_one_new _ _ _) (ints_oneCell .u8 [_]) (by omega) (by omega) (Nat.le_trans hs0 (size_le_alloc _ _)) ?_)
  intro v1 w1 hR1 hg hn
  have hb1 : Below w.heap.size w w1 := (hb0.alloc hs0 _).grown hg (Nat.le_trans hs0 (size_le_alloc _ _)) (fun k hk => (hR0.lt k hk).1)
  have hs1 := hb1.size
  clear hR0 hg hn hb0 hs0
  go_wp2_with fail
  rw [rounds_succ]
  go_wp2_with (at_builtin; refine wpList_app rfl (.tmp 13) (.tmp 18) 62 5 i0 _ 1 1 Kd rfl w.heap.size v1 1 [.int .u8 ((m : Int) / 72057594037927936 % 256)] rfl (hR1.alloc _) ⟨w1.heap.size, 0, none⟩ 1 1 [.int .u8 ((m : Int) / 281474976710656 % 256)] rfl rfl (cell_one_new _ _ _) (ints_oneCell .u8 [_]) (by omega) (by omega) (Nat.le_trans hs1 (size_le_alloc _ _)) ?_)
  intro v2 w2 hR2 hg hn
  have hb2 : Below w.heap.size w w2 := (hb1.alloc hs1 _).grown hg (Nat.le_trans hs1 (size_le_alloc _ _)) (fun k hk => (hR1.lt k hk).1)
  have hs2 := hb2.size
  clear hR1 hg hn hb1 hs1
  go_wp2_with fail
  rw [rounds_succ]
  go_wp2_with (at_builtin; refine wpList_app rfl (.tmp 13) (.tmp 18) 62 5 i0 _ 1 1 Kd rfl w.heap.size v2 2 [.int .u8 ((m : Int) / 72057594037927936 % 256), .int .u8 ((m : Int) / 281474976710656 % 256)] rfl (hR2.alloc _) ⟨w2.heap.size, 0, none⟩ 1 1 [.int .u8 ((m : Int) / 1099511627776 % 256)] rfl rfl (cell_one_new _ _ _) (ints_oneCell .u8 [_]) (by omega) (by omega) (Nat.le_trans hs2 (size_le_alloc _ _)) ?_)
  intro v3 w3 hR3 hg hn
  have hb3 : Below w.heap.size w w3 := (hb2.alloc hs2 _).grown hg (Nat.le_trans hs2 (size_le_alloc _ _)) (fun k hk => (hR2.lt k hk).1)
  have hs3 := hb3.size
  clear hR2 hg hn hb2 hs2
  go_wp2_with fail
  rw [rounds_succ]
  go_wp2_with (at_builtin; refine wpList_app rfl (.tmp 13) (.tmp 18) 62 5 i0 _ 1 1 Kd rfl w.heap.size v3 3 [.int .u8 ((m : Int) / 72057594037927936 % 256), .int .u8 ((m : Int) / 281474976710656 % 256), .int .u8 ((m : Int) / 1099511627776 % 256)] rfl (hR3.alloc _) ⟨w3.heap.size, 0, none⟩ 1 1 [.int .u8 ((m : Int) / 4294967296 % 256)] rfl rfl (cell_one_new _ _ _) (ints_oneCell .u8 [_]) (by omega) (by omega) (Nat.le_trans hs3 (size_le_alloc _ _)) ?_)
  intro v4 w4 hR4 hg hn
  have hb4 : Below w.heap.size w w4 := (hb3.alloc hs3 _).grown hg (Nat.le_trans hs3 (size_le_alloc _ _)) (fun k hk => (hR3.lt k hk).1)
  have hs4 := hb4.size
  clear hR3 hg hn hb3 hs3
  go_wp2_with fail
  rw [rounds_succ]
  go_wp2_with (at_builtin; refine wpList_app rfl (.tmp 13) (.tmp 18) 62 5 i0 _ 1 1 Kd rfl w.heap.size v4 4 [.int .u8 ((m : Int) / 72057594037927936 % 256), .int .u8 ((m : Int) / 281474976710656 % 256), .int .u8 ((m : Int) / 1099511627776 % 256), .int .u8 ((m : Int) / 4294967296 % 256)] rfl (hR4.alloc _) ⟨w4.heap.size, 0, none⟩ 1 1 [.int .u8 ((m : Int) / 16777216 % 256)] rfl rfl (cell_one_new _ _ _) (ints_oneCell .u8 [_]) (by omega) (by omega) (Nat.le_trans hs4 (size_le_alloc _ _)) ?_)
  intro v5 w5 hR5 hg hn
  have hb5 : Below w.heap.size w w5 := (hb4.alloc hs4 _).grown hg (Nat.le_trans hs4 (size_le_alloc _ _)) (fun k hk => (hR4.lt k hk).1)
  have hs5 := hb5.size
  clear hR4 hg hn hb4 hs4
  go_wp2_with fail
  rw [rounds_succ]
  go_wp2_with (at_builtin; refine wpList_app rfl (.tmp 13) (.tmp 18) 62 5 i0 _ 1 1 Kd rfl w.heap.size v5 5 [.int .u8 ((m : Int) / 72057594037927936 % 256), .int .u8 ((m : Int) / 281474976710656 % 256), .int .u8 ((m : Int) / 1099511627776 % 256), .int .u8 ((m : Int) / 4294967296 % 256), .int .u8 ((m : Int) / 16777216 % 256)] rfl (hR5.alloc _) ⟨w5.heap.size, 0, none⟩ 1 1 [.int .u8 ((m : Int) / 65536 % 256)] rfl rfl (cell_one_new _ _ _) (ints_oneCell .u8 [_]) (by omega) (by omega) (Nat.le_trans hs5 (size_le_alloc _ _)) ?_)
  intro v6 w6 hR6 hg hn
  have hb6 : Below w.heap.size w w6 := (hb5.alloc hs5 _).grown hg (Nat.le_trans hs5 (size_le_alloc _ _)) (fun k hk => (hR5.lt k hk).1)
  have hs6 := hb6.size
  clear hR5 hg hn hb5 hs5
  go_wp2_with fail
  rw [rounds_succ]
  go_wp2_with (at_builtin; refine wpList_app rfl (.tmp 13) (.tmp 18) 62 5 i0 _ 1 1 Kd rfl w.heap.size v6 6 [.int .u8 ((m : Int) / 72057594037927936 % 256), .int .u8 ((m : Int) / 281474976710656 % 256), .int .u8 ((m : Int) / 1099511627776 % 256), .int .u8 ((m : Int) / 4294967296 % 256), .int .u8 ((m : Int) / 16777216 % 256), .int .u8 ((m : Int) / 65536 % 256)] rfl (hR6.alloc _) ⟨w6.heap.size, 0, none⟩ 1 1 [.int .u8 ((m : Int) / 256 % 256)] rfl rfl (cell_one_new _ _ _) (ints_oneCell .u8 [_]) (by omega) (by omega) (Nat.le_trans hs6 (size_le_alloc _ _)) ?_)
  intro v7 w7 hR7 hg hn
  have hb7 : Below w.heap.size w w7 := (hb6.alloc hs6 _).grown hg (Nat.le_trans hs6 (size_le_alloc _ _)) (fun k hk => (hR6.lt k hk).1)
  have hs7 := hb7.size
  clear hR6 hg hn hb6 hs6
  go_wp2_with fail
  rw [rounds_succ]
  go_wp2_with (at_builtin; refine wpList_app rfl (.tmp 13) (.tmp 18) 62 5 i0 _ 1 1 Kd rfl w.heap.size v7 7 [.int .u8 ((m : Int) / 72057594037927936 % 256), .int .u8 ((m : Int) / 281474976710656 % 256), .int .u8 ((m : Int) / 1099511627776 % 256), .int .u8 ((m : Int) / 4294967296 % 256), .int .u8 ((m : Int) / 16777216 % 256), .int .u8 ((m : Int) / 65536 % 256), .int .u8 ((m : Int) / 256 % 256)] rfl (hR7.alloc _) ⟨w7.heap.size, 0, none⟩ 1 1 [.int .u8 ((m : Int) % 256)] rfl rfl (cell_one_new _ _ _) (ints_oneCell .u8 [_]) (by omega) (by omega) (Nat.le_trans hs7 (size_le_alloc _ _)) ?_)
  intro v8 w8 hR8 hg hn
  have hb8 : Below w.heap.size w w8 := (hb7.alloc hs7 _).grown hg (Nat.le_trans hs7 (size_le_alloc _ _)) (fun k hk => (hR7.lt k hk).1)
  have hs8 := hb8.size
  clear hR7 hg hn hb7 hs7
  go_wp2_with fail
  rw [rounds_succ]
  go_wp2
  go_ret
  refine ⟨v8, rfl, ?_, hb8⟩
  simpa [be8] using hR8
end Go.Proofs.Ytehpdhhlggegdaa
