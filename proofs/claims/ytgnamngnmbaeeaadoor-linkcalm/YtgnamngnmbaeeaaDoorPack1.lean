import Derived.Test.YtgnamngnmbaeeaaDoorRows
import Derived.Test.YtgnamngnmbaeeaaDoorCrc
import Derived.WalkKit
import Derived.WalkSpells
import Derived.WalkLawsBesides
import Derived.Laws.AppendOwnNone
import Derived.Laws.CopyOwn
import Derived.Deep.RegionLaw
namespace Go.Proofs.YtgnamngnmbaeeaaDoor
open Go.RowKit

/-- p is the address of a slice whose elements are the bytes zs -/
structure Bytes (w : World) (p : Option Addr) (zs : List Int) : Prop where
  at_ : 0 < zs.length → ∃ b o, p = some ⟨b, o, none⟩ ∧ b < w.heap.size ∧ ∀ i, i < zs.length → w.cell? ⟨b, o + i, none⟩ = some (.int .u8 (zs.getD i 0))
  byte : ∀ z ∈ zs, 0 ≤ z ∧ z < 256

/-- the table of the checksum lies in block 0 -/
def Tab (w : World) : Prop := 0 < w.heap.size ∧ ∀ i, i < 16 → w.cell? ⟨0, i, none⟩ = some (.int .u32 (Crc.tabAt i : Nat))

theorem compl_u32 (s : Nat) (hs : s < 4294967296) : bits BinOp.xor IntKind.u32 IntKind.u32.max (s : Int) = ((Crc.ones - s : Nat) : Int) := by
  have h : IntKind.u32.max = ((4294967295 : Nat) : Int) := by decide
  rw [h, u32_xor_nat _ _ (by omega) hs, Nat.xor_comm, Crc.compl_xor s hs]
  rfl

theorem u32_low4 (X : Nat) (h : X < 4294967296) : bits BinOp.and IntKind.u32 (X : Int) 15 = ((X % 16 : Nat) : Int) := by
  have e := u32_and_nat X 15 h (by omega)
  rw [nat_mask4] at e
  exact e

theorem take_succ (zs : List Int) (k : Nat) (hk : k < zs.length) : zs.take (k + 1) = zs.take k ++ [zs.getD k 0] := by
  rw [List.take_add_one, List.getD_eq_getElem?_getD, List.getElem?_eq_getElem hk]; rfl

theorem nib_facts (w : World) (hT : Tab w) (X : Nat) (h : X < 4294967296) : ∃ I T Y : Nat, I < 16 ∧ T < 4294967296 ∧ Y < 4294967296 ∧ bits BinOp.and IntKind.u32 (X : Int) 15 = (I : Int) ∧
    w.cell? ⟨0, I, none⟩ = some (.int .u32 (T : Int)) ∧ bits BinOp.xor IntKind.u32 ((X : Int) / 16) (T : Int) = (Y : Int) ∧ Hid (Y = Crc.nib X) :=
  ⟨X % 16, Crc.tabAt (X % 16), Crc.nib X, Nat.mod_lt _ (by omega), Crc.tabAt_lt _, Crc.nib_lt h, u32_low4 X h, hT.2 _ (Nat.mod_lt _ (by omega)),
    u32_xor_nat (X / 16) (Crc.tabAt (X % 16)) (by omega) (Crc.tabAt_lt _), rfl⟩

set_option maxHeartbeats 400000 in
theorem add_pos (s : Nat) (hs : s < 4294967296) (b o c : Nat) (zs : List Int) (w : World) (hcell : ∀ i, i < zs.length → w.cell? ⟨b, o + i, none⟩ = some (.int .u8 (zs.getD i 0)))
    (hby : ∀ z ∈ zs, 0 ≤ z ∧ z < 256) (hlen : zs.length ≤ 140737488355328) (hT : Tab w) :
    Calls Tryd.prog 89 #[.int .u32 s, .slice (some ⟨b, o, none⟩) zs.length c] w fun e w' => e = .returned (.int .u32 (Crc.add s zs : Nat)) ∧ w' = w := by
  go_enter Tryd.func89, Tryd.ntmps89
  go_wp2
  go_loop [5, 12] (fun r i => ∃ k : Nat, k ≤ zs.length ∧ i = .int .i64 k ∧ r = .int .u32 (Crc.reg (Crc.ones - s) (zs.take k) : Nat)) (fun _ i => zs.length - (intOf i).toNat)
  case atStart => exact ⟨0, Nat.zero_le _, rfl, by rw [compl_u32 s hs]; rfl⟩
  case round =>
    obtain ⟨k, hk, rfl, rfl⟩ := hrel
    by_cases hlt : k < zs.length
    · have hc := hcell k hlt
      obtain ⟨x, hx, hxc⟩ : ∃ x : Nat, x < 256 ∧ zs.getD k 0 = (x : Int) := by
        have := hby (zs.getD k 0) (by rw [List.getD_eq_getElem?_getD, List.getElem?_eq_getElem hlt]; exact List.getElem_mem hlt)
        exact ⟨(zs.getD k 0).toNat, by omega, by omega⟩
      rw [hxc] at hc
      have hR := Crc.reg_lt (Crc.ones - s) (zs.take k) (by unfold Crc.ones; omega) (fun z hz => hby z (List.mem_of_mem_take hz))
      have HR : Hid (Crc.reg (Crc.ones - s) (zs.take (k + 1)) = Crc.byteStep (Crc.reg (Crc.ones - s) (zs.take k)) x) := by
        rw [take_succ zs k hlt, Crc.reg_snoc, hxc]; rfl
      clear hxc hcell hby
      generalize Crc.reg (Crc.ones - s) (zs.take k) = R at *
      have hxm : (x : Int) % 4294967296 = x := by omega
      have hX := u32_xor_nat R x hR (by omega)
      have hXl := Crc.xor_lt32 hR (show x < 4294967296 by omega)
      have HX : Hid (Crc.byteStep R x = Crc.nib (Crc.nib (R ^^^ x))) := rfl
      generalize R ^^^ x = X at *
      obtain ⟨I1, T1, Y, hI1, hT1, hY, hA1, hc1, hX1, HY⟩ := nib_facts w hT X hXl
      obtain ⟨I2, T2, Z, hI2, hT2, hZ, hA2, hc2, hX2, HZ⟩ := nib_facts w hT Y hY
      clear hT
      go_wp2
      go_round
      case rel => exact ⟨k + 1, by omega, by go_num, by rw [HR.out, HX.out, ← HY.out, ← HZ.out]⟩
      case measure => simp [intOf]; omega
    · obtain rfl : k = zs.length := by omega
      have hR := Crc.reg_lt (Crc.ones - s) (zs.take zs.length) (by unfold Crc.ones; omega) (fun z hz => hby z (List.mem_of_mem_take hz))
      have HF : Hid (Crc.add s zs = Crc.ones - Crc.reg (Crc.ones - s) (zs.take zs.length)) := by unfold Crc.add; rw [List.take_length]; rfl
      generalize Crc.reg (Crc.ones - s) (zs.take zs.length) = R at *
      have hN := compl_u32 R hR
      generalize Crc.ones - R = F at *
      clear hcell hby hT
      go_wp2
      go_ret
      exact ⟨by rw [HF.out]; rfl, rfl⟩

set_option maxHeartbeats 400000 in
theorem add_none (s : Nat) (hs : s < 4294967296) (p : Option Addr) (c : Nat) (w : World) :
    Calls Tryd.prog 89 #[.int .u32 s, .slice p 0 c] w fun e w' => e = .returned (.int .u32 (s : Nat)) ∧ w' = w := by
  have hN := compl_u32 s hs
  have hl : Crc.ones - s < 4294967296 := by unfold Crc.ones; omega
  have hM := compl_u32 (Crc.ones - s) hl
  have HF : Crc.ones - (Crc.ones - s) = s := by unfold Crc.ones; omega
  rw [HF] at hM
  clear HF
  generalize Crc.ones - s = F at *
  go_enter Tryd.func89, Tryd.ntmps89
  go_wp2
  refine wp_loop_rounds 1 ?_
  rw [rounds_succ]
  go_wp2
  go_ret
  exact ⟨rfl, rfl⟩

theorem add_any (s : Nat) (hs : s < 4294967296) (p : Option Addr) (n c : Nat) (zs : List Int) (w : World) (hn : zs.length = n) (hB : Bytes w p zs) (hlen : n ≤ 140737488355328) (hT : Tab w) :
    Calls Tryd.prog 89 #[.int .u32 s, .slice p n c] w fun e w' => e = .returned (.int .u32 (Crc.add s zs : Nat)) ∧ w' = w := by
  subst hn
  by_cases h : 0 < zs.length
  · obtain ⟨b, o, rfl, _, hc⟩ := hB.at_ h
    exact add_pos s hs b o c zs w hc hB.byte hlen hT
  · obtain rfl : zs = [] := List.eq_nil_of_length_eq_zero (by omega)
    have e : Crc.add s [] = s := by unfold Crc.add Crc.reg Crc.ones; simp; omega
    rw [e]
    exact add_none s hs p c w

set_option maxHeartbeats 400000 in
theorem sum_any (p : Option Addr) (n c : Nat) (zs : List Int) (w : World) (hn : zs.length = n) (hB : Bytes w p zs) (hlen : n ≤ 140737488355328) (hT : Tab w) :
    Calls Tryd.prog 81 #[.slice p n c] w fun e w' => e = .returned (.int .u32 (Crc.add 0 zs : Nat)) ∧ w' = w := by
  have h := add_any 0 (by omega) p n c zs w hn hB hlen hT
  have H : Hid (Calls Tryd.prog 89 #[.int .u32 0, .slice p n c] w fun e w' => e = .returned (.int .u32 (Crc.add 0 zs : Nat)) ∧ w' = w) := h
  clear h
  generalize Crc.add 0 zs = F at *
  go_enter Tryd.func81, Tryd.ntmps81
  go_wp2_with (go_at_call 89; refine H.out.mono ?_; rintro e w' ⟨rfl, rfl⟩)
  go_ret
  exact ⟨rfl, rfl⟩
end Go.Proofs.YtgnamngnmbaeeaaDoor

namespace Go.Proofs.YtgnamngnmbaeeaaDoor
open Go.RowKit

theorem cell_lt {w : World} {a : Addr} {v : Value} (h : w.cell? a = some v) : a.block < w.heap.size := by
  rcases Nat.lt_or_ge a.block w.heap.size with h1 | h1
  · exact h1
  · simp [World.cell?, Array.getElem?_eq_none h1] at h

theorem info5 : (Tryd.prog.info? 5).map (fun i => (i.zero, i.size, i.bytes)) = some (some (.int .u8 0), 1, 1) := by kernel_rfl

/-- bytes in a row of the call's own -/
structure OwnB (base : Nat) (w : World) (p : Option Addr) (c : Nat) (zs : List Int) : Prop where
  own : w.ownsRow base 5 1 (.slice p zs.length c) zs.length (zs.map (Value.int .u8))
  byte : ∀ z ∈ zs, 0 ≤ z ∧ z < 256

theorem OwnB.bytes {base : Nat} {w : World} {p : Option Addr} {c : Nat} {zs : List Int} (h : OwnB base w p c zs) : Bytes w p zs := by
  refine ⟨fun hp => ?_, h.byte⟩
  obtain ⟨_, ⟨hv, h0⟩ | ⟨g, cap, cur, hv, hb, hh, hn, hm, hs, ht⟩⟩ := h.own
  · omega
  · simp only [Value.slice.injEq] at hv
    obtain ⟨rfl, _, rfl⟩ := hv
    refine ⟨g, 0, rfl, ?_, fun i hi => ?_⟩
    · rcases Nat.lt_or_ge g w.heap.size with h1 | h1
      · exact h1
      · rw [Array.getElem?_eq_none h1] at hh; cases hh
    · have e := World.ownsRow.cellAt (w := w) h.own i (by omega)
      rw [Nat.zero_add, e]
      simp [List.getElem?_eq_getElem hi]

theorem OwnB.nil {base : Nat} {w : World} {p : Option Addr} {c : Nat} {zs : List Int} (h : OwnB base w p c zs) (hp : p = none) : zs = [] ∧ c = 0 := by
  subst hp
  obtain ⟨_, ⟨hv, h0⟩ | ⟨g, cap, cur, hv, _⟩⟩ := h.own
  · simp only [Value.slice.injEq] at hv
    exact ⟨List.eq_nil_of_length_eq_zero h0, hv.2.2⟩
  · cases hv

theorem OwnB.cap {base : Nat} {w : World} {p : Option Addr} {c : Nat} {zs : List Int} (h : OwnB base w p c zs) : zs.length ≤ c ∧ c ≤ maxLen := by
  obtain ⟨_, ⟨hv, h0⟩ | ⟨g, cap, cur, hv, hb, hh, hn, hm, hs, ht⟩⟩ := h.own
  · simp only [Value.slice.injEq] at hv
    obtain ⟨_, _, rfl⟩ := hv
    exact ⟨by omega, Nat.zero_le _⟩
  · simp only [Value.slice.injEq] at hv
    obtain ⟨_, _, rfl⟩ := hv
    exact ⟨hn, hm⟩

theorem Bytes.below {B : Nat} {w w' : World} {p : Option Addr} {zs : List Int} (h : Bytes w p zs) (hb : Below B w w') (hB : ∀ a, p = some a → 0 < zs.length → a.block < B) : Bytes w' p zs := by
  refine ⟨fun hp => ?_, h.byte⟩
  obtain ⟨b, o, rfl, hlt, hc⟩ := h.at_ hp
  exact ⟨b, o, rfl, Nat.lt_of_lt_of_le hlt hb.size, fun i hi => (hb.cell (p := ⟨b, o + i, none⟩) (hB ⟨b, o, none⟩ rfl hp)).trans (hc i hi)⟩
/-- old bytes stay while the call makes memory -/
theorem Bytes.later {w w' : World} {p : Option Addr} {zs : List Int} (h : Bytes w p zs) (hb : Below w.heap.size w w') : Bytes w' p zs := by
  refine ⟨fun hp => ?_, h.byte⟩
  obtain ⟨b, o, rfl, hlt, hc⟩ := h.at_ hp
  exact ⟨b, o, rfl, Nat.lt_of_lt_of_le hlt hb.size, fun i hi => (hb.cell (p := ⟨b, o + i, none⟩) hlt).trans (hc i hi)⟩
theorem Tab.later {w w' : World} (h : Tab w) (hb : Below w.heap.size w w') : Tab w' :=
  ⟨Nat.lt_of_lt_of_le h.1 hb.size, fun i hi => (hb.cell (p := ⟨0, i, none⟩) h.1).trans (h.2 i hi)⟩

theorem Bytes.src {w : World} {p : Option Addr} {zs : List Int} (h : Bytes w p zs) (hp : 0 < zs.length) : ∃ ad, p = some ad ∧ ∀ j u, (zs.map (Value.int .u8))[j]? = some u → w.cell? (ad.add j) = some u := by
  obtain ⟨b, o, rfl, _, hc⟩ := h.at_ hp
  refine ⟨_, rfl, fun j u hj => ?_⟩
  have hjl : j < zs.length := by
    rcases Nat.lt_or_ge j zs.length with h1 | h1
    · exact h1
    · rw [List.getElem?_eq_none (by simpa using h1)] at hj; cases hj
  rw [Go.WideShapes.add_plain, hc j hjl, ← hj]
  simp [List.getElem?_eq_getElem hjl]

/-- 'append(l, x...)' of bytes, l the call's own, x whatever -/
theorem wpList_append_bytes {w : World} {ops : Array Oper} {rest : List Oper} {o : Oper} {a : Act} {Q : Exit → Act → World → Prop} (hgd : o.guard = none) (s x : Operand)
    (ho : o.op = .call { callee := .builtin .append, args := #[s, x], argTypes := #[36, 36] })
    (base : Nat) (v : Value) (n : Nat) (xs : List Value) (hs : a.eval s = v) (hown : w.ownsRow base 5 1 v n xs)
    (p : Option Addr) (m c : Nat) (zs : List Int) (hx : a.eval x = .slice p m c) (hm : zs.length = m) (hB : Bytes w p zs) (hp : p = none → m = 0 ∧ c = 0)
    (hbytes : n + m ≤ 140737488355328) (hbase : base ≤ w.heap.size)
    (h : ∀ v' w', w'.ownsRow base 5 1 v' (n + m) (xs ++ zs.map (Value.int .u8)) → w.grownBy w' v.ownBlock → wpList Tryd.prog ops Q rest (a.put o.dst v') w') :
    wpList Tryd.prog ops Q (o :: rest) a w := by
  obtain ⟨i0, hi, hz0, hz1, hz2⟩ := info_parts info5
  cases p with
  | none =>
    obtain ⟨rfl, rfl⟩ := hp rfl
    obtain rfl : zs = [] := List.eq_nil_of_length_eq_zero hm
    refine wpList_append_own_none hgd s x 36 ho base 5 i0 1 Tryd.underlying36 hi v n xs hs hown hx ?_
    exact h v w (by simpa using hown) (World.grownBy.refl w _)
  | some ad =>
    refine wpList_append_own _ hgd s x 36 ho base 5 i0 (.int .u8 0) 1 1 Tryd.underlying36 hi hz0 hz1 hz2 rfl (by decide) v n xs hs hown ad m c (zs.map (Value.int .u8)) hx (by simp [hm]) ?_ (ints_oneCell _ _) (by unfold maxLen; omega) (by omega) hbase ?_
    · intro j u hj
      have hjl : j < zs.length := by
        rcases Nat.lt_or_ge j zs.length with h1 | h1
        · exact h1
        · rw [List.getElem?_eq_none (by simpa using h1)] at hj; cases hj
      obtain ⟨b, o', he, _, hc⟩ := hB.at_ (by omega)
      cases he
      rw [Go.WideShapes.add_plain, hc j hjl]
      rw [← hj]
      simp [List.getElem?_eq_getElem hjl]
    · intro v' w' h1 h2 _
      exact h v' w' h1 h2

theorem own_of_row {base : Nat} {w : World} {v : Value} {n : Nat} {zs : List Int} (h : w.ownsRow base 5 1 v n (zs.map (Value.int .u8))) (hb : ∀ z ∈ zs, 0 ≤ z ∧ z < 256) :
    ∃ p c, v = .slice p zs.length c ∧ OwnB base w p c zs := by
  have hl : zs.length = n := by simpa using h.1
  subst hl
  obtain ⟨_, ⟨rfl, h0⟩ | ⟨g, cap, cur, rfl, _⟩⟩ := id h
  · exact ⟨none, 0, by rw [h0], ⟨by rw [h0] at h ⊢; exact h, hb⟩⟩
  · exact ⟨_, cap, rfl, ⟨h, hb⟩⟩

end Go.Proofs.YtgnamngnmbaeeaaDoor

namespace Go.Proofs.YtgnamngnmbaeeaaDoor
open Go.RowKit

/-- the four bytes of a head -/
def hd (n : Nat) : List Int := [(n : Int) % 256, (n : Int) / 256, (65535 - (n : Int)) % 256, (65535 - (n : Int)) / 256]
/-- the four bytes of a sum -/
def tl (s : Nat) : List Int := [(s : Int) % 256, (s : Int) / 256 % 256, (s : Int) / 65536 % 256, (s : Int) / 16777216]

set_option maxHeartbeats 400000 in
theorem headOf_any (n : Nat) (hn : n ≤ 65535) (w : World) :
    Calls Tryd.prog 79 #[.int .i64 (n : Int)] w fun e w' => e = .returned (.agg #[.int .u8 ((n : Int) % 256), .int .u8 ((n : Int) / 256), .int .u8 ((65535 - (n : Int)) % 256), .int .u8 ((65535 - (n : Int)) / 256)]) ∧ Below w.heap.size w w' := by
  go_enter Tryd.func79, Tryd.ntmps79
  go_wp2
  exact bodyPost_ret (v := .agg #[.int .u8 ((n : Int) % 256), .int .u8 ((n : Int) / 256), .int .u8 ((65535 - (n : Int)) % 256), .int .u8 ((65535 - (n : Int)) / 256)]) (by simp [results, Tryd.results79, go_sem]) rfl ⟨rfl, (Below.refl _ _).alloc (Nat.le_refl _) _⟩

set_option maxHeartbeats 400000 in
theorem tailOf_any (s : Nat) (hs : s < 4294967296) (w : World) :
    Calls Tryd.prog 80 #[.int .u32 (s : Int)] w fun e w' => e = .returned (.agg #[.int .u8 ((s : Int) % 256), .int .u8 ((s : Int) / 256 % 256), .int .u8 ((s : Int) / 65536 % 256), .int .u8 ((s : Int) / 16777216)]) ∧ Below w.heap.size w w' := by
  go_enter Tryd.func80, Tryd.ntmps80
  go_wp2
  exact bodyPost_ret (v := .agg #[.int .u8 ((s : Int) % 256), .int .u8 ((s : Int) / 256 % 256), .int .u8 ((s : Int) / 65536 % 256), .int .u8 ((s : Int) / 16777216)]) (by simp [results, Tryd.results80, go_sem]) rfl ⟨rfl, (Below.refl _ _).alloc (Nat.le_refl _) _⟩

set_option maxHeartbeats 400000 in
theorem sizeOf_any (n : Nat) (hn : n ≤ 65535) (w : World) :
    Calls Tryd.prog 82 #[.int .i64 (n : Int)] w fun e w' => e = .returned (.int .i64 ((n : Int) + 8)) ∧ w' = w := by
  go_enter Tryd.func82, Tryd.ntmps82
  go_wp2
  go_ret
  exact ⟨by go_num, rfl⟩

set_option maxHeartbeats 400000 in
theorem wrap_long (p : Option Addr) (n c : Nat) (w : World) (hn : 32768 < n) (hm : n ≤ 140737488355328) :
    Calls Tryd.prog 71 #[.slice p n c] w fun e w' => e = .returned (.tuple #[.slice none 0 0, .int .i64 10]) ∧ w' = w := by
  go_enter Tryd.func71, Tryd.ntmps71
  go_wp2_with fail
  go_ret2
  exact ⟨rfl, rfl⟩

theorem block_cells {w : World} {g : Nat} {cs : Array Value} {t : TypeId} {f : Nat × Nat} (h : w.heap[g]? = some (.cells cs t f)) : ∀ j u, cs.toList[j]? = some u → w.cell? ((⟨g, 0, none⟩ : Addr).add j) = some u := by
  intro j u hj
  rw [Go.WideShapes.add_plain]
  simp [World.cell?, h]
  simpa using hj

theorem wrap_made {w w2 w3 : World} {n : Nat} {A B : Array Value} (hb : Below w.heap.size w w2)
    (ho : w3.ownsRow w.heap.size 5 1 (Value.slice (some { block := w2.heap.size + 1 + 1, off := 0 }) (n + 8) (n + 8)) (n + 8) (madeCells #[Value.int IntKind.u8 0] (n + 8)).toList)
    (hg : ((w2.alloc (Obj.cells A 151)).alloc (Obj.cells B 151)).grownBy w3 none) :
    w3.heap[w2.heap.size + 1 + 1]? = some (.cells (List.replicate (n + 8) (Value.int .u8 0)).toArray 5 (0, 0)) ∧ w3.heap[w2.heap.size]? = some (.cells A 151 (0, 0)) ∧ w3.heap[w2.heap.size + 1]? = some (.cells B 151 (0, 0)) ∧
      Below w.heap.size w w3 ∧ w2.heap.size + 1 + 1 < w3.heap.size := by
  have hs := hb.size
  have hbel : Below w.heap.size w w3 := ((hb.alloc hs _).alloc (by simp; omega) _).grown hg (by simp; omega) (fun k hk => by cases hk)
  have hz : w3.heap[w2.heap.size + 1 + 1]? = some (.cells (List.replicate (n + 8) (Value.int .u8 0)).toArray 5 (0, 0)) := by
    obtain ⟨_, ⟨hv, _⟩ | ⟨g, cap, cur, hv, _, hh, _, _, hsz, ht⟩⟩ := ho
    · cases hv
    · simp only [Value.slice.injEq, Option.some.injEq, Addr.mk.injEq] at hv
      obtain ⟨⟨rfl, _⟩, _, rfl⟩ := hv
      rw [hh]
      have e : cur.toList = List.replicate (n + 8) (Value.int .u8 0) := by
        rw [toList_madeCells_one, List.take_of_length_le (by simp [hsz])] at ht
        exact ht
      rw [← e]
  refine ⟨hz, ?_, ?_, hbel, ?_⟩
  · rw [hg.block _ (by simp; omega) (by simp), Below.heap_alloc _ _ _ (by simp)]
    show (w2.heap.push _)[w2.heap.size]? = _
    simp
  · rw [hg.block _ (by simp) (by simp)]
    show (Array.push (w2.alloc _).heap _)[w2.heap.size + 1]? = _
    rw [Array.getElem?_push, if_pos (by simp)]
  · rcases Nat.lt_or_ge (w2.heap.size + 1 + 1) w3.heap.size with h1 | h1
    · exact h1
    · rw [Array.getElem?_eq_none h1] at hz; cases hz

theorem own_of_block {base : Nat} {w : World} {g k : Nat} {zs : List Int} (h : w.heap[g]? = some (.cells (zs.map (Value.int .u8)).toArray 5 (0, 0))) (hk : zs.length = k) (hb : base ≤ g) (hm : k ≤ maxLen) (hby : ∀ z ∈ zs, 0 ≤ z ∧ z < 256) :
    OwnB base w (some ⟨g, 0, none⟩) k zs := by
  subst hk
  exact ⟨⟨by simp, .inr ⟨g, zs.length, _, rfl, hb, h, Nat.le_refl _, hm, (by simp), (by simp; exact List.take_of_length_le (by simp))⟩⟩, hby⟩

theorem hd_byte (n : Nat) (hn : n ≤ 65535) : ∀ z ∈ hd n, 0 ≤ z ∧ z < 256 := by
  intro z hz
  simp only [hd, List.mem_cons, List.not_mem_nil, or_false] at hz
  rcases hz with rfl | rfl | rfl | rfl <;> omega
theorem tl_byte (s : Nat) (hs : s < 4294967296) : ∀ z ∈ tl s, 0 ≤ z ∧ z < 256 := by
  intro z hz
  simp only [tl, List.mem_cons, List.not_mem_nil, or_false] at hz
  rcases hz with rfl | rfl | rfl | rfl <;> omega
theorem frame_bytes (n : Nat) (hn : n ≤ 65535) (zs : List Int) (hz : ∀ z ∈ zs, 0 ≤ z ∧ z < 256) (s : Nat) (hs : s < 4294967296) : ∀ z ∈ hd n ++ zs ++ tl s, 0 ≤ z ∧ z < 256 := by
  intro z h
  rcases List.mem_append.1 h with h | h
  · rcases List.mem_append.1 h with h | h
    · exact hd_byte n hn z h
    · exact hz z h
  · exact tl_byte s hs z h

set_option maxHeartbeats 1000000 in
theorem wrap_short (p : Option Addr) (n c : Nat) (zs : List Int) (w : World) (hn : zs.length = n) (hB : Bytes w p zs) (_hp : p = none → n = 0 ∧ c = 0) (hT : Tab w) (hm : n ≤ 32768) :
    Calls Tryd.prog 71 #[.slice p n c] w fun e w' => ∃ a c', e = .returned (.tuple #[.slice a (n + 8) c', .int .i64 0]) ∧ OwnB w.heap.size w' a c' (hd n ++ zs ++ tl (Crc.add 0 zs)) ∧ Below w.heap.size w w' := by
  have hs : Crc.add 0 zs < 4294967296 := by unfold Crc.add Crc.ones; omega
  have HS : Hid (∀ w1, Below w.heap.size w w1 → Calls Tryd.prog 81 #[.slice p n c] w1 fun e w' => e = .returned (.int .u32 (Crc.add 0 zs : Nat)) ∧ w' = w1) := fun w1 h => sum_any p n c zs w1 hn (hB.later h) (by omega) (hT.later h)
  have HB : Hid (∀ w1, Below w.heap.size w w1 → Bytes w1 p zs) := fun w1 h => hB.later h
  have HY2 : Hid (∀ z ∈ hd n ++ zs ++ tl (Crc.add 0 zs), 0 ≤ z ∧ z < 256) := frame_bytes n (by omega) zs hB.byte _ hs
  clear hB hT
  generalize Crc.add 0 zs = s at *
  go_enter Tryd.func71, Tryd.ntmps71
  go_wp2_with fail
  refine (headOf_any n (by omega) _).mono ?_
  rintro e w1 ⟨rfl, hb1⟩
  go_wp2_with fail
  refine (HS.out w1 hb1).mono ?_
  rintro e w' ⟨rfl, rfl⟩
  go_wp2_with fail
  refine (tailOf_any s hs _).mono ?_
  rintro e w2 ⟨rfl, hb2⟩
  go_wp2_with fail
  refine (sizeOf_any n (by omega) _).mono ?_
  rintro e w3 ⟨rfl, rfl⟩
  obtain ⟨i0, hi, hz0, hz1, hz2⟩ := info_parts info5
  go_wp2_with (at_make; refine wpList_make_full _ rfl _ _ 36 rfl w.heap.size 5 i0 (.int .u8 0) 1 Tryd.underlying36 hi hz0 hz1 _ _ _ _ (n + 8) rfl rfl (by omega) (by omega) (by rw [hz2]; omega) (by unfold maxLen; omega) (by have := hb1.size; have := hb2.size; simp; omega) ?_)
  intro w3 ho3 hg3
  obtain ⟨hz, hh, ht, hb3, hsz3⟩ := wrap_made (hb1.trans (hb2.mono hb1.size)) ho3 hg3
  have hsz2 : w.heap.size ≤ w2.heap.size := Nat.le_trans hb1.size hb2.size
  clear ho3 hg3 hb1 hb2 HS
  obtain ⟨X1, HX1⟩ : ∃ X1, Hid (X1 = (hd n).map (Value.int .u8)) := ⟨_, rfl⟩
  obtain ⟨Y, HY⟩ : ∃ Y, Hid (Y = zs.map (Value.int .u8)) := ⟨_, rfl⟩
  obtain ⟨X2, HX2⟩ : ∃ X2, Hid (X2 = (tl s).map (Value.int .u8)) := ⟨_, rfl⟩
  obtain ⟨Z, HZ⟩ : ∃ Z : List Value, Hid (Z = List.replicate (n + 8) (Value.int .u8 0)) := ⟨_, rfl⟩
  have hz' : w3.heap[w2.heap.size + 1 + 1]? = some (.cells Z.toArray 5 (0, 0)) := by rw [HZ.out]; exact hz
  have lX1 : X1.length = 4 := by rw [HX1.out]; rfl
  have lX2 : X2.length = 4 := by rw [HX2.out]; rfl
  have lY : Y.length = n := by rw [HY.out]; simpa using hn
  have lZ : Z.length = n + 8 := by rw [HZ.out]; simp
  have oX1 : ∀ u ∈ X1, u.oneCell' = true := by rw [HX1.out]; exact ints_oneCell _ _
  have oX2 : ∀ u ∈ X2, u.oneCell' = true := by rw [HX2.out]; exact ints_oneCell _ _
  have oY : ∀ u ∈ Y, u.oneCell' = true := by rw [HY.out]; exact ints_oneCell _ _
  have S1 : Hid (∀ j u, X1[j]? = some u → w3.cell? ((⟨w2.heap.size, 0, none⟩ : Addr).add j) = some u) := by
    rw [HX1.out]; exact block_cells hh
  have S2 : Hid (∀ w', Below (w2.heap.size + 1 + 1) w3 w' → ∀ j u, X2[j]? = some u → w'.cell? ((⟨w2.heap.size + 1, 0, none⟩ : Addr).add j) = some u) := by
    intro w' hb; rw [HX2.out]; exact block_cells ((hb.block (w2.heap.size + 1) (by omega)).trans ht)
  have S3 : Hid (∀ w', Below (w2.heap.size + 1 + 1) w3 w' → 0 < Y.length → ∃ ad, p = some ad ∧ ∀ j u, Y[j]? = some u → w'.cell? (ad.add j) = some u) := by
    intro w' hb hpos
    rw [HY.out]
    exact (HB.out w' (hb3.trans (hb.mono (by omega)))).src (by omega)
  clear hz hh ht HB
  have N1 : Hid (X1.length = Nat.min 4 (n + 8)) := by rw [lX1]; exact (Nat.min_eq_left (by omega)).symm
  have N2 : Hid (Y.length = Nat.min n (n + 4)) := by rw [lY]; exact (Nat.min_eq_left (by omega)).symm
  have N3 : Hid (X2.length = Nat.min 4 4) := lX2
  have F1 : Hid (0 + X1.length ≤ Z.length) := by rw [lX1, lZ]; show 0 + 4 ≤ n + 8; omega
  have F2 : Hid (4 + Y.length ≤ (splice Z 0 X1).length) := by show _ ≤ _; rw [length_splice _ _ _ F1.out, lY, lZ]; omega
  have F3 : Hid (4 + n + X2.length ≤ (splice (splice Z 0 X1) 4 Y).length) := by show _ ≤ _; rw [length_splice _ _ _ F2.out, length_splice _ _ _ F1.out, lX2, lZ]; omega
  have FZ : Hid (splice (splice (splice Z 0 X1) 4 Y) (4 + n) X2 = (hd n ++ zs ++ tl s).map (Value.int .u8)) := by
    show _ = _
    rw [splice_splice_splice Z X1 Y X2 4 n lX1 lY (by rw [lZ, lX2]; omega), HX1.out, HY.out, HX2.out]; simp
  go_wp2_with (refine wpList_copy_splice rfl (.tmp 20) (.tmp 21) 36 36 rfl 5 Tryd.underlying36 (by rw [hi]; simp [hz1]) _ _ _ _ _ _ rfl rfl (w2.heap.size + 1 + 1) 0 Z 5 hz' X1 N1.out (fun _ => ⟨rfl, _, rfl, S1.out⟩) F1.out oX1 (w2.heap.size + 1 + 1) w3 (Below.refl _ _) (Nat.le_refl _) ?_)
  intro w4 hg4 hb4
  clear hz'
  go_wp2_with (refine wpList_copy_splice rfl (.tmp 24) (.tmp 25) 36 36 rfl 5 Tryd.underlying36 (by rw [hi]; simp [hz1]) _ _ _ _ _ _ rfl rfl (w2.heap.size + 1 + 1) 4 (splice Z 0 X1) 5 hg4.out Y N2.out (fun h => ⟨rfl, S3.out w4 hb4 h⟩) F2.out oY (w2.heap.size + 1 + 1) w3 hb4 (Nat.le_refl _) ?_)
  intro w5 hg5 hb5
  clear hg4 hb4
  go_wp2_with fail
  obtain ⟨m, hmn⟩ : ∃ m : Nat, m = 4 + n := ⟨_, rfl⟩
  have q1 : IntKind.i64.wrap (4 + (n : Int)) = (m : Int) := by rw [IntKind.wrap_i64]; omega
  have q2 : (m : Int) ≤ (n : Int) + 8 := by omega
  have q3 : (n + 8 = m) = False := by simp; omega
  have q4 : n + 8 - m = 4 := by omega
  have HM : Hid (m = 4 + n) := hmn
  have HI : Hid ((Tryd.prog.info? 5).map (·.size) = some 1) := by rw [hi]; show some i0.size = _; rw [hz1]
  rw [← hmn] at F3 FZ
  clear hmn
  go_region_law (refine step_copy_splice rfl (.tmp 30) (.tmp 31) 36 36 rfl 5 Tryd.underlying36 HI.out (some ⟨w2.heap.size + 1 + 1, m, none⟩) (some ⟨w2.heap.size + 1, 0, none⟩) 4 4 4 4 rfl rfl (w2.heap.size + 1 + 1) m (splice (splice Z 0 X1) 4 Y) 5 hg5.out X2 N3.out (fun _ => ⟨rfl, _, rfl, S2.out _ hb5.drew⟩) F3.out oX2 (w2.heap.size + 1 + 1) w3 hb5.drew (Nat.le_refl _) ?_; intro w6 hg6 hb6)
  all_goals
    have hO : OwnB w.heap.size w6 (some ⟨w2.heap.size + 1 + 1, 0, none⟩) (n + 8) (hd n ++ zs ++ tl s) := by
      refine own_of_block (by have := hg6.out; rw [FZ.out] at this; exact this) (by simp [hd, tl, hn]) (by omega) (by unfold maxLen; omega) HY2.out
    have hbl : Below w.heap.size w w6 := hb3.trans (hb6.mono (by omega))
    have HO : Hid (OwnB w.heap.size w6 (some ⟨w2.heap.size + 1 + 1, 0, none⟩) (n + 8) (hd n ++ zs ++ tl s)) := hO
    clear hO hg6 hb6 hg5 hb5 S1 S2 S3 hb3 F1 F2 F3 FZ N1 N2 N3 HX1 HX2 HY HZ
    go_wp2
    go_ret2
    exact ⟨_, _, rfl, HO.out, hbl⟩
end Go.Proofs.YtgnamngnmbaeeaaDoor
