import Derived.Test.YtoifpdnaeogdgabDoorPack3
import Derived.Lib.ItoaLen
import Derived.Lib.DecodeN
import Derived.Deep.RegionLaw
namespace Go.Proofs.YtoifpdnaeogdgabDoor
open Go.RowKit
set_option maxRecDepth 8000

/-- a digit of base sixteen -/
def hexd (d : Nat) : Int := if d < 10 then 48 + (d : Int) else 87 + (d : Int)
/-- bytes in base sixteen -/
def hexB (l : List Int) : List Int := l.flatMap fun b => [92, 120, hexd (b.toNat / 16), hexd (b.toNat % 16)]
theorem hexB_append (a b : List Int) : hexB (a ++ b) = hexB a ++ hexB b := by simp [hexB]
theorem hexB_len (l : List Int) : (hexB l).length = 4 * l.length := by
  induction l with
  | nil => rfl
  | cons a l ih => simp only [hexB, List.flatMap_cons, List.length_append, List.length_cons, List.length_nil] at ih ⊢; omega
/-- what is printed of the rune at place a -/
def piece (s : ByteArray) (a : Nat) : List Int :=
  if (Utf8.decode s a).1 = 34 ∨ (Utf8.decode s a).1 = 92 then [92, ((Utf8.decode s a).1 : Int)]
  else if (Utf8.decode s a).1 = 10 then [92, 110] else if (Utf8.decode s a).1 = 9 then [92, 116]
  else if (32 ≤ (Utf8.decode s a).1 ∧ (Utf8.decode s a).1 ≤ 126) ∨ (160 ≤ (Utf8.decode s a).1 ∧ 1 < (Utf8.decode s a).2) then txtB (Utf8.encode ((Utf8.decode s a).1 : Int))
  else hexB (((txtB s).drop a).take (Utf8.decode s a).2)
/-- what is printed from place a on, of at most so many runes -/
def quoF (s : ByteArray) : Nat → Nat → List Int
  | 0, _ => []
  | k + 1, a => if a < s.size then piece s a ++ quoF s k (a + (Utf8.decode s a).2) else []
def quoB (s : ByteArray) : List Int := [34] ++ quoF s s.size 0 ++ [34]
def itoaB (i : Int) : List Int := (Go.Lib.itoa i).map fun b => (b.toNat : Int)
/-- what is printed of a value -/
def prB : VT → List Int
  | .nil => [110, 111, 110, 101]
  | .mk k i s n _ _ f => if k = 1 then itoaB i else if k = 2 then quoB s else if k = 3 then [91] ++ ((List.range n).flatMap fun j => (if 0 < j then [44, 32] else []) ++ prB (f j)) ++ [93] else [110, 111, 110, 101]
theorem prB_eq (k i : Int) (s : ByteArray) (n : Nat) (p : Option Addr) (c : Nat) (f : Nat → VT) : prB (.mk k i s n p c f) = if k = 1 then itoaB i else if k = 2 then quoB s else if k = 3 then [91] ++ ((List.range n).flatMap fun j => (if 0 < j then [44, 32] else []) ++ prB (f j)) ++ [93] else [110, 111, 110, 101] := rfl
theorem enc_size (r : Int) : (Utf8.encode r).size ≤ 4 := by
  unfold Utf8.encode
  simp only
  repeat' split
  all_goals first | (show 1 ≤ 4; omega) | (show 2 ≤ 4; omega) | (show 3 ≤ 4; omega) | (show 4 ≤ 4; omega)
theorem dec_width (s : ByteArray) (a : Nat) : 1 ≤ (Utf8.decode s a).2 ∧ (Utf8.decode s a).2 ≤ 4 ∧ (a < s.size → a + (Utf8.decode s a).2 ≤ s.size) := by
  rw [Go.Lib.decode_at]
  unfold Go.Lib.decodeN
  repeat' split
  all_goals (refine ⟨?_, ?_, ?_⟩ <;> simp only <;> omega)
theorem piece_len (s : ByteArray) (a : Nat) : (piece s a).length ≤ 16 := by
  have h := dec_width s a
  have h2 := enc_size ((Utf8.decode s a).1 : Int)
  unfold piece
  split
  · simp
  split
  · simp
  split
  · simp
  split
  · rw [txtB_len]; omega
  · rw [hexB_len, List.length_take]; omega
theorem quoF_len (s : ByteArray) : ∀ k a, (quoF s k a).length ≤ 16 * k := by
  intro k
  induction k with
  | zero => intro a; simp [quoF]
  | succ k ih =>
    intro a
    rw [quoF]
    split
    · have := piece_len s a
      have := ih (a + (Utf8.decode s a).2)
      rw [List.length_append]; omega
    · simp
theorem quoF_more (s : ByteArray) {k a : Nat} (h : a < s.size) : quoF s (k + 1) a = piece s a ++ quoF s k (a + (Utf8.decode s a).2) := by rw [quoF, if_pos h]
theorem quoF_end (s : ByteArray) {k a : Nat} (h : ¬ a < s.size) : quoF s k a = [] := by
  cases k with
  | zero => rfl
  | succ k => rw [quoF, if_neg h]
end Go.Proofs.YtoifpdnaeogdgabDoor

namespace Go.Proofs.YtoifpdnaeogdgabDoor
open Go.RowKit
set_option maxRecDepth 8000
/-- some bytes more, by an append of a new list -/
theorem LayB.many {base : Nat} {a w w' : World} {v v' : Value} {zs ys : List Int} {o : Obj} (h : LayB base a zs v w) (hB : base ≤ w.heap.size) (ho : w'.ownsRow base 5 1 v' (zs.length + ys.length) (zs.map (Value.int .u8) ++ ys.map (Value.int .u8))) (hg : (w.alloc o).grownBy w' v.ownBlock) : LayB base a (zs ++ ys) v' w' :=
  ⟨h.own.app ho, below_row h.bel hB h.own _ hg, (h.keep.trans (KeepN.below ((Below.refl _ _).alloc (Nat.le_refl _) _))).trans (KeepN.grown (h.own.below ((Below.refl _ _).alloc (Nat.le_refl _) _)) hg)⟩
theorem txtB_get {s : ByteArray} {j : Nat} (h : j < s.size) : (txtB s)[j]? = some ((s[j]'h).toNat : Int) := by
  unfold txtB
  rw [List.getElem?_map]
  have : s.data.toList[j]? = some (s[j]'h) := by
    rw [Array.getElem?_toList]
    exact Array.getElem?_eq_getElem h
  rw [this]
  rfl
theorem hexB_next {s : ByteArray} {j : Nat} (h : j < s.size) : hexB ((txtB s).take (j + 1)) = hexB ((txtB s).take j) ++ [92, 120, hexd ((s[j]'h).toNat / 16), hexd ((s[j]'h).toNat % 16)] := by
  rw [List.take_add_one, txtB_get h, hexB_append]
  simp [hexB]
theorem dig {z : Int} (h0 : 0 ≤ z) (h1 : z < 16) : ∀ h, (((⟨#[48, 49, 50, 51, 52, 53, 54, 55, 56, 57, 97, 98, 99, 100, 101, 102]⟩ : ByteArray)[z.toNat]'h).toNat : Int) = hexd z.toNat := by
  obtain ⟨d, rfl⟩ := Int.eq_ofNat_of_zero_le h0
  have hd : d < 16 := by omega
  intro h
  have key : ∀ d : Fin 16, ∀ h, (((⟨#[48, 49, 50, 51, 52, 53, 54, 55, 56, 57, 97, 98, 99, 100, 101, 102]⟩ : ByteArray)[d.val]'h).toNat : Int) = hexd d.val := by decide
  exact key ⟨d, hd⟩ h
theorem and15 (b : UInt8) : bits BinOp.and IntKind.u8 (b.toNat : Int) 15 = (b.toNat : Int) % 16 := by
  have key : ∀ x : Nat, x < 256 → bits BinOp.and IntKind.u8 (x : Int) 15 = (x : Int) % 16 := by decide
  exact key _ b.toNat_lt
set_option maxHeartbeats 1000000 in
theorem appendHex_any (s : ByteArray) (hs : s.size ≤ 4) (base : Nat) (w : World) (v : Value) (zs : List Int) (hv : OwnBy base w v zs) (hb : base ≤ w.heap.size) (hz : zs.length ≤ 90000) :
    Calls Tryd.prog 49 #[v, .string s] w fun e w' => EPost base w (zs ++ hexB (txtB s)) e w' := by
  obtain ⟨i0, Kd⟩ := kindB
  have HV := hid hv
  clear hv
  go_enter Tryd.func49, Tryd.ntmps49
  go_wp2_with fail
  go_loopw [0, 8] (fun v x wr => ∃ (j : Nat), j ≤ s.size ∧ x = .int .i64 (j : Int) ∧ LayB base w (zs ++ hexB ((txtB s).take j)) v wr) (fun _ x _ => s.size - (intOf x).toNat)
  case atStart => exact ⟨0, Nat.zero_le _, rfl, by simpa [hexB] using LayB.refl HV.out⟩
  case round =>
    obtain ⟨j, hj, rfl, hO⟩ := hrel
    have hsw := hO.bel.size
    have hzl : (zs ++ hexB ((txtB s).take j)).length ≤ 90016 := by rw [List.length_append, hexB_len, List.length_take]; omega
    by_cases hlt : j < s.size
    · have hlt' : (j : Int) < (s.size : Int) := by omega
      have HN := hid (hexB_next hlt)
      obtain ⟨L, hL⟩ : ∃ L, L = zs ++ hexB ((txtB s).take j) := ⟨_, rfl⟩
      rw [← hL] at hO hzl
      have HL := hid hL
      have HO := hid hO
      have hrow : wr.ownsRow base 5 1 u0 L.length (L.map (Value.int .u8)) := hO.own
      clear hO hL
      have hx := (s[j]'hlt).toNat_lt
      have hA := and15 (s[j]'hlt)
      have hd1 : (0 : Int) ≤ ((s[j]'hlt).toNat : Int) / 16 := by omega
      have hd2 : ((s[j]'hlt).toNat : Int) / 16 < 16 := by omega
      have hd3 : (0 : Int) ≤ ((s[j]'hlt).toNat : Int) % 16 := by omega
      have hd4 : ((s[j]'hlt).toNat : Int) % 16 < 16 := by omega
      have hD1 := dig hd1 hd2
      have hD2 := dig hd3 hd4
      go_wp2_with fail
      have hrow2 : ∀ o, ((wr.alloc o).drew).ownsRow base 5 1 u0 L.length (L.map (Value.int .u8)) := fun o => ownsRow_keep hrow (fun g _ hl => (((Below.refl wr.heap.size wr).alloc (Nat.le_refl _) o).drew).block g hl)
      have hnw : ∀ a b c d : Value, ∀ j u, [a, b, c, d][j]? = some u → ((wr.alloc (.cells #[a, b, c, d] 5)).drew).cell? ((⟨wr.heap.size, 0, none⟩ : Addr).add j) = some u := fun a b c d => news4 wr a b c d 5
      go_region_law (refine step_app rfl (.tmp 11) (.tmp 22) 56 5 i0 _ 1 1 Kd rfl base u0 L.length (L.map (Value.int .u8)) rfl (hrow2 _) ⟨wr.heap.size, 0, none⟩ 4 4 [.int .u8 92, .int .u8 120, .int .u8 (hexd (((s[j]'hlt).toNat : Int) / 16).toNat), .int .u8 (hexd (((s[j]'hlt).toNat : Int) % 16).toNat)] rfl rfl (hnw _ _ _ _) (fun u hu => by simp only [List.mem_cons, List.not_mem_nil, or_false] at hu; rcases hu with rfl | rfl | rfl | rfl <;> rfl) (by omega) (by omega) (by simp; omega) ?_; intro v3 w3 ho3 hg3 hn3)
      all_goals
        have HF := hid (HO.out.many (ys := [92, 120, hexd (((s[j]'hlt).toNat : Int) / 16).toNat, hexd (((s[j]'hlt).toNat : Int) % 16).toNat]) (by omega) ho3 (o := .cells #[.int .u8 92, .int .u8 120, .int .u8 (hexd (((s[j]'hlt).toNat : Int) / 16).toNat), .int .u8 (hexd (((s[j]'hlt).toNat : Int) % 16).toNat)] 5) ⟨hg3.os, hg3.tape, hg3.output, hg3.size, hg3.block⟩)
        clear ho3 hg3 hn3 hrow hrow2 hnw
        go_wp2
        go_roundw
        case rel =>
          refine ⟨j + 1, by omega, by go_num, ?_⟩
          have e1 : (((s[j]'hlt).toNat : Int) / 16).toNat = (s[j]'hlt).toNat / 16 := by omega
          have e2 : (((s[j]'hlt).toNat : Int) % 16).toNat = (s[j]'hlt).toNat % 16 := by omega
          have h := HF.out
          rw [e1, e2, HL.out, List.append_assoc, ← HN.out] at h
          exact h
        case measure => simp [intOf]; omega
    · have hlt' : ¬ (j : Int) < (s.size : Int) := by omega
      have hje : j = s.size := by omega
      have hF : zs ++ hexB ((txtB s).take j) = zs ++ hexB (txtB s) := by rw [hje, ← txtB_len s, List.take_length]
      rw [hF] at hO
      have HF := hid hO
      clear hO hF
      go_wp2
      go_ret
      exact ⟨_, rfl, HF.out⟩
end Go.Proofs.YtoifpdnaeogdgabDoor
