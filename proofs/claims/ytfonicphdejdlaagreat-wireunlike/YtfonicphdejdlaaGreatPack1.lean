import Derived.Test.YtfonicphdejdlaaGreatPack0
import Derived.Lib.Strings
import Derived.Lib.Bytealg
namespace Go.Proofs.YtfonicphdejdlaaGreat
open Go.RowKit
set_option maxRecDepth 8000
/-- yes or no, and which -/
def YesNo (P : Prop) (e : Ending) (w w' : World) : Prop := ∃ r : Bool, e = .returned (.bool r) ∧ (r = true ↔ P) ∧ Below w.heap.size w w'
theorem yn_no {P : Prop} {w w' : World} (h : ¬ P) (hb : Below w.heap.size w w') : YesNo P (.returned (.bool false)) w w' := ⟨false, rfl, ⟨fun e => (by cases e), fun e => absurd e h⟩, hb⟩
theorem yn_yes {P : Prop} {w w' : World} (h : P) (hb : Below w.heap.size w w') : YesNo P (.returned (.bool true)) w w' := ⟨true, rfl, ⟨fun _ => h, fun _ => rfl⟩, hb⟩

set_option maxHeartbeats 1000000 in
theorem yValue (t : VT) : ∀ (u : VT) (w : World) (S R : Nat → Prop), VT.In w S t → VT.In w R u →
    Calls Tryz.prog 32 #[t.val, u.val] w fun e w' => YesNo (VT.Alike t u) e w w' := by
  induction t with
  | nil => intro u w S R hin; exact hin.elim
  | mk k i s n p c f ih =>
    intro u w S R hin hiu
    obtain ⟨k2, i2, s2, n2, p2, c2, f2, rfl⟩ := hiu.mk_
    by_cases h1 : k = k2
    case neg =>
      have HN := hid (fun h : VT.Alike (.mk k i s n p c f) (.mk k2 i2 s2 n2 p2 c2 f2) => h1 h.1.symm)
      simp only [VT.val, VT.kind_mk, VT.int_mk, VT.text_mk, VT.p_mk, VT.n_mk, VT.c_mk]
      clear hin hiu ih
      go_enter Tryz.func32, Tryz.ntmps32
      go_wp2
      go_ret
      exact yn_no HN.out (((Below.refl _ _).alloc (Nat.le_refl _) _).alloc (by simp) _)
    by_cases h2 : i = i2
    case neg =>
      have HN := hid (fun h : VT.Alike (.mk k i s n p c f) (.mk k2 i2 s2 n2 p2 c2 f2) => h2 h.2.1.symm)
      simp only [VT.val, VT.kind_mk, VT.int_mk, VT.text_mk, VT.p_mk, VT.n_mk, VT.c_mk]
      subst h1
      clear hin hiu ih
      go_enter Tryz.func32, Tryz.ntmps32
      go_wp2
      go_ret
      exact yn_no HN.out (((Below.refl _ _).alloc (Nat.le_refl _) _).alloc (by simp) _)
    by_cases h3 : s = s2
    case neg =>
      have HN := hid (fun h : VT.Alike (.mk k i s n p c f) (.mk k2 i2 s2 n2 p2 c2 f2) => h3 h.2.2.1.symm)
      have h3b : (s.toList == s2.toList) = false := by
        rw [beq_eq_false_iff_ne]
        intro h
        rw [Go.Lib.toList_data, Go.Lib.toList_data] at h
        exact h3 (ByteArray.ext (Array.ext' h))
      simp only [VT.val, VT.kind_mk, VT.int_mk, VT.text_mk, VT.p_mk, VT.n_mk, VT.c_mk]
      subst h1 h2
      clear hin hiu ih
      go_enter Tryz.func32, Tryz.ntmps32
      go_wp2
      go_ret
      exact yn_no HN.out (((Below.refl _ _).alloc (Nat.le_refl _) _).alloc (by simp) _)
    by_cases h4 : n = n2
    case neg =>
      have HN := hid (fun h : VT.Alike (.mk k i s n p c f) (.mk k2 i2 s2 n2 p2 c2 f2) => h4 h.2.2.2.1.symm)
      have h4' : ((n : Int) != (n2 : Int)) = true := by rw [bne_iff_ne]; omega
      simp only [VT.val, VT.kind_mk, VT.int_mk, VT.text_mk, VT.p_mk, VT.n_mk, VT.c_mk]
      subst h1 h2 h3
      clear hin hiu ih
      go_enter Tryz.func32, Tryz.ntmps32
      go_wp2
      go_ret
      exact yn_no HN.out (((Below.refl _ _).alloc (Nat.le_refl _) _).alloc (by simp) _)
    subst h1 h2 h3 h4
    have hnn := hin.fit.nn
    simp only [VT.n_mk] at hnn
    simp only [VT.val, VT.kind_mk, VT.int_mk, VT.text_mk, VT.p_mk, VT.n_mk, VT.c_mk]
    have HI : Hid (VT.In w S (.mk k i s n p c f)) := hin
    have HU : Hid (VT.In w R (.mk k i s n p2 c2 f2)) := hiu
    clear hin hiu
    go_enter Tryz.func32, Tryz.ntmps32
    go_wp2_with fail
    have hS1 : Box (w.alloc (.cells #[.int .i64 k, .int .i64 i, .string s, .slice p n c] 24)) w.heap.size #[.int .i64 k, .int .i64 i, .string s, .slice p n c] 24 := Box.new _ _ _
    have hS2 := hS1.below ((Below.refl _ _).alloc (Nat.le_refl _) (.cells #[.int .i64 k, .int .i64 i, .string s, .slice p2 n c2] 24))
    have hS3 : Box ((w.alloc (.cells #[.int .i64 k, .int .i64 i, .string s, .slice p n c] 24)).alloc (.cells #[.int .i64 k, .int .i64 i, .string s, .slice p2 n c2] 24)) (w.heap.size + 1) #[.int .i64 k, .int .i64 i, .string s, .slice p2 n c2] 24 := by
      have := Box.new (w.alloc (.cells #[.int .i64 k, .int .i64 i, .string s, .slice p n c] 24)) #[.int .i64 k, .int .i64 i, .string s, .slice p2 n c2] 24
      simpa using this
    have hS4 : Below w.heap.size w ((w.alloc (.cells #[.int .i64 k, .int .i64 i, .string s, .slice p n c] 24)).alloc (.cells #[.int .i64 k, .int .i64 i, .string s, .slice p2 n c2] 24)) := ((Below.refl _ _).alloc (Nat.le_refl _) _).alloc (by simp) _
    go_loopw [5] (fun x wr => ∃ j : Nat, j ≤ n ∧ x = .int .i64 j ∧ (∀ q, q < j → VT.Alike (f q) (f2 q)) ∧ Box wr w.heap.size #[.int .i64 k, .int .i64 i, .string s, .slice p n c] 24 ∧ Box wr (w.heap.size + 1) #[.int .i64 k, .int .i64 i, .string s, .slice p2 n c2] 24 ∧ Below w.heap.size w wr) (fun x _ => n - (intOf x).toNat)
    case atStart => exact ⟨0, Nat.zero_le _, rfl, fun q hq => absurd hq (by omega), hS2, hS3, hS4⟩
    case round =>
      obtain ⟨j, hj, rfl, hA, hB0, hB1, hbel⟩ := hrel
      have HA := hid hA
      clear hA
      clear hS1 hS2 hS3 hS4
      have x3 := hB0.cell 3
      have y3 := hB1.cell 3
      simp at x3 y3
      by_cases hlt : j < n
      · have hlt' : (j : Int) < (n : Int) := by omega
        obtain ⟨bb, o, hp, hSb, hbl, hat⟩ := HI.out.at_ (show 0 < (VT.mk k i s n p c f).n from by simp only [VT.n]; omega)
        obtain ⟨bb2, o2, hp2, hSb2, hbl2, hat2⟩ := HU.out.at_ (show 0 < (VT.mk k i s n p2 c2 f2).n from by simp only [VT.n]; omega)
        simp only [VT.p_mk] at hp hp2
        subst hp hp2
        obtain ⟨a0, a1, a2, a3⟩ := (hat j hlt).kept (hbel.block bb hbl)
        obtain ⟨b0, b1, b2, b3⟩ := (hat2 j hlt).kept (hbel.block bb2 hbl2)
        simp only [VT.item_mk] at a0 a1 a2 a3 b0 b1 b2 b3
        have HC : Hid (∀ W, Below wr.heap.size wr W → Calls Tryz.prog 32 #[(f j).val, (f2 j).val] W fun e w' => YesNo (VT.Alike (f j) (f2 j)) e W w') := fun W hW =>
          ih j (f2 j) W (fun b => S b ∧ b < w.heap.size) (fun b => R b ∧ b < w.heap.size) ((((HI.out.sub hlt).mono fun b hb hl => ⟨hb, hl⟩).kept hbel.size (fun b hb _ => hbel.block b hb.2)).below hW) ((((HU.out.sub hlt).mono fun b hb hl => ⟨hb, hl⟩).kept hbel.size (fun b hb _ => hbel.block b hb.2)).below hW)
        unfold VT.val at HC
        have HB : Hid (Box wr w.heap.size #[.int .i64 k, .int .i64 i, .string s, .slice (some ⟨bb, o, none⟩) n c] 24 ∧ Box wr (w.heap.size + 1) #[.int .i64 k, .int .i64 i, .string s, .slice (some ⟨bb2, o2, none⟩) n c2] 24) := ⟨hB0, hB1⟩
        have HFG := hid (show True from trivial)
        obtain ⟨xk, xi, xs, xn, xp, xc, xf, hx⟩ := (HI.out.sub hlt).mk_
        obtain ⟨yk, yi, ys, yn, yp, yc, yf, hy⟩ := (HU.out.sub hlt).mk_
        simp only [VT.item_mk] at hx hy
        clear hat hat2 ih HI HU hB0 hB1
        simp only [hx, hy, VT.kind_mk, VT.int_mk, VT.text_mk, VT.p_mk, VT.n_mk, VT.c_mk] at a0 a1 a2 a3 b0 b1 b2 b3
        have HC2 : Hid (∀ W, Below wr.heap.size wr W → Calls Tryz.prog 32 #[.agg #[.int .i64 xk, .int .i64 xi, .string xs, .slice xp xn xc], .agg #[.int .i64 yk, .int .i64 yi, .string ys, .slice yp yn yc]] W fun e w' => YesNo (VT.Alike (f j) (f2 j)) e W w') := fun W hW => by
          have h := HC.out W hW
          simp only [hx, hy, VT.kind_mk, VT.int_mk, VT.text_mk, VT.p_mk, VT.n_mk, VT.c_mk] at h ⊢
          exact h
        clear hx hy HC HFG
        have HW : Hid (∀ w4, Below wr.heap.size wr.drew w4 → Box w4 w.heap.size #[.int .i64 k, .int .i64 i, .string s, .slice (some ⟨bb, o, none⟩) n c] 24 ∧ Box w4 (w.heap.size + 1) #[.int .i64 k, .int .i64 i, .string s, .slice (some ⟨bb2, o2, none⟩) n c2] 24 ∧ Below w.heap.size w w4) := fun w4 hb4 => by
          have hk : Below wr.heap.size wr w4 := (Below.refl wr.heap.size wr).drew.trans hb4
          exact ⟨HB.out.1.below hk, HB.out.2.below hk, hbel.trans (hk.mono hbel.size)⟩
        go_wp2_with fail
        go_region_with (go_at_call 32; refine (HC2.out _ ?_).mono ?_; exact (Below.refl _ _).drew; intro e w4 hP4; obtain ⟨r4, rfl, hr4, hb4⟩ := hP4)
        all_goals
          cases r4 with
          | false =>
            have HN : Hid (¬ VT.Alike (.mk k i s n (some ⟨bb, o, none⟩) c f) (.mk k i s n (some ⟨bb2, o2, none⟩) c2 f2)) := fun h => absurd (hr4.2 (h.2.2.2.2 j hlt)) (by decide)
            have HBe := hid (HW.out w4 hb4).2.2
            clear hr4 hb4
            go_wp2
            go_ret
            exact yn_no HN.out HBe.out
          | true =>
            have HA2 : Hid (∀ q, q < j + 1 → VT.Alike (f q) (f2 q)) := fun q hq => by
              by_cases h : q < j
              · exact HA.out q h
              · obtain rfl : q = j := by omega
                exact hr4.1 rfl
            have HBe := hid (HW.out w4 hb4)
            clear hr4 hb4
            go_wp2
            go_roundw
            case rel => exact ⟨j + 1, by omega, by go_num, HA2.out, HBe.out.1, HBe.out.2.1, HBe.out.2.2⟩
            case measure => simp [intOf]; omega
      · obtain rfl : j = n := by omega
        clear ih HI HU hB0 hB1
        go_wp2
        go_ret
        exact yn_yes ⟨rfl, rfl, rfl, rfl, HA.out⟩ hbel

theorem str_ne {s s2 : ByteArray} (h : s ≠ s2) : (s.toList == s2.toList) = false := by
  rw [beq_eq_false_iff_ne]
  intro h2
  rw [Go.Lib.toList_data, Go.Lib.toList_data] at h2
  exact h (ByteArray.ext (Array.ext' h2))
theorem int_ne {n m : Nat} (h : n ≠ m) : ((n : Int) != (m : Int)) = true := by rw [bne_iff_ne]; omega
/-- lists of texts -/
def TxsAlike (l u : LT ByteArray) : Prop := u.n = l.n ∧ ∀ j, j < l.n → u.item j = l.item j
set_option maxHeartbeats 2000000 in
theorem yTexts (l u : LT ByteArray) (w : World) (S R : Nat → Prop) (hl : LT.In elStr w S l) (hu : LT.In elStr w R u) :
    Calls Tryz.prog 65 #[.slice l.p l.n l.c, .slice u.p u.n u.c] w fun e w' => YesNo (TxsAlike l u) e w w' := by
  obtain ⟨p, n, c, f⟩ := l
  obtain ⟨p2, n2, c2, f2⟩ := u
  have hnn := hl.nn
  have H := hid hl
  have H' := hid hu
  simp only at hnn ⊢
  clear hl hu
  by_cases hn : n = n2
  case neg =>
    have hn' := int_ne hn
    have HN : Hid (¬ TxsAlike ⟨p, n, c, f⟩ ⟨p2, n2, c2, f2⟩) := fun h => hn h.1.symm
    go_enter Tryz.func65, Tryz.ntmps65
    go_wp2
    go_ret
    exact yn_no HN.out (Below.refl _ _)
  subst hn
  go_enter Tryz.func65, Tryz.ntmps65
  go_wp2_with fail
  go_loopw [5] (fun x wr => ∃ j : Nat, j ≤ n ∧ x = .int .i64 j ∧ (∀ q, q < j → f2 q = f q) ∧ Below w.heap.size w wr) (fun x _ => n - (intOf x).toNat)
  case atStart => exact ⟨0, Nat.zero_le _, rfl, fun q hq => absurd hq (by omega), Below.refl _ _⟩
  case round =>
    obtain ⟨j, hj, rfl, hA, hbel⟩ := hrel
    have HA := hid hA
    have HB := hid hbel
    clear hA
    by_cases hlt : j < n
    · have hlt' : (j : Int) < (n : Int) := by omega
      obtain ⟨b1, o1, hp, _, hl1, ha⟩ := H.out.at_ (show 0 < n by omega)
      obtain ⟨b2, o2, hp', _, hl2, ha'⟩ := H'.out.at_ (show 0 < n by omega)
      simp only at hp hp'
      subst hp hp'
      have q1 := ha j hlt 0 _ rfl
      have q2 := ha' j hlt 0 _ rfl
      simp [elStr] at q1 q2
      have d1 := (World.cell?_of_block (a := ⟨b1, o1 + j, none⟩) (hbel.block b1 hl1)).trans q1
      have d2 := (World.cell?_of_block (a := ⟨b2, o2 + j, none⟩) (hbel.block b2 hl2)).trans q2
      clear ha ha' hbel q1 q2
      by_cases hs : f j = f2 j
      · have HA2 : Hid (∀ q, q < j + 1 → f2 q = f q) := fun q hq => by
          by_cases h : q < j
          · exact HA.out q h
          · obtain rfl : q = j := by omega
            exact hs.symm
        rw [← hs] at d2
        clear hs
        go_wp2_with fail
        go_region
        all_goals
          go_wp2
          go_roundw
          case rel => exact ⟨j + 1, by omega, by go_num, HA2.out, HB.out.drew⟩
          case measure => simp [intOf]; omega
      · have hs' := str_ne hs
        have HN : Hid (¬ TxsAlike ⟨some ⟨b1, o1, none⟩, n, c, f⟩ ⟨some ⟨b2, o2, none⟩, n, c2, f2⟩) := fun h => hs (h.2 j hlt).symm
        clear hs
        go_wp2_with fail
        go_region
        all_goals
          go_wp2
          go_ret
          exact yn_no HN.out HB.out.drew
    · obtain rfl : j = n := by omega
      have hlt' : ¬ (j : Int) < (j : Int) := by omega
      clear hbel
      go_wp2
      go_ret
      exact yn_yes ⟨rfl, HA.out⟩ HB.out
end Go.Proofs.YtfonicphdejdlaaGreat

namespace Go.Proofs.YtfonicphdejdlaaGreat
open Go.RowKit
set_option maxRecDepth 8000
theorem kindB : ∃ i, Kind 49 5 i (.int .u8 0) 1 1 := by
  obtain ⟨i0, hi, hz0, hz1, hz2⟩ := info_parts (show (Tryz.prog.info? 5).map (fun i => (i.zero, i.size, i.bytes)) = some (some (.int .u8 0), 1, 1) by kernel_rfl)
  exact ⟨i0, Tryz.underlying49, hi, hz0, hz1, hz2, rfl, by decide⟩
theorem wrap_u64 (x : Int) : IntKind.u64.wrap x = x % 18446744073709551616 := by
  simp [IntKind.wrap, IntKind.bits, IntKind.signed]
/-- a row of one byte -/
theorem row_one (w : World) (x : Int) : (w.alloc (.cells #[.int .u8 x] 5)).ownsRow w.heap.size 5 1 (.slice (some ⟨w.heap.size, 0, none⟩) 1 1) 1 [.int .u8 x] := by
  have h := World.ownsRow_made (base := w.heap.size) (e := 5) (size := 1) w #[.int .u8 x] 1 (Nat.le_refl _) (by unfold maxLen; omega) (by simp)
  refine ⟨by simp, .inr ⟨w.heap.size, 1, #[.int .u8 x], rfl, Nat.le_refl _, ?_, Nat.le_refl _, by unfold maxLen; omega, by simp, by simp⟩⟩
  exact Box.new w _ 5

/-- bytes in a row of the call's own -/
def OwnBy (base : Nat) (w : World) (v : Value) (zs : List Int) : Prop := w.ownsRow base 5 1 v zs.length (zs.map (Value.int .u8))
theorem OwnBy.app {base : Nat} {w w' : World} {v v' : Value} {zs ys : List Int} (_h : OwnBy base w v zs) (ho : w'.ownsRow base 5 1 v' (zs.length + ys.length) (zs.map (Value.int .u8) ++ ys.map (Value.int .u8))) : OwnBy base w' v' (zs ++ ys) := by
  unfold OwnBy
  rw [List.length_append, List.map_append]
  exact ho
theorem OwnBy.below {base : Nat} {w w' : World} {v : Value} {zs : List Int} (h : OwnBy base w v zs) (hb : Below w.heap.size w w') : OwnBy base w' v zs := ownsRow_keep h fun g _ hl => hb.block g hl
theorem OwnBy.slice {base : Nat} {w : World} {v : Value} {zs : List Int} (h : OwnBy base w v zs) (hz : 0 < zs.length) : ∃ b c, v = .slice (some ⟨b, 0, none⟩) zs.length c ∧ base ≤ b ∧ b < w.heap.size ∧ ∀ j u, (zs.map (Value.int .u8))[j]? = some u → w.cell? ((⟨b, 0, none⟩ : Addr).add j) = some u := by
  have hlt := World.ownsRow.lt h
  have hc := @World.ownsRow.cells _ _ _ _ _ _ _ h
  obtain ⟨_, ⟨hv, h0⟩ | ⟨b, cap, cur, hv, hbg, hh, _⟩⟩ := id h
  · omega
  · exact ⟨b, cap, hv, hbg, (hlt b (by rw [hv]; rfl)).2, hc (by rw [hv]; rfl)⟩
end Go.Proofs.YtfonicphdejdlaaGreat

namespace Go.Proofs.YtfonicphdejdlaaGreat
open Go.RowKit
set_option maxRecDepth 8000

/-- the order of two ints -/
def cmpI (x y : Int) : Int := if x < y then -1 else if y < x then 1 else 0
/-- the order of two texts -/
def cmpS (a b : ByteArray) : Int := Go.Lib.compareBytes a.data.toList b.data.toList

end Go.Proofs.YtfonicphdejdlaaGreat

namespace Go.Proofs.YtfonicphdejdlaaGreat
open Go.RowKit
set_option maxRecDepth 8000

/-- its kind is one, and no field of another kind is set -/
def fitB (k i : Int) (s : ByteArray) (n : Nat) : Bool := decide (0 ≤ k) && decide (k ≤ 3) && (decide (i = 0) || decide (k = 1)) && (s.toList.isEmpty || decide (k = 2)) && (decide (n = 0) || decide (k = 3))

theorem fits_low (k i : Int) (s : ByteArray) (n : Nat) (p : Option Addr) (c : Nat) (w : World) (h : k < 0) :
    Calls Tryz.prog 117 #[.agg #[.int .i64 k, .int .i64 i, .string s, .slice p n c]] w fun e w' => e = .returned (.bool false) ∧ Below w.heap.size w w' := by
  go_enter Tryz.func117, Tryz.ntmps117
  go_wp2
  go_ret
  exact ⟨rfl, (Below.refl _ _).alloc (Nat.le_refl _) _⟩
theorem fits_high (k i : Int) (s : ByteArray) (n : Nat) (p : Option Addr) (c : Nat) (w : World) (h : 3 < k) (h2 : 0 ≤ k) :
    Calls Tryz.prog 117 #[.agg #[.int .i64 k, .int .i64 i, .string s, .slice p n c]] w fun e w' => e = .returned (.bool false) ∧ Below w.heap.size w w' := by
  go_enter Tryz.func117, Tryz.ntmps117
  go_wp2
  go_ret
  exact ⟨rfl, (Below.refl _ _).alloc (Nat.le_refl _) _⟩
set_option maxHeartbeats 2000000 in
theorem fits_0 (i : Int) (s : ByteArray) (n : Nat) (p : Option Addr) (c : Nat) (w : World) :
    Calls Tryz.prog 117 #[.agg #[.int .i64 0, .int .i64 i, .string s, .slice p n c]] w fun e w' => e = .returned (.bool (fitB 0 i s n)) ∧ Below w.heap.size w w' := by
  by_cases h1 : i = 0
  · subst h1
    cases h2 : s.toList.isEmpty with
    | true =>
      by_cases h3 : n = 0
      · subst h3
        go_enter Tryz.func117, Tryz.ntmps117
        go_wp2
        go_ret
        exact ⟨by simp [fitB, h2], (Below.refl _ _).alloc (Nat.le_refl _) _⟩
      · have h5 : ((n : Int) == 0) = false := by rw [beq_eq_false_iff_ne]; omega
        go_enter Tryz.func117, Tryz.ntmps117
        go_wp2
        go_ret
        exact ⟨by simp [fitB, h2, h3], (Below.refl _ _).alloc (Nat.le_refl _) _⟩
    | false =>
      go_enter Tryz.func117, Tryz.ntmps117
      go_wp2
      go_ret
      exact ⟨by simp [fitB, h2], (Below.refl _ _).alloc (Nat.le_refl _) _⟩
  · have h4 : (i == 0) = false := by rw [beq_eq_false_iff_ne]; omega
    go_enter Tryz.func117, Tryz.ntmps117
    go_wp2
    go_ret
    exact ⟨by simp [fitB, h1], (Below.refl _ _).alloc (Nat.le_refl _) _⟩
set_option maxHeartbeats 2000000 in
theorem fits_1 (i : Int) (s : ByteArray) (n : Nat) (p : Option Addr) (c : Nat) (w : World) :
    Calls Tryz.prog 117 #[.agg #[.int .i64 1, .int .i64 i, .string s, .slice p n c]] w fun e w' => e = .returned (.bool (fitB 1 i s n)) ∧ Below w.heap.size w w' := by
  by_cases h1 : i = 0
  · subst h1
    cases h2 : s.toList.isEmpty with
    | true =>
      by_cases h3 : n = 0
      · subst h3
        go_enter Tryz.func117, Tryz.ntmps117
        go_wp2
        go_ret
        exact ⟨by simp [fitB, h2], (Below.refl _ _).alloc (Nat.le_refl _) _⟩
      · have h5 : ((n : Int) == 0) = false := by rw [beq_eq_false_iff_ne]; omega
        go_enter Tryz.func117, Tryz.ntmps117
        go_wp2
        go_ret
        exact ⟨by simp [fitB, h2, h3], (Below.refl _ _).alloc (Nat.le_refl _) _⟩
    | false =>
      go_enter Tryz.func117, Tryz.ntmps117
      go_wp2
      go_ret
      exact ⟨by simp [fitB, h2], (Below.refl _ _).alloc (Nat.le_refl _) _⟩
  · have h4 : (i == 0) = false := by rw [beq_eq_false_iff_ne]; omega
    cases h2 : s.toList.isEmpty with
    | true =>
      by_cases h3 : n = 0
      · subst h3
        go_enter Tryz.func117, Tryz.ntmps117
        go_wp2
        go_ret
        exact ⟨by simp [fitB, h2], (Below.refl _ _).alloc (Nat.le_refl _) _⟩
      · have h5 : ((n : Int) == 0) = false := by rw [beq_eq_false_iff_ne]; omega
        go_enter Tryz.func117, Tryz.ntmps117
        go_wp2
        go_ret
        exact ⟨by simp [fitB, h2, h3], (Below.refl _ _).alloc (Nat.le_refl _) _⟩
    | false =>
      go_enter Tryz.func117, Tryz.ntmps117
      go_wp2
      go_ret
      exact ⟨by simp [fitB, h2], (Below.refl _ _).alloc (Nat.le_refl _) _⟩
set_option maxHeartbeats 2000000 in
theorem fits_2 (i : Int) (s : ByteArray) (n : Nat) (p : Option Addr) (c : Nat) (w : World) :
    Calls Tryz.prog 117 #[.agg #[.int .i64 2, .int .i64 i, .string s, .slice p n c]] w fun e w' => e = .returned (.bool (fitB 2 i s n)) ∧ Below w.heap.size w w' := by
  by_cases h1 : i = 0
  · subst h1
    cases h2 : s.toList.isEmpty with
    | true =>
      by_cases h3 : n = 0
      · subst h3
        go_enter Tryz.func117, Tryz.ntmps117
        go_wp2
        go_ret
        exact ⟨by simp [fitB], (Below.refl _ _).alloc (Nat.le_refl _) _⟩
      · have h5 : ((n : Int) == 0) = false := by rw [beq_eq_false_iff_ne]; omega
        go_enter Tryz.func117, Tryz.ntmps117
        go_wp2
        go_ret
        exact ⟨by simp [fitB, h3], (Below.refl _ _).alloc (Nat.le_refl _) _⟩
    | false =>
      by_cases h3 : n = 0
      · subst h3
        go_enter Tryz.func117, Tryz.ntmps117
        go_wp2
        go_ret
        exact ⟨by simp [fitB], (Below.refl _ _).alloc (Nat.le_refl _) _⟩
      · have h5 : ((n : Int) == 0) = false := by rw [beq_eq_false_iff_ne]; omega
        go_enter Tryz.func117, Tryz.ntmps117
        go_wp2
        go_ret
        exact ⟨by simp [fitB, h3], (Below.refl _ _).alloc (Nat.le_refl _) _⟩
  · have h4 : (i == 0) = false := by rw [beq_eq_false_iff_ne]; omega
    go_enter Tryz.func117, Tryz.ntmps117
    go_wp2
    go_ret
    exact ⟨by simp [fitB, h1], (Below.refl _ _).alloc (Nat.le_refl _) _⟩
set_option maxHeartbeats 2000000 in
theorem fits_3 (i : Int) (s : ByteArray) (n : Nat) (p : Option Addr) (c : Nat) (w : World) :
    Calls Tryz.prog 117 #[.agg #[.int .i64 3, .int .i64 i, .string s, .slice p n c]] w fun e w' => e = .returned (.bool (fitB 3 i s n)) ∧ Below w.heap.size w w' := by
  by_cases h1 : i = 0
  · subst h1
    cases h2 : s.toList.isEmpty with
    | true =>
      by_cases h3 : n = 0
      · subst h3
        go_enter Tryz.func117, Tryz.ntmps117
        go_wp2
        go_ret
        exact ⟨by simp [fitB, h2], (Below.refl _ _).alloc (Nat.le_refl _) _⟩
      · have h5 : ((n : Int) == 0) = false := by rw [beq_eq_false_iff_ne]; omega
        go_enter Tryz.func117, Tryz.ntmps117
        go_wp2
        go_ret
        exact ⟨by simp [fitB, h2], (Below.refl _ _).alloc (Nat.le_refl _) _⟩
    | false =>
      go_enter Tryz.func117, Tryz.ntmps117
      go_wp2
      go_ret
      exact ⟨by simp [fitB, h2], (Below.refl _ _).alloc (Nat.le_refl _) _⟩
  · have h4 : (i == 0) = false := by rw [beq_eq_false_iff_ne]; omega
    go_enter Tryz.func117, Tryz.ntmps117
    go_wp2
    go_ret
    exact ⟨by simp [fitB, h1], (Below.refl _ _).alloc (Nat.le_refl _) _⟩

theorem fits_any (k i : Int) (s : ByteArray) (n : Nat) (p : Option Addr) (c : Nat) (w : World) :
    Calls Tryz.prog 117 #[.agg #[.int .i64 k, .int .i64 i, .string s, .slice p n c]] w fun e w' => e = .returned (.bool (fitB k i s n)) ∧ Below w.heap.size w w' := by
  by_cases h0 : k < 0
  · rw [show fitB k i s n = false by simp [fitB]; omega]
    exact fits_low k i s n p c w h0
  by_cases h3 : 3 < k
  · rw [show fitB k i s n = false by simp [fitB]; omega]
    exact fits_high k i s n p c w h3 (by omega)
  obtain rfl | rfl | rfl | rfl : k = 0 ∨ k = 1 ∨ k = 2 ∨ k = 3 := by omega
  · exact fits_0 i s n p c w
  · exact fits_1 i s n p c w
  · exact fits_2 i s n p c w
  · exact fits_3 i s n p c w
end Go.Proofs.YtfonicphdejdlaaGreat

namespace Go.Proofs.YtfonicphdejdlaaGreat
open Go.RowKit

/-- item by item, till one is wrong: what is wrong, and how many parts were looked at -/
def stepN (g : Nat → Nat → Nat × Nat) (m : Nat) : Nat → Nat × Nat
  | 0 => (0, m)
  | j + 1 => if (stepN g m j).1 = 0 then g j (stepN g m j).2 else stepN g m j
/-- what is wrong with a part that stands in d lists, m parts having been looked at -/
def chk : VT → Nat → Nat → Nat × Nat
  | .nil, _, m => if 12 ≤ m then (22, m + 1) else (0, m + 1)
  | .mk k i s n _ _ f, d, m =>
    if 12 ≤ m then (22, m + 1) else if fitB k i s n = false then (20, m + 1) else if k = 3 ∧ 3 ≤ d then (23, m + 1) else if 24 < s.size then (21, m + 1) else if 6 < n then (22, m + 1)
    else stepN (fun j m => chk (f j) (d + 1) m) (m + 1) n

theorem chk_eq (k i : Int) (s : ByteArray) (n : Nat) (p : Option Addr) (c : Nat) (f : Nat → VT) (d m : Nat) : chk (.mk k i s n p c f) d m =
    if 12 ≤ m then (22, m + 1) else if fitB k i s n = false then (20, m + 1) else if k = 3 ∧ 3 ≤ d then (23, m + 1) else if 24 < s.size then (21, m + 1) else if 6 < n then (22, m + 1)
    else stepN (fun j m => chk (f j) (d + 1) m) (m + 1) n := rfl
theorem stepN_stuck {g : Nat → Nat → Nat × Nat} {m : Nat} : ∀ {n j : Nat}, j ≤ n → (stepN g m j).1 ≠ 0 → stepN g m n = stepN g m j := by
  intro n
  induction n with
  | zero =>
    intro j h _
    obtain rfl : j = 0 := by omega
    rfl
  | succ n ih =>
    intro j h hne
    by_cases hj : j = n + 1
    · rw [hj]
    · have e := ih (show j ≤ n by omega) hne
      show (if (stepN g m n).1 = 0 then _ else stepN g m n) = _
      rw [e, if_neg hne]
theorem stepN_succ {g : Nat → Nat → Nat × Nat} {m j : Nat} (h : (stepN g m j).1 = 0) : stepN g m (j + 1) = g j (stepN g m j).2 := by
  show (if _ then _ else _) = _
  rw [if_pos h]
theorem stepN_le {g : Nat → Nat → Nat × Nat} (hg : ∀ j m, m ≤ 12 → (g j m).2 ≤ 13 ∧ ((g j m).1 = 0 → (g j m).2 ≤ 12)) {m : Nat} (hm : m ≤ 12) : ∀ n, (stepN g m n).2 ≤ 13 ∧ ((stepN g m n).1 = 0 → (stepN g m n).2 ≤ 12) := by
  intro n
  induction n with
  | zero => exact ⟨by show m ≤ 13; omega, fun _ => hm⟩
  | succ n ih =>
    by_cases h : (stepN g m n).1 = 0
    · rw [stepN_succ h]; exact hg n _ (ih.2 h)
    · rw [stepN_stuck (Nat.le_succ n) h]; exact ih
theorem chk_le : ∀ (t : VT) (d m : Nat), m ≤ 12 → (chk t d m).2 ≤ 13 ∧ ((chk t d m).1 = 0 → (chk t d m).2 ≤ 12) := by
  intro t
  induction t with
  | nil =>
    intro d m hm
    unfold chk
    by_cases h1 : 12 ≤ m
    · rw [if_pos h1]; exact ⟨by simp only; omega, fun h => by simp at h⟩
    · rw [if_neg h1]; exact ⟨by simp only; omega, fun _ => by simp only; omega⟩
  | mk k i s n p c f ih =>
    intro d m hm
    rw [chk_eq]
    by_cases h1 : 12 ≤ m
    · rw [if_pos h1]; exact ⟨by simp only; omega, fun h => by simp at h⟩
    rw [if_neg h1]
    by_cases h2 : fitB k i s n = false
    · rw [if_pos h2]; exact ⟨by simp only; omega, fun h => by simp at h⟩
    rw [if_neg h2]
    by_cases h3 : k = 3 ∧ 3 ≤ d
    · rw [if_pos h3]; exact ⟨by simp only; omega, fun h => by simp at h⟩
    rw [if_neg h3]
    by_cases h4 : 24 < s.size
    · rw [if_pos h4]; exact ⟨by simp only; omega, fun h => by simp at h⟩
    rw [if_neg h4]
    by_cases h5 : 6 < n
    · rw [if_pos h5]; exact ⟨by simp only; omega, fun h => by simp at h⟩
    rw [if_neg h5]
    exact stepN_le (fun j m hm => ih j (d + 1) m hm) (by omega) n
theorem stepN_congr {g h : Nat → Nat → Nat × Nat} {m : Nat} : ∀ n, (∀ j, j < n → ∀ m, g j m = h j m) → stepN g m n = stepN h m n := by
  intro n
  induction n with
  | zero => intro _; rfl
  | succ n ih =>
    intro e
    have e1 := ih fun j hj m => e j (by omega) m
    show (if (stepN g m n).1 = 0 then g n (stepN g m n).2 else stepN g m n) = (if (stepN h m n).1 = 0 then h n (stepN h m n).2 else stepN h m n)
    rw [e1, e n (by omega)]
theorem chk_alike : ∀ (t u : VT) (d m : Nat), VT.Alike t u → chk t d m = chk u d m := by
  intro t
  induction t with
  | nil => intro u d m h; rw [show u = .nil from h]
  | mk k i s n p c f ih =>
    intro u d m h
    by_cases hu : u = .nil
    · subst hu
      obtain ⟨h1, h2, h3, h4, _⟩ := h
      subst h1 h2 h3 h4
      rw [chk_eq]
      unfold chk
      by_cases h1 : 12 ≤ m
      · rw [if_pos h1, if_pos h1]
      · rw [if_neg h1, if_neg h1, if_neg (by simp [fitB, VT.kind, VT.int, VT.text, VT.n]), if_neg (by simp [VT.kind]), if_neg (by simp [VT.text]; decide), if_neg (by simp [VT.n])]
        rfl
    obtain ⟨k2, i2, s2, p2, c2, f2, rfl⟩ : ∃ k2 i2 s2 p2 c2 f2, u = .mk k2 i2 s2 n p2 c2 f2 := by
      cases u with
      | nil => exact absurd rfl hu
      | mk k2 i2 s2 n2 p2 c2 f2 => exact ⟨k2, i2, s2, p2, c2, f2, by rw [show n2 = n from h.n]⟩
    obtain ⟨h1, h2, h3, _, hal⟩ := h
    simp only [VT.kind_mk, VT.int_mk, VT.text_mk, VT.item_mk] at h1 h2 h3 hal
    subst h1 h2 h3
    rw [chk_eq, chk_eq]
    rw [stepN_congr n (fun j hj m => ih j (f2 j) (d + 1) m (hal j hj))]
end Go.Proofs.YtfonicphdejdlaaGreat
