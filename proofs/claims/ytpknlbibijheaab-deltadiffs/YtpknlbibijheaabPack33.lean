import Derived.Test.YtpknlbibijheaabDlE
import Derived.Test.YtpknlbibijheaabPack32
import Derived.Deep.DeepCutAuto
import Derived.Test.YtpknlbibijheaabPack0
import Derived.Test.YtpknlbibijheaabPack31
namespace Go.Proofs.Ytpknlbibijheaab
open Go.RowKit
set_option maxRecDepth 8000

/-- two values compare as the same -/
def eq0 (t u : VT) : Bool := ordV (cleanT t) (cleanT u) == 0
/-- two cells have the same values -/
def eqV (t u : VT) : Bool := decide (t.n = u.n) && (List.range t.n).all fun j => eq0 (t.item j) (u.item j)
set_option maxHeartbeats 2000000 in
theorem sameOne (t u : VT) (w : World) (S R : Nat → Prop) (ht : VT.In w S t) (hu : VT.In w R u) : Calls Try.prog 35 #[.agg #[.int .i64 t.kind, .int .i64 t.int, .string t.text, .slice t.p t.n t.c], .agg #[.int .i64 u.kind, .int .i64 u.int, .string u.text, .slice u.p u.n u.c]] w fun e w' => e = .returned (.bool (eq0 t u)) ∧ Below w.heap.size w w' := by
  obtain ⟨W, hW⟩ : ∃ X, X = (w.alloc (.cells #[.int .i64 t.kind, .int .i64 t.int, .string t.text, .slice t.p t.n t.c] 70)).alloc (.cells #[.int .i64 u.kind, .int .i64 u.int, .string u.text, .slice u.p u.n u.c] 70) := ⟨_, rfl⟩
  have hB : Below w.heap.size w W := by rw [hW]; exact ((Below.refl _ _).alloc (Nat.le_refl _) _).alloc (by simp) _
  have HC := hid (compare_any t u W S R (ht.below hB) (hu.below hB))
  unfold VT.val at HC
  obtain ⟨r, hr⟩ : ∃ x, x = ordV (cleanT t) (cleanT u) := ⟨_, rfl⟩
  rw [← hr] at HC
  have HR : Hid (eq0 t u = (r == 0)) := by show _ = _; rw [hr]; rfl
  have HB := hid hB
  have HW := hid hW
  clear ht hu hB hW hr
  go_enter Try.func35, Try.ntmps35
  go_wp2_with fail
  rw [← HW.out]
  refine HC.out.mono ?_
  rintro e w1 ⟨rfl, hb1⟩
  have HBz : Hid (Below w.heap.size w w1) := HB.out.trans (hb1.mono HB.out.size)
  clear hb1
  go_wp2
  exact bodyPost_ret (v := .bool (r == 0)) (by simp [results, Try.results35, go_sem]) rfl ⟨by rw [HR.out], HBz.out⟩
set_option maxHeartbeats 4000000 in
theorem equalV (t u : VT) (w : World) (S R : Nat → Prop) (ht : VT.In w S t) (hu : VT.In w R u) : Calls Try.prog 34 #[.slice t.p t.n t.c, .slice u.p u.n u.c, .func (.func 35) #[] #[]] w fun e w' => e = .returned (.bool (eqV t u)) ∧ Below w.heap.size w w' := by
  obtain ⟨res, hres⟩ : ∃ r, r = eqV t u := ⟨_, rfl⟩
  rw [← hres]
  have HRes := hid hres
  have HT := hid ht
  have HU := hid hu
  have hnn := ht.fit.nn
  have hnu := hu.fit.nn
  clear ht hu hres
  by_cases hn : t.n = u.n
  · have hn' : ((t.n : Int) != (u.n : Int)) = false := by simp [hn]
    have HN := hid hn
    clear hn
    go_enter Try.func34, Try.ntmps34
    go_wp2_with fail
    go_loopw [17] (fun x wr => ∃ k : Nat, k ≤ t.n ∧ x = .int .i64 (k : Int) ∧ (∀ q, q < k → eq0 (t.item q) (u.item q) = true) ∧ Below w.heap.size w wr) (fun x _ => t.n - (intOf x).toNat)
    case atStart => exact ⟨0, Nat.zero_le _, rfl, fun q hq => absurd hq (by omega), Below.refl _ _⟩
    case round =>
      obtain ⟨k, hk, rfl, hal, hbel⟩ := hrel
      have HAl := hid hal
      have HB := hid hbel
      clear hal
      by_cases hlt : k < t.n
      · have hlt' : (k : Int) < (t.n : Int) := by omega
        have hlu : k < u.n := by have := HN.out; omega
        have hlu' : (k : Int) < (u.n : Int) := by omega
        obtain ⟨b1, o1, hp1, _, hl1, ha1⟩ := HT.out.at_ (by omega)
        obtain ⟨b2, o2, hp2, _, hl2, ha2⟩ := HU.out.at_ (by omega)
        obtain ⟨c0, c1, c2, c3⟩ := (ha1 k hlt).kept (hbel.block b1 hl1)
        obtain ⟨e0, e1, e2, e3⟩ := (ha2 k hlu).kept (hbel.block b2 hl2)
        have hl1' : b1 < wr.heap.size := Nat.lt_of_lt_of_le hl1 hbel.size
        have hl2' : b2 < wr.heap.size := Nat.lt_of_lt_of_le hl2 hbel.size
        rw [hp1, hp2]
        have HC : Hid (∀ W, Below wr.heap.size wr W → Calls Try.prog 35 #[.agg #[.int .i64 (t.item k).kind, .int .i64 (t.item k).int, .string (t.item k).text, .slice (t.item k).p (t.item k).n (t.item k).c], .agg #[.int .i64 (u.item k).kind, .int .i64 (u.item k).int, .string (u.item k).text, .slice (u.item k).p (u.item k).n (u.item k).c]] W fun e w' => e = .returned (.bool (eq0 (t.item k) (u.item k))) ∧ Below W.heap.size W w') := fun W hW => sameOne (t.item k) (u.item k) W S R (((HT.out.sub hlt).kept hbel.size (fun b _ hl => hbel.block b hl)).below hW) (((HU.out.sub hlu).kept hbel.size (fun b _ hl => hbel.block b hl)).below hW)
        clear ha1 ha2 hbel
        go_wp2_with fail
        refine (HC.out _ (((Below.refl _ _).alloc (Nat.le_refl _) _).alloc (by simp) _)).mono ?_
        rintro e w1 ⟨rfl, hb1⟩
        have HB1 : Hid (Below w.heap.size w w1) := HB.out.trans (((((Below.refl wr.heap.size wr).alloc (Nat.le_refl _) _).alloc (by simp) _).trans (hb1.mono (by simp; omega))).mono HB.out.size)
        clear hb1 c0 c1 c2 c3 e0 e1 e2 e3
        cases hx : eq0 (t.item k) (u.item k) with
        | true =>
          go_wp2
          go_roundw
          case rel =>
            refine ⟨k + 1, by omega, by go_num, fun q hq => ?_, HB1.out⟩
            by_cases hqk : q < k
            · exact HAl.out q hqk
            · obtain rfl : q = k := by omega
              exact hx
          case measure => simp [intOf]; omega
        | false =>
          have HE : Hid (res = false) := by
            show _ = _
            rw [HRes.out, eqV, Bool.and_eq_false_iff]
            right
            rw [List.all_eq_false]
            exact ⟨k, List.mem_range.2 hlt, by rw [hx]; simp⟩
          go_wp2
          exact bodyPost_ret (v := .bool false) (by simp [results, Try.results34, go_sem]) rfl ⟨by rw [HE.out], HB1.out⟩
      · obtain rfl : k = t.n := by omega
        have HE : Hid (res = true) := by
          show _ = _
          rw [HRes.out, eqV, Bool.and_eq_true]
          exact ⟨by simp [HN.out], List.all_eq_true.2 fun j hj => HAl.out j (List.mem_range.1 hj)⟩
        go_wp2
        exact bodyPost_ret (v := .bool true) (by simp [results, Try.results34, go_sem]) rfl ⟨by rw [HE.out], HB.out⟩
  · have hn' : ((t.n : Int) != (u.n : Int)) = true := by simp; omega
    have HE : Hid (res = false) := by show _ = _; rw [HRes.out, eqV]; simp [hn]
    go_enter Try.func34, Try.ntmps34
    go_wp2
    exact bodyPost_ret (v := .bool false) (by simp [results, Try.results34, go_sem]) rfl ⟨by rw [HE.out], Below.refl _ _⟩
set_option maxHeartbeats 1000000 in
theorem sameVals_any (t u : VT) (w : World) (S R : Nat → Prop) (ht : VT.In w S t) (hu : VT.In w R u) : Calls Try.prog 18 #[.slice t.p t.n t.c, .slice u.p u.n u.c] w fun e w' => e = .returned (.bool (eqV t u)) ∧ Below w.heap.size w w' := by
  have HC := hid (equalV t u w S R ht hu)
  clear ht hu
  go_enter Try.func18, Try.ntmps18
  go_wp2_with fail
  refine HC.out.mono ?_
  rintro e w1 ⟨rfl, hb1⟩
  have HB := hid hb1
  clear hb1
  go_wp2
  exact bodyPost_ret (v := .bool (eqV t u)) (by simp [results, Try.results18, go_sem]) rfl ⟨rfl, HB.out⟩
end Go.Proofs.Ytpknlbibijheaab

namespace Go.Proofs.Ytpknlbibijheaab
open Go.RowKit
set_option maxRecDepth 8000
theorem kindB : ∃ i, Kind 91 5 i (.int .u8 0) 1 1 := by
  obtain ⟨i0, hi, hz0, hz1, hz2⟩ := info_parts (show (Try.prog.info? 5).map (fun i => (i.zero, i.size, i.bytes)) = some (some (.int .u8 0), 1, 1) by kernel_rfl)
  exact ⟨i0, Try.underlying91, hi, hz0, hz1, hz2, rfl, by decide⟩
theorem wrap_u64 (x : Int) : IntKind.u64.wrap x = x % 18446744073709551616 := by
  simp [IntKind.wrap, IntKind.bits, IntKind.signed]
/-- a row of one byte -/
theorem row_one (w : World) (x : Int) : (w.alloc (.cells #[.int .u8 x] 5)).ownsRow w.heap.size 5 1 (.slice (some ⟨w.heap.size, 0, none⟩) 1 1) 1 [.int .u8 x] := by
  have h := World.ownsRow_made (base := w.heap.size) (e := 5) (size := 1) w #[.int .u8 x] 1 (Nat.le_refl _) (by unfold maxLen; omega) (by simp)
  refine ⟨by simp, .inr ⟨w.heap.size, 1, #[.int .u8 x], rfl, Nat.le_refl _, ?_, Nat.le_refl _, by unfold maxLen; omega, by simp, by simp⟩⟩
  exact Box.new w _ 5

/-- bytes in a row of the call's own -/
def OwnBy (base : Nat) (w : World) (v : Value) (zs : List Int) : Prop := w.ownsRow base 5 1 v zs.length (zs.map (Value.int .u8))
theorem OwnBy.app {base : Nat} {w w' : World} {v v' : Value} {zs ys : List Int} (_h : OwnBy base w v zs) (ho : w'.ownsRow base 5 1 v' (zs.length + ys.length) (zs.map (Value.int .u8) ++ ys.map (Value.int .u8))) : OwnBy base w' v' (zs ++ ys) := by
  unfold OwnBy
  rw [List.length_append, List.map_append]
  exact ho
theorem OwnBy.below {base : Nat} {w w' : World} {v : Value} {zs : List Int} (h : OwnBy base w v zs) (hb : Below w.heap.size w w') : OwnBy base w' v zs := ownsRow_keep h fun g _ hl => hb.block g hl
theorem OwnBy.slice {base : Nat} {w : World} {v : Value} {zs : List Int} (h : OwnBy base w v zs) (hz : 0 < zs.length) : ∃ b c, v = .slice (some ⟨b, 0, none⟩) zs.length c ∧ base ≤ b ∧ b < w.heap.size ∧ ∀ j u, (zs.map (Value.int .u8))[j]? = some u → w.cell? ((⟨b, 0, none⟩ : Addr).add j) = some u := by
  have hlt := World.ownsRow.lt h
  have hc := @World.ownsRow.cells _ _ _ _ _ _ _ h
  obtain ⟨_, ⟨hv, h0⟩ | ⟨b, cap, cur, hv, hbg, hh, _⟩⟩ := id h
  · omega
  · exact ⟨b, cap, hv, hbg, (hlt b (by rw [hv]; rfl)).2, hc (by rw [hv]; rfl)⟩
end Go.Proofs.Ytpknlbibijheaab

namespace Go.Proofs.Ytpknlbibijheaab
open Go.RowKit
set_option maxRecDepth 8000
theorem clean_len {t : VT} : (flatP (cleanT t)).length ≤ 12 := by
  unfold cleanT
  split
  · rename_i h
    have h1 := chk_len t 0 0 h
    have h2 := (chk_le t 0 0 (by omega)).2 h
    omega
  · simp [zeroT, flatP]
/-- bytes as a text -/
def strOf (zs : List Int) : ByteArray := zs.foldl (fun r n => r.push (UInt8.ofNat n.toNat)) ByteArray.empty
theorem conv_any {w : World} {base b c : Nat} {zs : List Int} (h : OwnBy base w (.slice (some ⟨b, 0, none⟩) zs.length c) zs) : (convert 91 9 (.slice (some ⟨b, 0, none⟩) zs.length c)).run Try.prog w = .ok (.string (strOf zs)) w := by
  rw [run_convert_bytes_string (P := Try.prog) w 91 9 5 _ _ _ Try.underlying91 Try.underlying5 Try.underlying9]
  have hl := run_loadCells_list (P := Try.prog) (w := w) ⟨b, 0, none⟩ (zs.map (Value.int .u8)) (World.ownsRow.cells h rfl)
  rw [List.length_map] at hl
  exact run_bytesToString w ⟨b, 0, none⟩ zs.length c zs hl
end Go.Proofs.Ytpknlbibijheaab
