import Derived.Test.YtikfpoabaaiegaaBgY
namespace Go.Proofs.Ytikfpoabaaiegaa
open Go.RowKit
set_option maxRecDepth 8000
def rowN (l : LT RT) (n : Nat) : List Int := (List.range n).flatMap fun j => recN (l.item j)
def rowK (l : LT RT) (n : Nat) : List ByteArray := (List.range n).map fun j => (l.item j).key
def rowV (l : LT RT) (n : Nat) : List VT := (List.range n).map fun j => (l.item j).v
def recsN (l : LT RT) : List Int := (l.n : Int) :: rowN l l.n
theorem rowN_succ (l : LT RT) (n : Nat) : rowN l (n + 1) = rowN l n ++ recN (l.item n) := by simp [rowN, List.range_succ]
theorem rowK_succ (l : LT RT) (n : Nat) : rowK l (n + 1) = rowK l n ++ [(l.item n).key] := by simp [rowK, List.range_succ]
theorem rowV_succ (l : LT RT) (n : Nat) : rowV l (n + 1) = rowV l n ++ [(l.item n).v] := by simp [rowV, List.range_succ]
theorem rowN_len (l : LT RT) : ∀ n, (∀ j, j < n → (l.item j).n ≤ 3) → (rowN l n).length ≤ 4 * n := by
  intro n
  induction n with
  | zero => intro _; simp [rowN]
  | succ n ih =>
    intro h
    rw [rowN_succ, List.length_append]
    have := ih fun j hj => h j (by omega)
    have := h n (by omega)
    simp [recN]
    omega
set_option maxHeartbeats 4000000 in
theorem addRecords_any {w0 : World} {rb : Nat} {w : World} {N : List Int} {K : List ByteArray} {V : List VT} (h : BGx w0 rb w N K V) (l : LT RT) {S : Nat → Prop} (hin : LT.In elRec w0 S l) (hS : ∀ q, S q → q < rb) (hl : VRs l) (hN : N.length ≤ 900000) (hK : K.length ≤ 900000) (hV : V.length ≤ 900000) :
    Calls Try.prog 48 #[.pointer (some ⟨rb, 0, none⟩), .slice l.p l.n l.c] w fun x w' => x = .returned (.tuple #[]) ∧ BGx w0 rb w' (N ++ recsN l) (K ++ rowK l l.n) (V ++ rowV l l.n) := by
  obtain ⟨a, b, c, h⟩ := h
  obtain ⟨iI, KdI⟩ := kindI
  obtain ⟨pa, ca, rfl⟩ := ownsRow_slice h.oN
  have hln := hl.n
  have hrb := h.box.lt
  have x0 := h.box.cell 0
  simp at x0
  have hal : Below w.heap.size w (w.alloc (.cells #[.int .i64 (l.n : Int)] 3)) := (Below.refl _ _).alloc (Nat.le_refl _) _
  have H1 := hid (h.kept hal)
  have HIn := hid hin
  have HS := hid hS
  have HKI := hid KdI
  have HL := hid hl
  obtain ⟨p, n, cp, f⟩ := l
  simp only at *
  clear h hal hin hS KdI hl
  go_enter Try.func48, Try.ntmps48
  go_wp2_with (at_builtin; refine wpList_app rfl (.tmp 9) (.tmp 12) 25 3 iI _ 1 8 HKI.out rfl (rb + 1) _ N.length (intC N) rfl H1.out.oN ⟨w.heap.size, 0, none⟩ 1 1 [.int .i64 (n : Int)] rfl rfl (cell_one_new _ _ _) (one_int _) (by omega) (by omega) (by simp; omega) ?_)
  intro v3 w3 ho3 hg3 hn3
  obtain ⟨p3, c3, rfl⟩ := ownsRow_slice ho3
  have hx3 := H1.out.boxN hg3
  have y1 := hx3.cell 0
  have g1 := hx3.frozen 0
  simp at y1
  have H2 := hid (H1.out.nums (M := [(n : Int)]) ho3 hg3 hn3)
  clear hx3 ho3 hg3 hn3 H1
  go_wp2_with fail
  clear y1 g1
  obtain ⟨W2, hW2⟩ : ∃ W2, W2 = w3.setCell ⟨rb, 0, none⟩ (.slice p3 (N.length + 1) c3) := ⟨_, rfl⟩
  rw [← hW2] at H2 ⊢
  clear hW2
  go_loopw [4] (fun x wr => ∃ j : Nat, j ≤ n ∧ x = .int .i64 (j : Int) ∧ BGx w0 rb wr (N ++ [(n : Int)] ++ rowN ⟨p, n, cp, f⟩ j) (K ++ rowK ⟨p, n, cp, f⟩ j) (V ++ rowV ⟨p, n, cp, f⟩ j)) (fun x _ => n - (intOf x).toNat)
  case atStart => exact ⟨0, Nat.zero_le _, rfl, _, _, _, by simpa [rowN, rowK, rowV] using H2.out⟩
  case round =>
    obtain ⟨j, hj, rfl, hb⟩ := hrel
    have HB := hid hb
    clear H2
    by_cases hlt : j < n
    · have hlt' : (j : Int) < (n : Int) := by omega
      obtain ⟨_, _, _, hg0⟩ := hb
      have hbw := hg0.below
      obtain ⟨b1, o1, hp, hSb, hl1, ha⟩ := HIn.out.at_ (show 0 < n by omega)
      simp only at hp
      subst hp
      have hca : ∀ r u, (elRec.cells (f j))[r]? = some u → wr.cell? ⟨b1, o1 + j * 6 + r, none⟩ = some u := fun r u hu => (World.cell?_of_block (a := ⟨b1, o1 + j * 6 + r, none⟩) (hbw.block b1 (HS.out b1 hSb))).trans (ha j hlt r u hu)
      have a0 := hca 0 _ rfl
      have a1 := hca 1 _ rfl
      have a2 := hca 2 _ rfl
      have a3 := hca 3 _ rfl
      have a4 := hca 4 _ rfl
      have a5 := hca 5 _ rfl
      simp only [Nat.add_zero] at a0
      have HC := hid (addRecord_any HB.out (f j) (S := S) (show RT.In w0 S (f j) from HIn.out.each j hlt) HS.out (HL.out.each j hlt).n (by
        have := rowN_len ⟨some ⟨b1, o1, none⟩, n, cp, f⟩ j (fun i hi => (HL.out.each i (by simp only; omega)).n)
        rw [List.length_append, List.length_append]
        simp
        omega) (by simp [rowK]; omega) (by simp [rowV]; omega))
      unfold RT.val at HC
      clear ha hca hg0 hbw HB
      go_wp2_with fail
      refine HC.out.mono ?_
      rintro x w4 ⟨rfl, hb4⟩
      have HB4 := hid hb4
      clear hb4 HC
      go_wp2
      go_roundw
      case rel => exact ⟨j + 1, by omega, by go_num, by rw [rowN_succ, rowK_succ, rowV_succ, ← List.append_assoc, ← List.append_assoc, ← List.append_assoc]; exact HB4.out⟩
      case measure => simp [intOf]; omega
    · obtain rfl : j = n := by omega
      have hlt' : ¬ (j : Int) < (j : Int) := by omega
      clear hb
      go_wp2
      exact bodyPost_end (results_none rfl _ _ _) rfl ⟨rfl, by rw [show N ++ recsN ⟨p, j, cp, f⟩ = N ++ [(j : Int)] ++ rowN ⟨p, j, cp, f⟩ j by simp [recsN]]; exact HB.out⟩
end Go.Proofs.Ytikfpoabaaiegaa
