import Derived.Test.YtikfpoabaaiegaaPack25
import Derived.Test.YtikfpoabaaiegaaPack3
namespace Go.Proofs.Ytikfpoabaaiegaa
open Go.RowKit
set_option maxRecDepth 8000
set_option maxHeartbeats 4000000 in
theorem refGone_any (l : LT ByteArray) (w : World) (S : Nat → Prop) (hin : LT.In elStr w S l) : Calls Try.prog 96 #[.slice l.p l.n l.c] w fun x w' => errPost (chkGone l) w x w' := by
  have E : Hid (chkGone l = if 64 < l.n then 43 else firstC (chkGo l.item) l.n) := rfl
  generalize chkGone l = res at *
  have HIn := hid hin
  obtain ⟨p, n, c, item⟩ := l
  simp only at *
  clear hin
  by_cases hn : 64 < n
  · have hn' : (64 : Int) < (n : Int) := by omega
    have e := E.out
    rw [if_pos hn] at e
    subst e
    go_enter Try.func96, Try.ntmps96
    go_wp2
    go_ret
    exact ⟨rfl, Below.refl _ _⟩
  have hn' : ¬ (64 : Int) < (n : Int) := by omega
  have E2 : Hid (res = firstC (chkGo item) n) := by have e := E.out; rw [if_neg hn] at e; exact e
  clear E
  go_enter Try.func96, Try.ntmps96
  go_wp2_with fail
  go_loopw [3] (fun x wr => ∃ j : Nat, j ≤ n ∧ x = .int .i64 j ∧ Below w.heap.size w wr ∧ firstC (chkGo item) j = 0) (fun x _ => n - (intOf x).toNat)
  case atStart => exact ⟨0, Nat.zero_le _, rfl, Below.refl _ _, rfl⟩
  case round =>
    obtain ⟨j, hj, rfl, hbel, hz⟩ := hrel
    have HZ := hid hz
    have HB := hid hbel
    clear hz
    by_cases hlt : j < n
    · have hlt' : (j : Int) < (n : Int) := by omega
      obtain ⟨bb, o, hp, hSb, hbl, hat⟩ := HIn.out.at_ (show 0 < n by omega)
      simp only at hp
      subst hp
      have d0 : wr.cell? ⟨bb, o + j, none⟩ = some (.string (item j)) := (World.cell?_of_block (a := ⟨bb, o + j, none⟩) (hbel.block bb hbl)).trans (by simpa [elStr] using hat j hlt 0 _ rfl)
      have HG : Hid (chkGo item j = if 12 < (item j).size then 24 else if 0 < j ∧ Op.bytesLess (item (j - 1)).toList (item j).toList = false then 42 else 0) := rfl
      by_cases hk : 12 < (item j).size
      · have hk12' : (12 : Int) < ((item j).size : Int) := by omega
        have e := HG.out
        rw [if_pos hk] at e
        have HR : Hid (res = 24) := by
          show res = 24
          rw [E2.out, firstC_hit HZ.out hlt (by rw [e]; decide), e]
        clear hat e hbel
        go_wp2
        go_ret
        refine ⟨?_, HB.out⟩
        rw [HR.out]
        rfl
      · have hk12' : ¬ (12 : Int) < ((item j).size : Int) := by omega
        cases j with
        | zero =>
          simp only [Nat.add_zero] at d0
          have e := HG.out
          rw [if_neg hk, if_neg (fun h => absurd h.1 (by decide))] at e
          have HZ2 : Hid (firstC (chkGo item) (0 + 1) = 0) := by
            show firstC (chkGo item) (0 + 1) = 0
            rw [firstC_succ HZ.out, e]
          clear hat e hbel
          go_wp2_with fail
          go_region
          all_goals
            go_wp2
            go_roundw
            case rel => exact ⟨0 + 1, by omega, rfl, HB.out.drew, HZ2.out⟩
            case measure => simp [intOf]; omega
        | succ i =>
          have d1 : wr.cell? ⟨bb, o + i, none⟩ = some (.string (item i)) := (World.cell?_of_block (a := ⟨bb, o + i, none⟩) (hbel.block bb hbl)).trans (by simpa [elStr] using hat i (show i < n by omega) 0 _ rfl)
          have e := HG.out
          rw [if_neg hk] at e
          simp only [Nat.add_sub_cancel] at e
          have h0 : (0 : Int) < ((i + 1 : Nat) : Int) := by omega
          have hi1 : ((i + 1 : Nat) : Int) - 1 = (i : Int) := by omega
          have hle := le_not_lt (item (i + 1)).toList (item i).toList
          cases hb : Op.bytesLess (item i).toList (item (i + 1)).toList
          · rw [if_pos ⟨by omega, hb⟩] at e
            rw [hb] at hle
            have hle' : (Op.bytesLess (item (i + 1)).toList (item i).toList || (item (i + 1)).toList == (item i).toList) = true := hle
            have HR : Hid (res = 42) := by
              show res = 42
              rw [E2.out, firstC_hit HZ.out hlt (by rw [e]; decide), e]
            clear hat e hle hb hbel
            go_wp2_with fail
            go_region
            all_goals
              go_wp2
              go_ret
              refine ⟨?_, HB.out.drew⟩
              rw [HR.out]
              rfl
          · rw [if_neg (fun h => by rw [hb] at h; exact absurd h.2 (by decide))] at e
            rw [hb] at hle
            have hle' : (Op.bytesLess (item (i + 1)).toList (item i).toList || (item (i + 1)).toList == (item i).toList) = false := hle
            have HZ2 : Hid (firstC (chkGo item) (i + 1 + 1) = 0) := by
              show firstC (chkGo item) (i + 1 + 1) = 0
              rw [firstC_succ HZ.out, e]
            clear hat e hle hb hbel
            go_wp2_with fail
            go_region
            all_goals
              go_wp2
              go_roundw
              case rel => exact ⟨i + 1 + 1, by omega, by go_num, HB.out.drew, HZ2.out⟩
              case measure => simp [intOf]; omega
    · obtain rfl : j = n := by omega
      have hlt' : ¬ (j : Int) < (j : Int) := by omega
      clear hbel
      go_wp2
      go_ret
      refine ⟨?_, HB.out⟩
      rw [E2.out, HZ.out]
      rfl
end Go.Proofs.Ytikfpoabaaiegaa

namespace Go.Proofs.Ytikfpoabaaiegaa
open Go.RowKit
set_option maxRecDepth 8000

def PartsPost (w : World) (t : VT) (e : Ending) (w' : World) : Prop :=
  ∃ g c, e = .returned (.slice (some ⟨g, 0, none⟩) (flatP (cleanT t)).length c) ∧ w'.ownsRow 0 204 4 (.slice (some ⟨g, 0, none⟩) (flatP (cleanT t)).length c) (flatP (cleanT t)).length (ptCells (flatP (cleanT t))) ∧ Below w.heap.size w w'
theorem flatP_pos (t : VT) : 0 < (flatP t).length := by cases t <;> simp [flatP]
theorem own_some {w : World} {base n : Nat} {e : TypeId} {size : Nat} {v : Value} {xs : List Value} (h : w.ownsRow base e size v n xs) (hn : 0 < n) : ∃ g c, v = .slice (some ⟨g, 0, none⟩) n c := by
  obtain ⟨_, ⟨hv, h0⟩ | ⟨g, cap, cur, hv, _⟩⟩ := h
  · omega
  · exact ⟨g, cap, hv⟩

set_option maxHeartbeats 1000000 in
theorem parts_any (t : VT) (w : World) (S : Nat → Prop) (hin : VT.In w S t) :
    Calls Try.prog 132 #[t.val] w fun e w' => PartsPost w t e w' := by
  have HC : Hid (∀ W, Below w.heap.size w W → Calls Try.prog 131 #[t.val, .int .i64 ((0 : Nat) : Int), .slice none 0 0] W fun r w' => FlatPost 0 W (.slice none 0 0) (chk t 0 0).1 (flatP t) r w') :=
    fun W hW => flat_any t W S 0 (.slice none 0 0) [] 0 (hin.below hW) (fun b _ h => by cases h) (World.ownsRow_nil _ _ _ _) (Nat.zero_le _) (by simp) (by omega)
  obtain ⟨k, i, s, n, p, c, f, ht⟩ := hin.mk_
  clear hin
  unfold PartsPost cleanT
  by_cases h : (chk t 0 0).1 = 0
  · rw [if_pos h]
    rw [h] at HC
    have HP := flatP_pos t
    generalize flatP t = L at *
    simp only [VT.val, ht, VT.kind_mk, VT.int_mk, VT.text_mk, VT.p_mk, VT.n_mk, VT.c_mk] at HC ⊢
    go_enter Try.func132, Try.ntmps132
    go_wp2_with fail
    refine (HC.out _ ?_).mono ?_
    · exact (Below.refl _ _).alloc (Nat.le_refl _) _
    intro e w1 hP
    obtain ⟨v', rfl, hL, ho⟩ := hP
    have hO := ho rfl
    obtain ⟨g, cp, hv⟩ := own_some hO HP
    have hb1 : Below w.heap.size w w1 := ((Below.refl w.heap.size w).alloc (Nat.le_refl _) _).trans ((hL.but.below (Nat.le_refl _) (fun k _ e => by cases e)).mono (by simp))
    subst hv
    have HO : Hid (w1.ownsRow 0 204 4 (.slice (some ⟨g, 0, none⟩) L.length cp) L.length (ptCells L)) := hO
    clear hL ho hO HC
    go_wp2
    go_ret
    exact ⟨g, cp, rfl, HO.out, hb1⟩
  · rw [if_neg h]
    have h' : ¬ (((chk t 0 0).1 : Int) = 0) := by omega
    generalize (chk t 0 0).1 = r at *
    generalize flatP t = L at *
    simp only [VT.val, ht, VT.kind_mk, VT.int_mk, VT.text_mk, VT.p_mk, VT.n_mk, VT.c_mk] at HC ⊢
    go_enter Try.func132, Try.ntmps132
    go_wp2_with fail
    refine (HC.out _ ?_).mono ?_
    · exact (Below.refl _ _).alloc (Nat.le_refl _) _
    intro e w1 hP
    obtain ⟨v', rfl, hL, ho⟩ := hP
    have hb1 : Below w.heap.size w w1 := ((Below.refl w.heap.size w).alloc (Nat.le_refl _) _).trans ((hL.but.below (Nat.le_refl _) (fun k _ e => by cases e)).mono (by simp))
    clear hL ho HC
    go_wp2
    go_ret
    refine ⟨w1.heap.size, 1, rfl, ?_, hb1.alloc hb1.size _⟩
    refine ⟨rfl, .inr ⟨w1.heap.size, 1, _, rfl, Nat.zero_le _, Box.new w1 _ _, Nat.le_refl _, by unfold maxLen; omega, rfl, rfl⟩⟩
theorem pt_get : ∀ (L : List PT) (i r : Nat) (h : i < L.length), r < 4 → (ptCells L)[i * 4 + r]? = (L[i]'h).cells[r]? := by
  intro L
  induction L with
  | nil => intro i r h; exact absurd h (by simp)
  | cons q L ih =>
    intro i r h hr
    have e : ptCells (q :: L) = q.cells ++ ptCells L := by simp [ptCells]
    rw [e]
    cases i with
    | zero =>
      rw [List.getElem?_append_left (by simp [PT.cells]; omega)]
      simp
    | succ i =>
      have hl : q.cells.length = 4 := rfl
      rw [List.getElem?_append_right (by rw [hl]; omega), hl]
      have h2 := ih i r (by simpa using h) hr
      rw [show (i + 1) * 4 + r - 4 = i * 4 + r by omega, h2]
      simp
/-- a part that lies in a row of parts -/
theorem part_at {w : World} {base g c : Nat} {L : List PT} (h : w.ownsRow base 204 4 (.slice (some ⟨g, 0, none⟩) L.length c) L.length (ptCells L)) {i : Nat} {q : PT} (hq : L[i]? = some q) :
    i < L.length ∧ w.cell? ⟨g, i * 4, none⟩ = some (.int .i64 q.kind) ∧ w.cell? ⟨g, i * 4 + 1, none⟩ = some (.int .i64 q.int) ∧ w.cell? ⟨g, i * 4 + 2, none⟩ = some (.string q.text) ∧ w.cell? ⟨g, i * 4 + 3, none⟩ = some (.int .i64 q.n) := by
  obtain ⟨hi, rfl⟩ := List.getElem?_eq_some_iff.1 hq
  have hc := h.cells (g := g) rfl
  have k : ∀ r u, r < 4 → (L[i]).cells[r]? = some u → w.cell? ⟨g, i * 4 + r, none⟩ = some u := by
    intro r u hr hu
    have := hc (i * 4 + r) u (by rw [pt_get L i r hi hr]; exact hu)
    rw [Go.WideShapes.add_plain, Nat.zero_add] at this
    exact this
  exact ⟨hi, k 0 _ (by omega) rfl, k 1 _ (by omega) rfl, k 2 _ (by omega) rfl, k 3 _ (by omega) rfl⟩
end Go.Proofs.Ytikfpoabaaiegaa
