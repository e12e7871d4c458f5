import Derived.Test.YtieknmpdmdbdlaaGreatDoorProg
import Derived.WalkKit
import Derived.WalkSpells
import Derived.WalkLawsBesides
import Derived.Deep.QuietTactic
import Derived.BigQuiet
namespace Go.Proofs.YtieknmpdmdbdlaaGreatDoor
open Go.RowKit
set_option maxRecDepth 8000

theorem hid {p : Prop} (h : p) : Hid p := h
theorem below_dn {B : Nat} {a w : World} (h : Below B a w) (n : Nat) : Below B a (w.drewN n) := ⟨h.os, h.tape, h.output, h.size, h.block⟩

abbrev I64 (a : Int) : Prop := -9223372036854775808 ≤ a ∧ a ≤ 9223372036854775807
def minI : Int := -9223372036854775808
/-- a number, and whether there is one -/
def pairO (n : Int) (ok : Bool) : Ending := .returned (.tuple #[.int .i64 n, .bool ok])

theorem isOpp_any (a b : Int) (w : World) : Calls Tryz.prog 225 #[.int .i64 a, .int .i64 b] w fun e w' => w' = w ∧ e = .returned (.bool (decide (a = -9223372036854775808 ∧ b = -1))) := by
  by_cases h1 : a = -9223372036854775808
  · subst h1
    by_cases h2 : b = -1
    · subst h2
      go_enter Tryz.func225, Tryz.ntmps225
      go_wp2
      go_ret
      exact ⟨rfl, by simp⟩
    · go_enter Tryz.func225, Tryz.ntmps225
      go_wp2
      go_ret
      exact ⟨rfl, by simp [h2]⟩
  · go_enter Tryz.func225, Tryz.ntmps225
    go_wp2
    go_ret
    exact ⟨rfl, by simp [h1]⟩

theorem quo_zero (a : Int) (w : World) : Calls Tryz.prog 221 #[.int .i64 a, .int .i64 0] w fun e w' => w' = w ∧ e = pairO 0 false := by
  go_enter Tryz.func221, Tryz.ntmps221
  go_wp2_with fail
  exact bodyPost_ret (v := .tuple #[.int .i64 (0), .bool (false)]) (by simp [results, Tryz.results221, go_sem]) rfl ⟨rfl, rfl⟩

theorem quo_opp (w : World) : Calls Tryz.prog 221 #[.int .i64 (-9223372036854775808), .int .i64 (-1)] w fun e w' => w' = w ∧ e = pairO 0 false := by
  have HO := hid (isOpp_any (-9223372036854775808) (-1) w)
  go_enter Tryz.func221, Tryz.ntmps221
  go_wp2_with fail
  refine HO.out.mono ?_
  rintro e w' ⟨rfl, rfl⟩
  rw [show decide (True ∧ True) = true from rfl]
  go_wp2
  exact bodyPost_ret (v := .tuple #[.int .i64 (0), .bool (false)]) (by simp [results, Tryz.results221, go_sem]) rfl ⟨rfl, rfl⟩

/-- is something cut off a number below 0 -/
def cutB (a b : Int) : Bool := !(a.tmod b == 0) && !(decide (a < 0) == decide (b < 0))
def quoI (a b : Int) : Int := if cutB a b then wrap64 (wrap64 (a.tdiv b) - 1) else wrap64 (a.tdiv b)
def remI (a b : Int) : Int := if cutB a b then wrap64 (a.tmod b + b) else a.tmod b

theorem quo_any (a b : Int) (w : World) (hb : ¬ b = 0) (ho : ¬ (a = -9223372036854775808 ∧ b = -1)) : Calls Tryz.prog 221 #[.int .i64 a, .int .i64 b] w fun e w' => w' = w ∧ e = pairO (quoI a b) true := by
  have HO := hid (isOpp_any a b w)
  rw [show decide (a = -9223372036854775808 ∧ b = -1) = false from decide_eq_false ho] at HO
  unfold quoI cutB
  by_cases h1 : a.tmod b = 0
  · rw [h1, if_neg (by simp)]
    go_enter Tryz.func221, Tryz.ntmps221
    go_wp2_with fail
    refine HO.out.mono ?_
    rintro e w' ⟨rfl, rfl⟩
    go_wp2
    exact bodyPost_ret (v := .tuple #[.int .i64 (wrap64 (a.tdiv b)), .bool (true)]) (by simp [results, Tryz.results221, go_sem]) rfl ⟨rfl, rfl⟩
  · have h2 : (a.tmod b == 0) = false := by simpa using h1
    have h2' : (a.tmod b != 0) = true := by simpa using h1
    rw [h2]
    by_cases h3 : (decide (a < 0) == decide (b < 0)) = true
    · rw [if_neg (by simp [h3])]
      go_enter Tryz.func221, Tryz.ntmps221
      go_wp2_with fail
      refine HO.out.mono ?_
      rintro e w' ⟨rfl, rfl⟩
      go_wp2
      exact bodyPost_ret (v := .tuple #[.int .i64 (wrap64 (a.tdiv b)), .bool (true)]) (by simp [results, Tryz.results221, go_sem]) rfl ⟨rfl, rfl⟩
    · have h4 : (decide (a < 0) == decide (b < 0)) = false := by simpa using h3
      clear h3
      rw [h4, if_pos (by rfl)]
      go_enter Tryz.func221, Tryz.ntmps221
      go_wp2_with fail
      refine HO.out.mono ?_
      rintro e w' ⟨rfl, rfl⟩
      go_wp2
      exact bodyPost_ret (v := .tuple #[.int .i64 (wrap64 (wrap64 (a.tdiv b) - 1)), .bool (true)]) (by simp [results, Tryz.results221, go_sem]) rfl ⟨rfl, rfl⟩

theorem rem_zero (a : Int) (w : World) : Calls Tryz.prog 222 #[.int .i64 a, .int .i64 0] w fun e w' => w' = w ∧ e = pairO 0 false := by
  go_enter Tryz.func222, Tryz.ntmps222
  go_wp2_with fail
  exact bodyPost_ret (v := .tuple #[.int .i64 (0), .bool (false)]) (by simp [results, Tryz.results222, go_sem]) rfl ⟨rfl, rfl⟩

theorem rem_any (a b : Int) (w : World) (hb : ¬ b = 0) : Calls Tryz.prog 222 #[.int .i64 a, .int .i64 b] w fun e w' => w' = w ∧ e = pairO (remI a b) true := by
  unfold remI cutB
  by_cases h1 : a.tmod b = 0
  · rw [h1, if_neg (by simp)]
    go_enter Tryz.func222, Tryz.ntmps222
    go_wp2
    exact bodyPost_ret (v := .tuple #[.int .i64 (0), .bool (true)]) (by simp [results, Tryz.results222, go_sem]) rfl ⟨rfl, rfl⟩
  · have h2 : (a.tmod b == 0) = false := by simpa using h1
    have h2' : (a.tmod b != 0) = true := by simpa using h1
    rw [h2]
    by_cases h3 : (decide (a < 0) == decide (b < 0)) = true
    · rw [if_neg (by simp [h3])]
      go_enter Tryz.func222, Tryz.ntmps222
      go_wp2
      exact bodyPost_ret (v := .tuple #[.int .i64 (a.tmod b), .bool (true)]) (by simp [results, Tryz.results222, go_sem]) rfl ⟨rfl, rfl⟩
    · have h4 : (decide (a < 0) == decide (b < 0)) = false := by simpa using h3
      clear h3
      rw [h4, if_pos (by rfl)]
      go_enter Tryz.func222, Tryz.ntmps222
      go_wp2
      exact bodyPost_ret (v := .tuple #[.int .i64 (wrap64 (a.tmod b + b)), .bool (true)]) (by simp [results, Tryz.results222, go_sem]) rfl ⟨rfl, rfl⟩

theorem tot_any (a b : Int) (w : World) : Calls Tryz.prog 107 #[.int .i64 a, .int .i64 b] w fun e w' => w' = w ∧ e = pairO (wrap64 (a + b)) (decide (wrap64 (a + b) < a) == decide (b < 0)) := by
  go_enter Tryz.func107, Tryz.ntmps107
  go_wp2
  exact bodyPost_ret (v := .tuple #[.int .i64 (wrap64 (a + b)), .bool (decide (wrap64 (a + b) < a) == decide (b < 0))]) (by simp [results, Tryz.results107, go_sem]) rfl ⟨rfl, rfl⟩

theorem dif_any (a b : Int) (w : World) : Calls Tryz.prog 219 #[.int .i64 a, .int .i64 b] w fun e w' => w' = w ∧ e = pairO (wrap64 (a - b)) (decide (a < wrap64 (a - b)) == decide (b < 0)) := by
  go_enter Tryz.func219, Tryz.ntmps219
  go_wp2
  exact bodyPost_ret (v := .tuple #[.int .i64 (wrap64 (a - b)), .bool (decide (a < wrap64 (a - b)) == decide (b < 0))]) (by simp [results, Tryz.results219, go_sem]) rfl ⟨rfl, rfl⟩

theorem pro_zero (a : Int) (w : World) : Calls Tryz.prog 220 #[.int .i64 a, .int .i64 0] w fun e w' => w' = w ∧ e = pairO 0 true := by
  go_enter Tryz.func220, Tryz.ntmps220
  go_wp2
  exact bodyPost_ret (v := .tuple #[.int .i64 (0), .bool (true)]) (by simp [results, Tryz.results220, go_sem]) rfl ⟨rfl, rfl⟩

/-- is the product's number right -/
def proB (a b : Int) : Bool := (wrap64 (Int.tdiv (wrap64 (a * b)) b) == a) && !decide (a = -9223372036854775808 ∧ b = -1)
theorem pro_any (a b : Int) (w : World) (hb : ¬ b = 0) : Calls Tryz.prog 220 #[.int .i64 a, .int .i64 b] w fun e w' => w' = w ∧ e = pairO (wrap64 (a * b)) (proB a b) := by
  have HO := hid (isOpp_any a b w)
  unfold proB
  generalize decide (a = -9223372036854775808 ∧ b = -1) = o at *
  by_cases hq : (wrap64 (Int.tdiv (wrap64 (a * b)) b) == a) = true
  · rw [hq]
    have hq' : wrap64 (Int.tdiv (wrap64 (a * b)) b) = a := by simpa using hq
    go_enter Tryz.func220, Tryz.ntmps220
    go_wp2_with fail
    refine HO.out.mono ?_
    rintro e w' ⟨rfl, rfl⟩
    go_wp2
    exact bodyPost_ret (v := .tuple #[.int .i64 (wrap64 (a * b)), .bool (!o)]) (by simp [results, Tryz.results220, go_sem]) rfl ⟨rfl, by cases o <;> rfl⟩
  · have hq1 : (wrap64 (Int.tdiv (wrap64 (a * b)) b) == a) = false := by simpa using hq
    have hq' : ¬ wrap64 (Int.tdiv (wrap64 (a * b)) b) = a := by simpa using hq
    rw [hq1]
    go_enter Tryz.func220, Tryz.ntmps220
    go_wp2_with fail
    exact bodyPost_ret (v := .tuple #[.int .i64 (wrap64 (a * b)), .bool false]) (by simp [results, Tryz.results220, go_sem]) rfl ⟨rfl, by cases o <;> rfl⟩
end Go.Proofs.YtieknmpdmdbdlaaGreatDoor
