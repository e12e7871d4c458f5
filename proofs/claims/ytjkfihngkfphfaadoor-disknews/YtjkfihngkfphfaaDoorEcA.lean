import Derived.Test.YtjkfihngkfphfaaDoorEbD
namespace Go.Proofs.YtjkfihngkfphfaaDoor
open Go.RowKit
set_option maxRecDepth 8000
set_option maxHeartbeats 4000000 in
theorem named_any (s : ByteArray) (w : World) (hmx : s.size ≤ 140737488355328) : Calls Tryd.prog 18 #[.string s] w fun e w' => e = .returned (.bool (nmB s)) ∧ w' = w := by
  by_cases h0 : s.size < 1
  · have h0' : (s.size : Int) < 1 := by omega
    have HNo : Hid (nmB s = false) := by show nmB s = false; simp [nmB]; omega
    go_enter Tryd.func18, Tryd.ntmps18
    go_wp2
    exact bodyPost_ret (v := .bool false) (by simp [results, Tryd.results18, go_sem]) rfl ⟨by rw [HNo.out], rfl⟩
  · have h0' : ¬ (s.size : Int) < 1 := by omega
    by_cases h1 : 12 < s.size
    · have h1' : (12 : Int) < (s.size : Int) := by omega
      have HNo : Hid (nmB s = false) := by show nmB s = false; simp [nmB]; omega
      go_enter Tryd.func18, Tryd.ntmps18
      go_wp2
      exact bodyPost_ret (v := .bool false) (by simp [results, Tryd.results18, go_sem]) rfl ⟨by rw [HNo.out], rfl⟩
    · have h1' : ¬ (12 : Int) < (s.size : Int) := by omega
      go_enter Tryd.func18, Tryd.ntmps18
      go_wp2_with fail
      go_loopw [3] (fun x wr => ∃ i : Nat, i ≤ s.size ∧ x = .int .i64 (i : Int) ∧ (∀ j (hj : j < s.size), j < i → okB (s[j]).toNat = true) ∧ wr = w) (fun x _ => s.size - (intOf x).toNat)
      case atStart => exact ⟨0, Nat.zero_le _, rfl, fun j hj h => absurd h (by omega), rfl⟩
      case round =>
        obtain ⟨i, hi, rfl, hok, rfl⟩ := hrel
        have HOk := hid hok
        clear hok
        by_cases hlt : i < s.size
        · have hlt' : (i : Int) < (s.size : Int) := by omega
          have hb := (s[i]).toNat_lt
          have HGo : okB (s[i]).toNat = true → Hid (∀ j (hj : j < s.size), j < i + 1 → okB (s[j]).toNat = true) := fun h j hj hji => by
            by_cases hj2 : j < i
            · exact HOk.out j hj hj2
            · obtain rfl : j = i := by omega
              exact h
          by_cases a1 : 97 ≤ (s[i]).toNat ∧ (s[i]).toNat ≤ 122
          · have a2 : (97 : Int) ≤ ((s[i]).toNat : Int) := by omega
            have a3 : ((s[i]).toNat : Int) ≤ 122 := by omega
            have a4 : (48 : Int) ≤ ((s[i]).toNat : Int) := by omega
            have a5 : ¬ ((s[i]).toNat : Int) ≤ 57 := by omega
            have HG := HGo (by simp [okB, a1.1, a1.2])
            clear HGo hb a1
            go_wp2
            go_roundw
            case rel => exact ⟨i + 1, by omega, by go_num, HG.out, by first | rfl | trivial⟩
            case measure => simp [intOf]; omega
          · by_cases b1 : 48 ≤ (s[i]).toNat ∧ (s[i]).toNat ≤ 57
            · have a2 : ¬ (97 : Int) ≤ ((s[i]).toNat : Int) := by omega
              have a4 : (48 : Int) ≤ ((s[i]).toNat : Int) := by omega
              have a5 : ((s[i]).toNat : Int) ≤ 57 := by omega
              have HG := HGo (by simp [okB, b1.1, b1.2])
              clear HGo hb a1 b1
              go_wp2
              go_roundw
              case rel => exact ⟨i + 1, by omega, by go_num, HG.out, by first | rfl | trivial⟩
              case measure => simp [intOf]; omega
            · by_cases c1 : 97 ≤ (s[i]).toNat
              · have a2 : (97 : Int) ≤ ((s[i]).toNat : Int) := by omega
                have a3 : ¬ ((s[i]).toNat : Int) ≤ 122 := by omega
                have a4 : (48 : Int) ≤ ((s[i]).toNat : Int) := by omega
                have a5 : ¬ ((s[i]).toNat : Int) ≤ 57 := by omega
                have a6 : (((s[i]).toNat : Int) == 45) = false := by simp; omega
                have hno : okB (s[i]).toNat = false := by simp [okB]; omega
                have HNo : Hid (nmB s = false) := by
                  show nmB s = false
                  cases h : nmB s with
                  | false => rfl
                  | true => have h2 := ((nmB_iff s).1 h).ok i hlt; rw [hno] at h2; cases h2
                clear HGo hb a1 b1 hno
                go_wp2
                exact bodyPost_ret (v := .bool false) (by simp [results, Tryd.results18, go_sem]) rfl ⟨by rw [HNo.out], rfl⟩
              · have a2 : ¬ (97 : Int) ≤ ((s[i]).toNat : Int) := by omega
                by_cases c2 : 48 ≤ (s[i]).toNat
                · have a4 : (48 : Int) ≤ ((s[i]).toNat : Int) := by omega
                  have a5 : ¬ ((s[i]).toNat : Int) ≤ 57 := by omega
                  have a6 : (((s[i]).toNat : Int) == 45) = false := by simp; omega
                  have hno : okB (s[i]).toNat = false := by simp [okB]; omega
                  have HNo : Hid (nmB s = false) := by
                    show nmB s = false
                    cases h : nmB s with
                    | false => rfl
                    | true => have h2 := ((nmB_iff s).1 h).ok i hlt; rw [hno] at h2; cases h2
                  clear HGo hb a1 b1 hno
                  go_wp2
                  exact bodyPost_ret (v := .bool false) (by simp [results, Tryd.results18, go_sem]) rfl ⟨by rw [HNo.out], rfl⟩
                · have a4 : ¬ (48 : Int) ≤ ((s[i]).toNat : Int) := by omega
                  by_cases c3 : (s[i]).toNat = 45
                  · have a6 : (((s[i]).toNat : Int) == 45) = true := by simp; omega
                    have HG := HGo (by simp [okB, c3])
                    clear HGo hb a1 b1
                    go_wp2
                    go_roundw
                    case rel => exact ⟨i + 1, by omega, by go_num, HG.out, by first | rfl | trivial⟩
                    case measure => simp [intOf]; omega
                  · have a6 : (((s[i]).toNat : Int) == 45) = false := by simp; omega
                    have hno : okB (s[i]).toNat = false := by simp [okB]; omega
                    have HNo : Hid (nmB s = false) := by
                      show nmB s = false
                      cases h : nmB s with
                      | false => rfl
                      | true => have h2 := ((nmB_iff s).1 h).ok i hlt; rw [hno] at h2; cases h2
                    clear HGo hb a1 b1 hno
                    go_wp2
                    exact bodyPost_ret (v := .bool false) (by simp [results, Tryd.results18, go_sem]) rfl ⟨by rw [HNo.out], rfl⟩
        · have hlt' : ¬ (i : Int) < (s.size : Int) := by omega
          have HYes : Hid (nmB s = true) := (nmB_iff s).2 ⟨by omega, by omega, fun j hj => HOk.out j hj (by omega)⟩
          go_wp2
          exact bodyPost_ret (v := .bool true) (by simp [results, Tryd.results18, go_sem]) rfl ⟨by rw [HYes.out], rfl⟩
end Go.Proofs.YtjkfihngkfphfaaDoor
