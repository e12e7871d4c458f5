import Derived.Test.YtbeibhmbaofjhaaPack4
import Derived.Test.YtbeibhmbaofjhaaRgQ
namespace Go.Proofs.Ytbeibhmbaofjhaa
open Go.RowKit
set_option maxRecDepth 8000
set_option maxHeartbeats 4000000 in
theorem ksame_yes (p q : Option Addr) (n c d : Nat) (f : Nat → Int) (w : World) (S R : Nat → Prop) (hp : Byts w S p n c f) (hq : Byts w R q n d f) :
    Calls Try.prog 39 #[.slice p n c, .slice q n d] w fun e w' => e = .returned (.bool true) ∧ w' = w := by
  have HP := hid hp
  have HQ := hid hq
  have hnn := hp.nn
  clear hp hq
  go_enter Try.func39, Try.ntmps39
  go_wp2_with fail
  go_loopw [5] (fun x wr => ∃ i : Nat, i ≤ n ∧ x = .int .i64 (i : Int) ∧ wr = w) (fun x _ => n - (intOf x).toNat)
  case atStart => exact ⟨0, Nat.zero_le _, rfl, rfl⟩
  case round =>
    obtain ⟨i, hi, rfl, rfl⟩ := hrel
    by_cases hlt : i < n
    · have hlt' : (i : Int) < (n : Int) := by omega
      obtain ⟨b1, o1, hp1, _, hb1, hat1⟩ := HP.out.at_ (by omega)
      obtain ⟨b2, o2, hp2, _, hb2, hat2⟩ := HQ.out.at_ (by omega)
      subst hp1 hp2
      have c0 := hat1 i hlt
      have c1 := hat2 i hlt
      clear hat1 hat2
      go_wp2
      go_roundw
      case rel => exact ⟨i + 1, by omega, by go_num, trivial⟩
      case measure => simp [intOf]; omega
    · have hlt' : ¬ (i : Int) < (n : Int) := by omega
      go_wp2
      exact bodyPost_ret (v := .bool true) (by simp [results, Try.results39, go_sem]) rfl ⟨rfl, rfl⟩
theorem ybC_get (o t wt nt mk lf : Value) (sn : Int) : (ybC o t wt nt mk lf sn).toList = Value.bool false :: .bool false :: o :: t :: wt :: nt :: mk :: lf :: .int .i64 sn :: ybT := rfl
set_option maxHeartbeats 1000000 in
theorem holdByteLists_nil (kb : Nat) (o t wt nt mk lf : Value) (sn : Int) (w : World) (hX : Box w kb (ybC o t wt nt mk lf sn) 48) :
    Calls Try.prog 21 #[.pointer (some ⟨kb, 0, none⟩)] w fun e w' => e = .returned (.bool true) ∧ w' = w := by
  have c0 : w.cell? ⟨kb, 9, none⟩ = some (.slice none 0 0) := (hX.cell 9).trans rfl
  have c1 : w.cell? ⟨kb, 11, none⟩ = some (.slice none 0 0) := (hX.cell 11).trans rfl
  have cl := hX.lt
  clear hX
  go_enter Try.func21, Try.ntmps21
  go_wp2_with fail
  go_loopw [3] (fun x wr => x = .int .i64 0 ∧ wr = w) (fun _ _ => 0)
  case atStart => exact ⟨rfl, rfl⟩
  case round =>
    obtain ⟨rfl, rfl⟩ := hrel
    go_wp2_with fail
    go_loopw [4] (fun x wq => x = .int .i64 0 ∧ wq = wr) (fun _ _ => 0)
    case atStart => exact ⟨rfl, rfl⟩
    case round =>
      obtain ⟨rfl, rfl⟩ := hrel
      go_wp2
      exact bodyPost_ret (v := .bool true) (by simp [results, Try.results21, go_sem]) rfl (⟨rfl, rfl⟩)
set_option maxHeartbeats 1000000 in
theorem holdInts_nil (kb : Nat) (o t wt nt mk lf : Value) (sn : Int) (w : World) (hX : Box w kb (ybC o t wt nt mk lf sn) 48) :
    Calls Try.prog 22 #[.pointer (some ⟨kb, 0, none⟩)] w fun e w' => e = .returned (.bool true) ∧ w' = w := by
  have c0 : w.cell? ⟨kb, 16, none⟩ = some (.slice none 0 0) := (hX.cell 16).trans rfl
  have c1 : w.cell? ⟨kb, 18, none⟩ = some (.slice none 0 0) := (hX.cell 18).trans rfl
  have cl := hX.lt
  clear hX
  go_enter Try.func22, Try.ntmps22
  go_wp2_with fail
  go_loopw [3] (fun x wr => x = .int .i64 0 ∧ wr = w) (fun _ _ => 0)
  case atStart => exact ⟨rfl, rfl⟩
  case round =>
    obtain ⟨rfl, rfl⟩ := hrel
    go_wp2_with fail
    go_loopw [4] (fun x wq => x = .int .i64 0 ∧ wq = wr) (fun _ _ => 0)
    case atStart => exact ⟨rfl, rfl⟩
    case round =>
      obtain ⟨rfl, rfl⟩ := hrel
      go_wp2
      exact bodyPost_ret (v := .bool true) (by simp [results, Try.results22, go_sem]) rfl (⟨rfl, rfl⟩)
set_option maxHeartbeats 1000000 in
theorem holdBools_nil (kb : Nat) (o t wt nt mk lf : Value) (sn : Int) (w : World) (hX : Box w kb (ybC o t wt nt mk lf sn) 48) :
    Calls Try.prog 23 #[.pointer (some ⟨kb, 0, none⟩)] w fun e w' => e = .returned (.bool true) ∧ w' = w := by
  have c0 : w.cell? ⟨kb, 23, none⟩ = some (.slice none 0 0) := (hX.cell 23).trans rfl
  have c1 : w.cell? ⟨kb, 25, none⟩ = some (.slice none 0 0) := (hX.cell 25).trans rfl
  have cl := hX.lt
  clear hX
  go_enter Try.func23, Try.ntmps23
  go_wp2_with fail
  go_loopw [3] (fun x wr => x = .int .i64 0 ∧ wr = w) (fun _ _ => 0)
  case atStart => exact ⟨rfl, rfl⟩
  case round =>
    obtain ⟨rfl, rfl⟩ := hrel
    go_wp2_with fail
    go_loopw [4] (fun x wq => x = .int .i64 0 ∧ wq = wr) (fun _ _ => 0)
    case atStart => exact ⟨rfl, rfl⟩
    case round =>
      obtain ⟨rfl, rfl⟩ := hrel
      go_wp2
      exact bodyPost_ret (v := .bool true) (by simp [results, Try.results23, go_sem]) rfl (⟨rfl, rfl⟩)
set_option maxHeartbeats 1000000 in
theorem holdTexts_nil (kb : Nat) (o t wt nt mk lf : Value) (sn : Int) (w : World) (hX : Box w kb (ybC o t wt nt mk lf sn) 48) :
    Calls Try.prog 24 #[.pointer (some ⟨kb, 0, none⟩)] w fun e w' => e = .returned (.bool true) ∧ w' = w := by
  have c0 : w.cell? ⟨kb, 30, none⟩ = some (.slice none 0 0) := (hX.cell 30).trans rfl
  have c1 : w.cell? ⟨kb, 32, none⟩ = some (.slice none 0 0) := (hX.cell 32).trans rfl
  have cl := hX.lt
  clear hX
  go_enter Try.func24, Try.ntmps24
  go_wp2_with fail
  go_loopw [3] (fun x wr => x = .int .i64 0 ∧ wr = w) (fun _ _ => 0)
  case atStart => exact ⟨rfl, rfl⟩
  case round =>
    obtain ⟨rfl, rfl⟩ := hrel
    go_wp2_with fail
    go_loopw [4] (fun x wq => x = .int .i64 0 ∧ wq = wr) (fun _ _ => 0)
    case atStart => exact ⟨rfl, rfl⟩
    case round =>
      obtain ⟨rfl, rfl⟩ := hrel
      go_wp2
      exact bodyPost_ret (v := .bool true) (by simp [results, Try.results24, go_sem]) rfl (⟨rfl, rfl⟩)
set_option maxHeartbeats 1000000 in
theorem holdValues_nil (kb : Nat) (o t wt nt mk lf : Value) (sn : Int) (w : World) (hX : Box w kb (ybC o t wt nt mk lf sn) 48) :
    Calls Try.prog 25 #[.pointer (some ⟨kb, 0, none⟩)] w fun e w' => e = .returned (.bool true) ∧ w' = w := by
  have c0 : w.cell? ⟨kb, 37, none⟩ = some (.slice none 0 0) := (hX.cell 37).trans rfl
  have c1 : w.cell? ⟨kb, 39, none⟩ = some (.slice none 0 0) := (hX.cell 39).trans rfl
  have cl := hX.lt
  clear hX
  go_enter Try.func25, Try.ntmps25
  go_wp2_with fail
  go_loopw [3] (fun x wr => x = .int .i64 0 ∧ wr = w) (fun _ _ => 0)
  case atStart => exact ⟨rfl, rfl⟩
  case round =>
    obtain ⟨rfl, rfl⟩ := hrel
    go_wp2_with fail
    go_loopw [4] (fun x wq => x = .int .i64 0 ∧ wq = wr) (fun _ _ => 0)
    case atStart => exact ⟨rfl, rfl⟩
    case round =>
      obtain ⟨rfl, rfl⟩ := hrel
      go_wp2
      exact bodyPost_ret (v := .bool true) (by simp [results, Try.results25, go_sem]) rfl (⟨rfl, rfl⟩)
set_option maxHeartbeats 1000000 in
theorem holdRecords_nil (kb : Nat) (o t wt nt mk lf : Value) (sn : Int) (w : World) (hX : Box w kb (ybC o t wt nt mk lf sn) 48) :
    Calls Try.prog 26 #[.pointer (some ⟨kb, 0, none⟩)] w fun e w' => e = .returned (.bool true) ∧ w' = w := by
  have c0 : w.cell? ⟨kb, 44, none⟩ = some (.slice none 0 0) := (hX.cell 44).trans rfl
  have c1 : w.cell? ⟨kb, 46, none⟩ = some (.slice none 0 0) := (hX.cell 46).trans rfl
  have cl := hX.lt
  clear hX
  go_enter Try.func26, Try.ntmps26
  go_wp2_with fail
  go_loopw [3] (fun x wr => x = .int .i64 0 ∧ wr = w) (fun _ _ => 0)
  case atStart => exact ⟨rfl, rfl⟩
  case round =>
    obtain ⟨rfl, rfl⟩ := hrel
    go_wp2_with fail
    go_loopw [4] (fun x wq => x = .int .i64 0 ∧ wq = wr) (fun _ _ => 0)
    case atStart => exact ⟨rfl, rfl⟩
    case round =>
      obtain ⟨rfl, rfl⟩ := hrel
      go_wp2
      exact bodyPost_ret (v := .bool true) (by simp [results, Try.results26, go_sem]) rfl (⟨rfl, rfl⟩)
set_option maxHeartbeats 1000000 in
theorem holdCells_nil (kb : Nat) (o t wt nt mk lf : Value) (sn : Int) (w : World) (hX : Box w kb (ybC o t wt nt mk lf sn) 48) :
    Calls Try.prog 27 #[.pointer (some ⟨kb, 0, none⟩)] w fun e w' => e = .returned (.bool true) ∧ w' = w := by
  have c0 : w.cell? ⟨kb, 51, none⟩ = some (.slice none 0 0) := (hX.cell 51).trans rfl
  have c1 : w.cell? ⟨kb, 53, none⟩ = some (.slice none 0 0) := (hX.cell 53).trans rfl
  have cl := hX.lt
  clear hX
  go_enter Try.func27, Try.ntmps27
  go_wp2_with fail
  go_loopw [3] (fun x wr => x = .int .i64 0 ∧ wr = w) (fun _ _ => 0)
  case atStart => exact ⟨rfl, rfl⟩
  case round =>
    obtain ⟨rfl, rfl⟩ := hrel
    go_wp2_with fail
    go_loopw [4] (fun x wq => x = .int .i64 0 ∧ wq = wr) (fun _ _ => 0)
    case atStart => exact ⟨rfl, rfl⟩
    case round =>
      obtain ⟨rfl, rfl⟩ := hrel
      go_wp2
      exact bodyPost_ret (v := .bool true) (by simp [results, Try.results27, go_sem]) rfl (⟨rfl, rfl⟩)
set_option maxHeartbeats 1000000 in
theorem holdStates_nil (kb : Nat) (o t wt nt mk lf : Value) (sn : Int) (w : World) (hX : Box w kb (ybC o t wt nt mk lf sn) 48) :
    Calls Try.prog 28 #[.pointer (some ⟨kb, 0, none⟩)] w fun e w' => e = .returned (.bool true) ∧ w' = w := by
  have c0 : w.cell? ⟨kb, 58, none⟩ = some (.slice none 0 0) := (hX.cell 58).trans rfl
  have c1 : w.cell? ⟨kb, 60, none⟩ = some (.slice none 0 0) := (hX.cell 60).trans rfl
  have cl := hX.lt
  clear hX
  go_enter Try.func28, Try.ntmps28
  go_wp2_with fail
  go_loopw [3] (fun x wr => x = .int .i64 0 ∧ wr = w) (fun _ _ => 0)
  case atStart => exact ⟨rfl, rfl⟩
  case round =>
    obtain ⟨rfl, rfl⟩ := hrel
    go_wp2_with fail
    go_loopw [4] (fun x wq => x = .int .i64 0 ∧ wq = wr) (fun _ _ => 0)
    case atStart => exact ⟨rfl, rfl⟩
    case round =>
      obtain ⟨rfl, rfl⟩ := hrel
      go_wp2
      exact bodyPost_ret (v := .bool true) (by simp [results, Try.results28, go_sem]) rfl (⟨rfl, rfl⟩)
set_option maxHeartbeats 1000000 in
theorem holdRecordLists_nil (kb : Nat) (o t wt nt mk lf : Value) (sn : Int) (w : World) (hX : Box w kb (ybC o t wt nt mk lf sn) 48) :
    Calls Try.prog 29 #[.pointer (some ⟨kb, 0, none⟩)] w fun e w' => e = .returned (.bool true) ∧ w' = w := by
  have c0 : w.cell? ⟨kb, 65, none⟩ = some (.slice none 0 0) := (hX.cell 65).trans rfl
  have c1 : w.cell? ⟨kb, 67, none⟩ = some (.slice none 0 0) := (hX.cell 67).trans rfl
  have cl := hX.lt
  clear hX
  go_enter Try.func29, Try.ntmps29
  go_wp2_with fail
  go_loopw [3] (fun x wr => x = .int .i64 0 ∧ wr = w) (fun _ _ => 0)
  case atStart => exact ⟨rfl, rfl⟩
  case round =>
    obtain ⟨rfl, rfl⟩ := hrel
    go_wp2_with fail
    go_loopw [4] (fun x wq => x = .int .i64 0 ∧ wq = wr) (fun _ _ => 0)
    case atStart => exact ⟨rfl, rfl⟩
    case round =>
      obtain ⟨rfl, rfl⟩ := hrel
      go_wp2
      exact bodyPost_ret (v := .bool true) (by simp [results, Try.results29, go_sem]) rfl (⟨rfl, rfl⟩)
set_option maxHeartbeats 1000000 in
theorem holdIntLists_nil (kb : Nat) (o t wt nt mk lf : Value) (sn : Int) (w : World) (hX : Box w kb (ybC o t wt nt mk lf sn) 48) :
    Calls Try.prog 30 #[.pointer (some ⟨kb, 0, none⟩)] w fun e w' => e = .returned (.bool true) ∧ w' = w := by
  have c0 : w.cell? ⟨kb, 72, none⟩ = some (.slice none 0 0) := (hX.cell 72).trans rfl
  have c1 : w.cell? ⟨kb, 74, none⟩ = some (.slice none 0 0) := (hX.cell 74).trans rfl
  have cl := hX.lt
  clear hX
  go_enter Try.func30, Try.ntmps30
  go_wp2_with fail
  go_loopw [3] (fun x wr => x = .int .i64 0 ∧ wr = w) (fun _ _ => 0)
  case atStart => exact ⟨rfl, rfl⟩
  case round =>
    obtain ⟨rfl, rfl⟩ := hrel
    go_wp2_with fail
    go_loopw [4] (fun x wq => x = .int .i64 0 ∧ wq = wr) (fun _ _ => 0)
    case atStart => exact ⟨rfl, rfl⟩
    case round =>
      obtain ⟨rfl, rfl⟩ := hrel
      go_wp2
      exact bodyPost_ret (v := .bool true) (by simp [results, Try.results30, go_sem]) rfl (⟨rfl, rfl⟩)
set_option maxHeartbeats 1000000 in
theorem holdRows_nil (kb : Nat) (o t wt nt mk lf : Value) (sn : Int) (w : World) (hX : Box w kb (ybC o t wt nt mk lf sn) 48) :
    Calls Try.prog 31 #[.pointer (some ⟨kb, 0, none⟩)] w fun e w' => e = .returned (.bool true) ∧ w' = w := by
  have c0 : w.cell? ⟨kb, 79, none⟩ = some (.slice none 0 0) := (hX.cell 79).trans rfl
  have c1 : w.cell? ⟨kb, 81, none⟩ = some (.slice none 0 0) := (hX.cell 81).trans rfl
  have cl := hX.lt
  clear hX
  go_enter Try.func31, Try.ntmps31
  go_wp2_with fail
  go_loopw [3] (fun x wr => x = .int .i64 0 ∧ wr = w) (fun _ _ => 0)
  case atStart => exact ⟨rfl, rfl⟩
  case round =>
    obtain ⟨rfl, rfl⟩ := hrel
    go_wp2_with fail
    go_loopw [4] (fun x wq => x = .int .i64 0 ∧ wq = wr) (fun _ _ => 0)
    case atStart => exact ⟨rfl, rfl⟩
    case round =>
      obtain ⟨rfl, rfl⟩ := hrel
      go_wp2
      exact bodyPost_ret (v := .bool true) (by simp [results, Try.results31, go_sem]) rfl (⟨rfl, rfl⟩)
set_option maxHeartbeats 1000000 in
theorem holdTrails_nil (kb : Nat) (o t wt nt mk lf : Value) (sn : Int) (w : World) (hX : Box w kb (ybC o t wt nt mk lf sn) 48) :
    Calls Try.prog 32 #[.pointer (some ⟨kb, 0, none⟩)] w fun e w' => e = .returned (.bool true) ∧ w' = w := by
  have c0 : w.cell? ⟨kb, 86, none⟩ = some (.slice none 0 0) := (hX.cell 86).trans rfl
  have c1 : w.cell? ⟨kb, 88, none⟩ = some (.slice none 0 0) := (hX.cell 88).trans rfl
  have cl := hX.lt
  clear hX
  go_enter Try.func32, Try.ntmps32
  go_wp2_with fail
  go_loopw [3] (fun x wr => x = .int .i64 0 ∧ wr = w) (fun _ _ => 0)
  case atStart => exact ⟨rfl, rfl⟩
  case round =>
    obtain ⟨rfl, rfl⟩ := hrel
    go_wp2_with fail
    go_loopw [4] (fun x wq => x = .int .i64 0 ∧ wq = wr) (fun _ _ => 0)
    case atStart => exact ⟨rfl, rfl⟩
    case round =>
      obtain ⟨rfl, rfl⟩ := hrel
      go_wp2
      exact bodyPost_ret (v := .bool true) (by simp [results, Try.results32, go_sem]) rfl (⟨rfl, rfl⟩)
set_option maxHeartbeats 1000000 in
theorem holdParts_nil (kb : Nat) (o t wt nt mk lf : Value) (sn : Int) (w : World) (hX : Box w kb (ybC o t wt nt mk lf sn) 48) :
    Calls Try.prog 33 #[.pointer (some ⟨kb, 0, none⟩)] w fun e w' => e = .returned (.bool true) ∧ w' = w := by
  have c0 : w.cell? ⟨kb, 93, none⟩ = some (.slice none 0 0) := (hX.cell 93).trans rfl
  have c1 : w.cell? ⟨kb, 95, none⟩ = some (.slice none 0 0) := (hX.cell 95).trans rfl
  have cl := hX.lt
  clear hX
  go_enter Try.func33, Try.ntmps33
  go_wp2_with fail
  go_loopw [3] (fun x wr => x = .int .i64 0 ∧ wr = w) (fun _ _ => 0)
  case atStart => exact ⟨rfl, rfl⟩
  case round =>
    obtain ⟨rfl, rfl⟩ := hrel
    go_wp2_with fail
    go_loopw [4] (fun x wq => x = .int .i64 0 ∧ wq = wr) (fun _ _ => 0)
    case atStart => exact ⟨rfl, rfl⟩
    case round =>
      obtain ⟨rfl, rfl⟩ := hrel
      go_wp2
      exact bodyPost_ret (v := .bool true) (by simp [results, Try.results33, go_sem]) rfl (⟨rfl, rfl⟩)
set_option maxHeartbeats 1000000 in
theorem holdFlights_nil (kb : Nat) (o t wt nt mk lf : Value) (sn : Int) (w : World) (hX : Box w kb (ybC o t wt nt mk lf sn) 48) :
    Calls Try.prog 34 #[.pointer (some ⟨kb, 0, none⟩)] w fun e w' => e = .returned (.bool true) ∧ w' = w := by
  have c0 : w.cell? ⟨kb, 100, none⟩ = some (.slice none 0 0) := (hX.cell 100).trans rfl
  have c1 : w.cell? ⟨kb, 102, none⟩ = some (.slice none 0 0) := (hX.cell 102).trans rfl
  have cl := hX.lt
  clear hX
  go_enter Try.func34, Try.ntmps34
  go_wp2_with fail
  go_loopw [3] (fun x wr => x = .int .i64 0 ∧ wr = w) (fun _ _ => 0)
  case atStart => exact ⟨rfl, rfl⟩
  case round =>
    obtain ⟨rfl, rfl⟩ := hrel
    go_wp2_with fail
    go_loopw [4] (fun x wq => x = .int .i64 0 ∧ wq = wr) (fun _ _ => 0)
    case atStart => exact ⟨rfl, rfl⟩
    case round =>
      obtain ⟨rfl, rfl⟩ := hrel
      go_wp2
      exact bodyPost_ret (v := .bool true) (by simp [results, Try.results34, go_sem]) rfl (⟨rfl, rfl⟩)
end Go.Proofs.Ytbeibhmbaofjhaa
