import Derived.Test.YtehmifdgfgngdacDoorUnwSum
import Derived.Test.YtehmifdgfgngdacDoorUnwOk
namespace Go.Proofs.YtehmifdgfgngdacDoor
open Go.RowKit
set_option maxRecDepth 8000

/-- what Unwrap answers: the error's number, and the body -/
def unw (zs : List Int) : Nat × List Int :=
  if zs.length < 4 then (11, [])
  else if zs.take 4 = hd ((zs.getD 0 0).toNat + 256 * (zs.getD 1 0).toNat) ∧ (zs.getD 0 0).toNat + 256 * (zs.getD 1 0).toNat ≤ 32768 then
    if zs.length < (zs.getD 0 0).toNat + 256 * (zs.getD 1 0).toNat + 8 then (11, [])
    else if (zs.drop (4 + ((zs.getD 0 0).toNat + 256 * (zs.getD 1 0).toNat))).take 4 = tl (Crc.add 0 ((zs.drop 4).take ((zs.getD 0 0).toNat + 256 * (zs.getD 1 0).toNat))) then (0, (zs.drop 4).take ((zs.getD 0 0).toNat + 256 * (zs.getD 1 0).toNat))
    else (13, [])
  else (12, [])
def unwSize (zs : List Int) : Nat := if (unw zs).1 = 0 then (unw zs).2.length + 8 else 0
/-- what Exact answers -/
def exa (zs : List Int) : Nat × List Int :=
  if (unw zs).1 = 0 then (if (unw zs).2.length + 8 < zs.length then (14, []) else (0, (unw zs).2)) else ((unw zs).1, [])

theorem hd_len {zs : List Int} {m : Nat} (hm : m ≤ 65535) (h : zs.take 4 = hd m) (hl : 4 ≤ zs.length) : (zs.getD 0 0).toNat + 256 * (zs.getD 1 0).toNat = m := by
  rw [take4 zs hl] at h
  simp only [hd, List.cons.injEq, and_true] at h
  omega

theorem unw_short {zs : List Int} (h : zs.length < 4) : unw zs = (11, []) := by unfold unw; rw [if_pos h]
theorem unw_bad {zs : List Int} (h : 4 ≤ zs.length) (hh : ∀ m, m ≤ 32768 → zs.take 4 ≠ hd m) : unw zs = (12, []) := by
  unfold unw
  rw [if_neg (by omega), if_neg (fun hx => hh _ hx.2 hx.1)]
theorem unw_cut {zs : List Int} {m : Nat} (hl : 4 ≤ zs.length) (hm : m ≤ 32768) (hh : zs.take 4 = hd m) (hs : zs.length < m + 8) : unw zs = (11, []) := by
  unfold unw
  rw [if_neg (by omega), hd_len (by omega) hh hl, if_pos ⟨hh, hm⟩, if_pos hs]
theorem unw_sum {zs : List Int} {m : Nat} (hm : m ≤ 32768) (hh : zs.take 4 = hd m) (hs : m + 8 ≤ zs.length) (ht : (zs.drop (4 + m)).take 4 ≠ tl (Crc.add 0 ((zs.drop 4).take m))) : unw zs = (13, []) := by
  unfold unw
  rw [if_neg (by omega), hd_len (by omega) hh (by omega), if_pos ⟨hh, hm⟩, if_neg (by omega), if_neg ht]
theorem unw_ok {zs : List Int} {m : Nat} (hm : m ≤ 32768) (hh : zs.take 4 = hd m) (hs : m + 8 ≤ zs.length) (ht : (zs.drop (4 + m)).take 4 = tl (Crc.add 0 ((zs.drop 4).take m))) : unw zs = (0, (zs.drop 4).take m) := by
  unfold unw
  rw [if_neg (by omega), hd_len (by omega) hh (by omega), if_pos ⟨hh, hm⟩, if_neg (by omega), if_pos ht]

/-- one of five things -/
theorem unw_cases (zs : List Int) : (zs.length < 4) ∨ (4 ≤ zs.length ∧ ∀ m, m ≤ 32768 → zs.take 4 ≠ hd m) ∨ (∃ m, 4 ≤ zs.length ∧ m ≤ 32768 ∧ zs.take 4 = hd m ∧ zs.length < m + 8) ∨
    (∃ m, m ≤ 32768 ∧ zs.take 4 = hd m ∧ m + 8 ≤ zs.length ∧ (zs.drop (4 + m)).take 4 ≠ tl (Crc.add 0 ((zs.drop 4).take m))) ∨
    (∃ m, m ≤ 32768 ∧ zs.take 4 = hd m ∧ m + 8 ≤ zs.length ∧ (zs.drop (4 + m)).take 4 = tl (Crc.add 0 ((zs.drop 4).take m))) := by
  by_cases h4 : zs.length < 4
  · exact .inl h4
  · by_cases hh : ∃ m, m ≤ 32768 ∧ zs.take 4 = hd m
    · obtain ⟨m, hm, hh⟩ := hh
      by_cases hs : zs.length < m + 8
      · exact .inr (.inr (.inl ⟨m, by omega, hm, hh, hs⟩))
      · by_cases ht : (zs.drop (4 + m)).take 4 = tl (Crc.add 0 ((zs.drop 4).take m))
        · exact .inr (.inr (.inr (.inr ⟨m, hm, hh, by omega, ht⟩)))
        · exact .inr (.inr (.inr (.inl ⟨m, hm, hh, by omega, ht⟩)))
    · exact .inr (.inl ⟨by omega, fun m hm he => hh ⟨m, hm, he⟩⟩)

theorem unw_fit (zs : List Int) (h : (unw zs).1 = 0) : (unw zs).2.length + 8 ≤ zs.length ∧ (unw zs).2.length ≤ 32768 := by
  rcases unw_cases zs with h1 | ⟨h1, h2⟩ | ⟨m, h1, h2, h3, h4⟩ | ⟨m, h1, h2, h3, h4⟩ | ⟨m, h1, h2, h3, h4⟩
  · rw [unw_short h1] at h; cases h
  · rw [unw_bad h1 h2] at h; cases h
  · rw [unw_cut h1 h2 h3 h4] at h; cases h
  · rw [unw_sum h1 h2 h3 h4] at h; cases h
  · rw [unw_ok h1 h2 h3 h4]; simp; omega
theorem unw_err (zs : List Int) (h : (unw zs).1 ≠ 0) : (unw zs).2 = [] := by
  rcases unw_cases zs with h1 | ⟨h1, h2⟩ | ⟨m, h1, h2, h3, h4⟩ | ⟨m, h1, h2, h3, h4⟩ | ⟨m, h1, h2, h3, h4⟩
  · rw [unw_short h1]
  · rw [unw_bad h1 h2]
  · rw [unw_cut h1 h2 h3 h4]
  · rw [unw_sum h1 h2 h3 h4]
  · rw [unw_ok h1 h2 h3 h4] at h; exact absurd rfl h
theorem unw_num (zs : List Int) : (unw zs).1 ≤ 13 := by
  rcases unw_cases zs with h1 | ⟨h1, h2⟩ | ⟨m, h1, h2, h3, h4⟩ | ⟨m, h1, h2, h3, h4⟩ | ⟨m, h1, h2, h3, h4⟩
  · rw [unw_short h1]; simp
  · rw [unw_bad h1 h2]; simp
  · rw [unw_cut h1 h2 h3 h4]; simp
  · rw [unw_sum h1 h2 h3 h4]; simp
  · rw [unw_ok h1 h2 h3 h4]; simp

theorem own_none (base : Nat) (w : World) : OwnB base w none 0 [] := ⟨World.ownsRow_nil _ _ _ _, fun _ h => by cases h⟩

theorem unwrap_any (p : Option Addr) (n c : Nat) (zs : List Int) (w : World) (hn : zs.length = n) (hB : Bytes w p zs) (hc : n ≤ c) (hcm : n ≤ 140737488355328) (hT : Tab w) :
    Calls Tryd.prog 26 #[.slice p n c] w fun e w' => ∃ a c', e = .returned (.tuple #[.slice a (unw zs).2.length c', .int .i64 (unwSize zs : Nat), .int .i64 ((unw zs).1 : Nat)]) ∧ OwnB w.heap.size w' a c' (unw zs).2 ∧ Below w.heap.size w w' := by
  have err : ∀ (k : Nat), unw zs = (k, []) → k ≠ 0 → (Calls Tryd.prog 26 #[.slice p n c] w fun e w' => e = .returned (.tuple #[.slice none 0 0, .int .i64 0, .int .i64 (k : Nat)]) ∧ Below w.heap.size w w') →
      Calls Tryd.prog 26 #[.slice p n c] w fun e w' => ∃ a c', e = .returned (.tuple #[.slice a (unw zs).2.length c', .int .i64 (unwSize zs : Nat), .int .i64 ((unw zs).1 : Nat)]) ∧ OwnB w.heap.size w' a c' (unw zs).2 ∧ Below w.heap.size w w' := by
    intro k hk h0 h
    refine h.mono ?_
    rintro e w' ⟨rfl, hb⟩
    have hs : unwSize zs = 0 := by unfold unwSize; rw [hk]; exact if_neg h0
    rw [hs, hk]
    exact ⟨none, 0, rfl, own_none _ _, hb⟩
  rcases unw_cases zs with h1 | ⟨h1, h2⟩ | ⟨m, h1, h2, h3, h4⟩ | ⟨m, h1, h2, h3, h4⟩ | ⟨m, h1, h2, h3, h4⟩
  · exact err 11 (unw_short h1) (by omega) (unwrap_short p n c w (by omega))
  · exact err 12 (unw_bad h1 h2) (by omega) (unwrap_bad p n c zs w hn hB (by omega) (by omega) h2)
  · exact err 11 (unw_cut h1 h2 h3 h4) (by omega) (unwrap_cut p n c m zs w hn hB (by omega) (by omega) h2 h3)
  · obtain ⟨b, o, rfl, _, _⟩ := hB.at_ (by omega)
    exact err 13 (unw_sum h1 h2 h3 h4) (by omega) (unwrap_sum b o n c m zs w hn hB hc hcm (by omega) h1 h2 hT h4)
  · obtain ⟨b, o, rfl, _, _⟩ := hB.at_ (by omega)
    refine (unwrap_ok b o n c m zs w hn hB hc hcm (by omega) h1 h2 hT h4).mono ?_
    rintro e w' ⟨a, c', rfl, hO, hb⟩
    have hk := unw_ok h1 h2 h3 h4
    have hl : ((zs.drop 4).take m).length = m := by simp; omega
    have hs : unwSize zs = m + 8 := by unfold unwSize; rw [hk]; simp only [if_true, hl]
    rw [hs, hk]
    refine ⟨a, c', ?_, hO, hb⟩
    simp only [hl]
    rfl

set_option maxHeartbeats 400000 in
theorem num_any (e : Int) (w : World) : Calls Tryd.prog 24 #[.int .i64 e] w fun r w' => r = .returned (.int .i64 e) ∧ w' = w := by
  go_enter Tryd.func24, Tryd.ntmps24
  go_wp2
  go_ret
  exact ⟨rfl, rfl⟩

set_option maxHeartbeats 400000 in
theorem exact_core (p : Option Addr) (n c s k l : Nat) (zs : List Int) (w : World) (_hn : n ≤ 140737488355328) (hk : k ≤ 13) (_hs : s ≤ 140737488355328)
    (H : Hid (Calls Tryd.prog 26 #[.slice p n c] w fun e w' => ∃ a c', e = .returned (.tuple #[.slice a l c', .int .i64 (s : Nat), .int .i64 (k : Nat)]) ∧ OwnB w.heap.size w' a c' zs ∧ Below w.heap.size w w')) :
    Calls Tryd.prog 28 #[.slice p n c] w fun e w' => ((k ≠ 0 ∧ e = .returned (.tuple #[.slice none 0 0, .int .i64 (k : Nat)])) ∨ (k = 0 ∧ s < n ∧ e = .returned (.tuple #[.slice none 0 0, .int .i64 14])) ∨
      (k = 0 ∧ n ≤ s ∧ ∃ a c', e = .returned (.tuple #[.slice a l c', .int .i64 0]) ∧ OwnB w.heap.size w' a c' zs)) ∧ Below w.heap.size w w' := by
  by_cases h0 : k = 0
  · subst h0
    by_cases hl : s < n
    · go_enter Tryd.func28, Tryd.ntmps28
      go_wp2_with (go_at_call 26; refine H.out.mono ?_; rintro e w1 ⟨a, c', rfl, hO, hb⟩)
      go_ret2
      exact ⟨.inr (.inl ⟨trivial, hl, rfl⟩), hb⟩
    · go_enter Tryd.func28, Tryd.ntmps28
      go_wp2_with (go_at_call 26; refine H.out.mono ?_; rintro e w1 ⟨a, c', rfl, hO, hb⟩)
      go_ret2
      exact ⟨.inr (.inr ⟨trivial, by omega, _, _, rfl, hO⟩), hb⟩
  · have hne : ((k : Int) != 0) = true := by rw [bne_iff_ne]; omega
    go_enter Tryd.func28, Tryd.ntmps28
    go_wp2_with (go_at_call 26; refine H.out.mono ?_; rintro e w1 ⟨a, c', rfl, hO, hb⟩)
    go_ret2
    exact ⟨.inl ⟨h0, rfl⟩, hb⟩

theorem exact_any (p : Option Addr) (n c : Nat) (zs : List Int) (w : World) (hn : zs.length = n) (hB : Bytes w p zs) (hc : n ≤ c) (hcm : n ≤ 140737488355328) (hT : Tab w) :
    Calls Tryd.prog 28 #[.slice p n c] w fun e w' => ∃ a c', e = .returned (.tuple #[.slice a (exa zs).2.length c', .int .i64 ((exa zs).1 : Nat)]) ∧ OwnB w.heap.size w' a c' (exa zs).2 ∧ Below w.heap.size w w' := by
  have hsz : unwSize zs ≤ 140737488355328 := by
    unfold unwSize; split
    · have := unw_fit zs (by assumption); omega
    · omega
  refine (exact_core p n c (unwSize zs) (unw zs).1 (unw zs).2.length (unw zs).2 w (by omega) (unw_num zs) hsz (unwrap_any p n c zs w hn hB hc hcm hT)).mono ?_
  rintro e w' ⟨⟨hk, rfl⟩ | ⟨hk, hl, rfl⟩ | ⟨hk, hl, a, c', rfl, hO⟩, hb⟩
  · have he : exa zs = ((unw zs).1, []) := by unfold exa; rw [if_neg hk]
    rw [he]
    exact ⟨none, 0, rfl, own_none _ _, hb⟩
  · have hs : unwSize zs = (unw zs).2.length + 8 := by unfold unwSize; rw [if_pos hk]
    have he : exa zs = (14, []) := by unfold exa; rw [if_pos hk, if_pos (by omega)]
    rw [he]
    exact ⟨none, 0, rfl, own_none _ _, hb⟩
  · have hs : unwSize zs = (unw zs).2.length + 8 := by unfold unwSize; rw [if_pos hk]
    have he : exa zs = (0, (unw zs).2) := by unfold exa; rw [if_pos hk, if_neg (by omega)]
    rw [he]
    exact ⟨a, c', rfl, hO, hb⟩
end Go.Proofs.YtehmifdgfgngdacDoor
