import Derived.Test.YtehmifdgfgngdacDoorRAny
import Derived.Test.YtehmifdgfgngdacDoorScanAny
namespace Go.Proofs.YtehmifdgfgngdacDoor
open Go.RowKit
set_option maxRecDepth 8000

set_option maxHeartbeats 400000 in
theorem rscan_none (p : Option Addr) (c : Nat) (w : World) :
    Calls Tryd.prog 30 #[.slice p 0 c] w fun e w' => e = .returned (.tuple #[.slice none 0 0, .int .i64 0, .int .i64 0]) ∧ w' = w := by
  go_enter Tryd.func30, Tryd.ntmps30
  go_wp2
  refine wp_loop_rounds 1 ?_
  rw [rounds_succ]
  go_wp2
  go_ret3
  exact ⟨rfl, rfl⟩

set_option maxHeartbeats 1000000 in
theorem rscan_pos (b o n c : Nat) (zs : List Int) (w : World) (hn : zs.length = n) (hB : Bytes w (some ⟨b, o, none⟩) zs) (hc : n ≤ c) (hnm : n ≤ 1000000000) :
    Calls Tryd.prog 30 #[.slice (some ⟨b, o, none⟩) n c] w fun e w' => ∃ v vs, e = .returned (.tuple #[v, .int .i64 (scanP zs : Nat), .int .i64 (scanE zs : Nat)]) ∧ OwnL w.heap.size w' v vs (scanL zs) ∧ Below w.heap.size w w' := by
  have HU : Hid (∀ W pos, Below w.heap.size w W → pos < n → Calls Tryd.prog 25 #[.slice (some ⟨b, o + pos, none⟩) (n - pos) (c - pos)] W fun e w' => ∃ a c', e = .returned (.tuple #[.slice a (unw (zs.drop pos)).2.length c', .int .i64 (unwSize (zs.drop pos) : Nat), .int .i64 ((unw (zs.drop pos)).1 : Nat)]) ∧ OwnB W.heap.size w' a c' (unw (zs.drop pos)).2 ∧ Below W.heap.size W w') :=
    fun W pos hW hp => runwrap_any _ (n - pos) (c - pos) (zs.drop pos) W (by simp [hn]) (drop_bytes (hB.later hW) pos) (by omega)
  obtain ⟨i0, hi, hz0, hz1, hz2⟩ := info_parts infoB
  clear hB
  go_enter Tryd.func30, Tryd.ntmps30
  go_wp2
  go_loopw [5, 6] (fun v pp wr => ∃ (k : Nat) (pos : Nat) (vs : List (Option Addr × Nat)) (zss : List (List Int)), Hid (scanN zs k = (zss, pos)) ∧ Hid (zss.length = k) ∧ 8 * k ≤ pos ∧ pos ≤ n ∧ pp = .int .i64 (pos : Int) ∧ OwnL w.heap.size wr v vs zss ∧ Below w.heap.size w wr) (fun _ pp _ => n - (intOf pp).toNat)
  case atStart => exact ⟨0, 0, [], [], rfl, rfl, by omega, by omega, rfl, OwnL.nil _ _, Below.refl _ _⟩
  case round =>
    obtain ⟨k, pos, vs, zss, HS, HK, hk8, hpn, rfl, hL, hbel⟩ := hrel
    by_cases hlt : pos < n
    · obtain ⟨body, hbd⟩ : ∃ body, body = (unw (zs.drop pos)).2 := ⟨_, rfl⟩
      obtain ⟨err, her⟩ : ∃ err, err = (unw (zs.drop pos)).1 := ⟨_, rfl⟩
      obtain ⟨sz, hsz⟩ : ∃ sz, sz = unwSize (zs.drop pos) := ⟨_, rfl⟩
      have HU1 : Hid (Calls Tryd.prog 25 #[.slice (some ⟨b, o + pos, none⟩) (n - pos) (c - pos)] wr fun e w' => ∃ a c', e = .returned (.tuple #[.slice a body.length c', .int .i64 (sz : Nat), .int .i64 (err : Nat)]) ∧ OwnB wr.heap.size w' a c' body ∧ Below wr.heap.size wr w') := by
        have h := HU.out wr pos hbel hlt
        rw [← hbd, ← her, ← hsz] at h
        exact h
      have hsl : (c = pos) = False := by simp; omega
      have hex : err ≤ 13 := by rw [her]; exact unw_num _
      by_cases h0 : err = 0
      · have hfit := unw_fit (zs.drop pos) (by rw [← her]; exact h0)
        rw [← hbd, List.length_drop, hn] at hfit
        have hsz2 : sz = body.length + 8 := by rw [hsz]; unfold unwSize; rw [← her, if_pos h0, ← hbd]
        have HN : Hid (scanN zs (k + 1) = (zss ++ [body], pos + sz)) := by
          have hg := scanN_go (zs := zs) (k := k) (by rw [HS.out, hn]; exact hlt) (by rw [HS.out, ← her]; exact h0)
          rw [HS.out] at hg
          show _ = _
          rw [hg, hsz2, hbd]
          rfl
        have HK2 : Hid ((zss ++ [body]).length = k + 1) := by show _ = _; rw [List.length_append, HK.out]; rfl
        have hzl : zss.length ≤ 125000000 := by rw [HK.out]; omega
        subst h0
        have hs8 : 8 ≤ sz := by omega
        have hsn : pos + sz ≤ n := by omega
        clear her hsz hbd HS HK hsz2 hfit
        go_wp2_with (first
          | (go_at_call 25; refine HU1.out.mono ?_; rintro e w1 ⟨a1, c1, rfl, hO1, hb1⟩; have hL1 := hL.below hb1; have hO1' := hO1.mono hbel.size; have hbw1 := hbel.trans (hb1.mono hbel.size); have hsw1 := hbw1.size)
          | (at_builtin; refine wpList_append_own _ rfl (.tmp 27) (.tmp 29) 30 rfl w.heap.size 24 i0 (.slice none 0 0) 1 24 Tryd.underlying30 hi hz0 hz1 hz2 rfl (by decide) _ _ _ rfl (hL1.own.alloc _) ⟨w1.heap.size, 0, none⟩ 1 1 [.slice a1 body.length c1] rfl rfl (cell_one_new _ _ _) (fun x hx => by simp at hx; subst hx; rfl) (by unfold maxLen; omega) (by omega) (by simp; omega) ?_; intro v' w3 hown' hgrow3 hnil3))
        have hL3 : OwnL w.heap.size w3 v' (vs ++ [(a1, c1)]) (zss ++ [body]) := OwnL.snoc (x := (a1, c1)) (hL1.below ((Below.refl _ _).alloc (Nat.le_refl _) _)) (hO1'.below ((Below.refl _ _).alloc (Nat.le_refl _) _)) hown' hgrow3
        have hb3 : Below w.heap.size w w3 := (hbw1.alloc hsw1 _).grown hgrow3 (by simp; omega) (fun g hg => (hL1.own.lt g hg).1)
        clear hown' hgrow3 hnil3 hL1 hO1' hO1 hL hbw1 hb1
        go_wp2
        go_roundw
        case rel => exact ⟨k + 1, pos + sz, vs ++ [(a1, c1)], zss ++ [body], HN, HK2, by omega, by omega, by go_num, hL3, hb3⟩
        case measure => simp [intOf]; omega
      · have hne : ((err : Int) != 0) = true := by rw [bne_iff_ne]; omega
        have HE : Hid (scanL zs = zss ∧ scanP zs = pos ∧ scanE zs = err) := by
          have hx := scanN_end (zs := zs) (k := k) (by omega) (by rw [HS.out, ← her]; exact fun h => h0 h.2)
          rw [HS.out] at hx
          refine ⟨hx.1, hx.2, ?_⟩
          unfold scanE
          rw [hx.2, if_pos (by rw [hn]; exact hlt), ← her]
        clear her hsz hbd HS HK
        go_wp2_with (first
          | (go_at_call 25; refine HU1.out.mono ?_; rintro e w1 ⟨a1, c1, rfl, hO1, hb1⟩; have hL1 := hL.below hb1; have hbw1 := hbel.trans (hb1.mono hbel.size)))
        go_ret3
        refine ⟨u5, vs, ?_, ?_, hbw1⟩
        · rw [HE.out.2.1, HE.out.2.2]; rfl
        · rw [HE.out.1]; exact hL1
    · obtain rfl : pos = n := by omega
      have HE : Hid (scanL zs = zss ∧ scanP zs = pos ∧ scanE zs = 0) := by
        have hx := scanN_end (zs := zs) (k := k) (by omega) (by rw [HS.out, hn]; exact fun h => hlt h.1)
        rw [HS.out] at hx
        refine ⟨hx.1, hx.2, ?_⟩
        unfold scanE
        rw [hx.2, if_neg (by rw [hn]; exact hlt)]
      clear HS HK HU
      go_wp2_with fail
      go_ret3
      refine ⟨u5, vs, ?_, ?_, hbel⟩
      · rw [HE.out.2.1, HE.out.2.2]; rfl
      · rw [HE.out.1]; exact hL

theorem rscan_any (p : Option Addr) (n c : Nat) (zs : List Int) (w : World) (hn : zs.length = n) (hB : Bytes w p zs) (hc : n ≤ c) (hnm : n ≤ 1000000000) :
    Calls Tryd.prog 30 #[.slice p n c] w fun e w' => ∃ q c' vs, e = .returned (.tuple #[.slice q (scanL zs).length c', .int .i64 (scanP zs : Nat), .int .i64 (scanE zs : Nat)]) ∧ OwnL w.heap.size w' (.slice q (scanL zs).length c') vs (scanL zs) ∧ Below w.heap.size w w' := by
  by_cases h0 : n = 0
  · subst h0
    obtain rfl : zs = [] := List.eq_nil_of_length_eq_zero hn
    have e1 : scanL [] = [] := rfl
    have e2 : scanP [] = 0 := rfl
    have e3 : scanE [] = 0 := rfl
    refine (rscan_none p c w).mono ?_
    rintro e w' ⟨rfl, rfl⟩
    rw [e1, e2, e3]
    exact ⟨none, 0, [], rfl, OwnL.nil _ _, Below.refl _ _⟩
  · obtain ⟨b, o, rfl, _, _⟩ := hB.at_ (by omega)
    refine (rscan_pos b o n c zs w hn hB hc hnm).mono ?_
    rintro e w' ⟨v, vs, rfl, hL, hb⟩
    obtain ⟨q, c', rfl, _⟩ := hL.view
    exact ⟨q, c', vs, rfl, hL, hb⟩

end Go.Proofs.YtehmifdgfgngdacDoor
