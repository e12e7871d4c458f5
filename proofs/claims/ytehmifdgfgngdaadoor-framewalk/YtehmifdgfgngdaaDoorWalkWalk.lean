import Derived.Test.YtehmifdgfgngdaaDoorScanAny
namespace Go.Proofs.YtehmifdgfgngdaaDoor
open Go.RowKit

set_option maxHeartbeats 400000 in
theorem walk_long (pa : Option Addr) (na ca : Nat) (w : World) (ha : na ≤ 140737488355328) (hl : 131072 < na) :
    Calls Tryd.prog 6 #[.slice pa na ca] w fun e w' => e = .returned (.bool true) ∧ Below w.heap.size w w' := by
  go_enter Tryd.func6, Tryd.ntmps6
  go_wp2_with fail
  go_ret
  exact ⟨rfl, Below.refl _ _⟩

set_option maxHeartbeats 400000 in
theorem walk_none (pa : Option Addr) (ca : Nat) (w : World) (hT : Tab w) :
    Calls Tryd.prog 6 #[.slice pa 0 ca] w fun e w' => e = .returned (.bool true) ∧ Below w.heap.size w w' := by
  go_enter Tryd.func6, Tryd.ntmps6
  go_wp2_with (first | (go_at_call 18; refine (unwraps_any w hT).mono ?_; rintro e w1 ⟨rfl, hb1⟩) | (go_at_call 19; refine (scan_none pa ca _).mono ?_; rintro e w2 ⟨rfl, rfl⟩))
  refine wp_loop_rounds 1 ?_
  rw [rounds_succ]
  go_wp2_with (first | (go_at_call 15; refine (num_any _ _).mono ?_; rintro e w' ⟨rfl, rfl⟩))
  go_ret
  exact ⟨rfl, hb1⟩

set_option maxHeartbeats 1000000 in
theorem walk_pos (b o n c : Nat) (zs : List Int) (w : World) (hn : zs.length = n) (hB : Bytes w (some ⟨b, o, none⟩) zs) (hc : n ≤ c) (hnm : n ≤ 131072) (hT : Tab w) :
    Calls Tryd.prog 6 #[.slice (some ⟨b, o, none⟩) n c] w fun e w' => e = .returned (.bool true) ∧ Below w.heap.size w w' := by
  have HU : Hid (∀ W pos, Below w.heap.size w W → pos < n → Calls Tryd.prog 20 #[.slice (some ⟨b, o + pos, none⟩) (n - pos) (c - pos)] W fun e w' => ∃ a c', e = .returned (.tuple #[.slice a (unw (zs.drop pos)).2.length c', .int .i64 (unwSize (zs.drop pos) : Nat), .int .i64 ((unw (zs.drop pos)).1 : Nat)]) ∧ OwnB W.heap.size w' a c' (unw (zs.drop pos)).2 ∧ Below W.heap.size W w') :=
    fun W pos hW hp => unwrap_any _ (n - pos) (c - pos) (zs.drop pos) W (by simp [hn]) (drop_bytes (hB.later hW) pos) (by omega) (by omega) (hT.later hW)
  have HSc : Hid (∀ W, Below w.heap.size w W → Calls Tryd.prog 19 #[.slice (some ⟨b, o, none⟩) n c] W fun e w' => ∃ q c' vs, e = .returned (.tuple #[.slice q (scanL zs).length c', .int .i64 (scanP zs : Nat), .int .i64 (scanE zs : Nat)]) ∧ OwnL W.heap.size w' (.slice q (scanL zs).length c') vs (scanL zs) ∧ Below W.heap.size W w') :=
    fun W hW => scan_any _ n c zs W hn (hB.later hW) hc (by omega) (hT.later hW)
  have HW : Hid (Calls Tryd.prog 18 #[] w fun e w' => e = .returned (.bool true) ∧ Below w.heap.size w w') := unwraps_any w hT
  clear hB hT
  go_enter Tryd.func6, Tryd.ntmps6
  go_wp2_with (first | (go_at_call 18; refine HW.out.mono ?_; rintro e w1 ⟨rfl, hb1⟩) | (go_at_call 19; refine (HSc.out w1 hb1).mono ?_; rintro e w2 ⟨q, c2, vs, rfl, hL, hb2⟩))
  have hb2w : Below w.heap.size w w2 := hb1.trans (hb2.mono hb1.size)
  clear HSc HW
  obtain ⟨_, _, he, _, _, hcells⟩ := hL.view
  simp only [Value.slice.injEq, true_and] at he
  obtain ⟨rfl, rfl⟩ := he
  obtain ⟨len, hlen⟩ : ∃ len, len = (scanL zs).length := ⟨_, rfl⟩
  obtain ⟨good, hgood⟩ : ∃ good, good = scanP zs := ⟨_, rfl⟩
  obtain ⟨err, herr⟩ : ∃ err, err = scanE zs := ⟨_, rfl⟩
  rw [← hlen, ← hgood, ← herr]
  have HR : Hid (len = (scanL zs).length ∧ good = scanP zs ∧ err = scanE zs) := ⟨hlen, hgood, herr⟩
  clear hlen hgood herr
  go_loopw [6, 7] (fun pp kk wr => ∃ (k : Nat) (pos : Nat) (zss : List (List Int)), Hid (scanN zs k = (zss, pos)) ∧ Hid (zss.length = k) ∧ 8 * k ≤ pos ∧ pos ≤ n ∧ pp = .int .i64 (pos : Int) ∧ kk = .int .i64 (k : Int) ∧ Below w2.heap.size w2 wr) (fun pp _ _ => n - (intOf pp).toNat)
  case atStart => exact ⟨0, 0, [], rfl, rfl, by omega, by omega, rfl, rfl, Below.refl _ _⟩
  case round =>
    obtain ⟨k, pos, zss, HS, HK, hk8, hpn, rfl, rfl, hbel⟩ := hrel
    have hbelw : Below w.heap.size w wr := hb2w.trans (hbel.mono hb2w.size)
    by_cases hlt : pos < n
    · obtain ⟨body, hbd⟩ : ∃ body, body = (unw (zs.drop pos)).2 := ⟨_, rfl⟩
      obtain ⟨ef, hef⟩ : ∃ ef, ef = (unw (zs.drop pos)).1 := ⟨_, rfl⟩
      obtain ⟨sz, hsz⟩ : ∃ sz, sz = unwSize (zs.drop pos) := ⟨_, rfl⟩
      have HU1 : Hid (Calls Tryd.prog 20 #[.slice (some ⟨b, o + pos, none⟩) (n - pos) (c - pos)] wr fun e w' => ∃ a c', e = .returned (.tuple #[.slice a body.length c', .int .i64 (sz : Nat), .int .i64 (ef : Nat)]) ∧ OwnB wr.heap.size w' a c' body ∧ Below wr.heap.size wr w') := by
        have h := HU.out wr pos hbelw hlt
        rw [← hbd, ← hef, ← hsz] at h
        exact h
      have hsl : (c = pos) = False := by simp; omega
      have hex : ef ≤ 13 := by rw [hef]; exact unw_num _
      by_cases h0 : ef = 0
      · have hfit := unw_fit (zs.drop pos) (by rw [← hef]; exact h0)
        rw [← hbd, List.length_drop, hn] at hfit
        have hsz2 : sz = body.length + 8 := by rw [hsz]; unfold unwSize; rw [← hef, if_pos h0, ← hbd]
        have HN : Hid (scanN zs (k + 1) = (zss ++ [body], pos + sz)) := by
          have hg := scanN_go (zs := zs) (k := k) (by rw [HS.out, hn]; exact hlt) (by rw [HS.out, ← hef]; exact h0)
          rw [HS.out] at hg
          show _ = _
          rw [hg, hsz2, hbd]
          rfl
        have HK2 : Hid ((zss ++ [body]).length = k + 1) := by show _ = _; rw [List.length_append, HK.out]; rfl
        have hat := scanL_at (by omega) HN.out HK.out
        have hkl : k < len := by rw [HR.out.1]; exact hat.1
        obtain ⟨g, hq, hgl, hcell⟩ := hcells k hat.1
        cases hq
        have hsm := hL.bytes k hat.1
        rw [hat.2] at hcell hsm
        generalize (vs.getD k (none, 0)).1 = ga at *
        generalize (vs.getD k (none, 0)).2 = gc at *
        have hcr : wr.cell? ⟨g, k, none⟩ = some (.slice ga body.length gc) := (hbel.cell (p := ⟨g, k, none⟩) hgl).trans hcell
        have HSm : Hid (∀ W a1 c1, Below wr.heap.size wr W → OwnB wr.heap.size W a1 c1 body → Calls Tryd.prog 21 #[.slice ga body.length gc, .slice a1 body.length c1] W fun e w' => e = .returned (.bool true) ∧ Below W.heap.size W w') := by
          intro W a1 c1 hW hO
          have h := same_any ga a1 body.length gc body.length c1 body body W rfl rfl ((hsm.later hbel).later hW) hO.bytes (by omega)
          rw [decide_eq_true rfl] at h
          exact h
        subst h0
        have hs8 : 8 ≤ sz := by omega
        have hsn : pos + sz ≤ n := by omega
        have hgw : g < wr.heap.size := Nat.lt_of_lt_of_le hgl hbel.size
        clear hef hsz hbd HS HK hsz2 hfit hat hcells hsm hcell hL hex HR
        go_wp2_with (first
          | (go_at_call 20; refine HU1.out.mono ?_; rintro e w3 ⟨a1, c1, rfl, hO1, hb3⟩; have hc3 := (hb3.cell (p := ⟨g, k, none⟩) hgw).trans hcr)
          | (go_at_call 15; refine (num_any _ _).mono ?_; rintro e wn ⟨rfl, rfl⟩)
          | (go_at_call 21; refine (HSm.out _ a1 c1 hb3 hO1).mono ?_; rintro e w4 ⟨rfl, hb4⟩))
        go_roundw
        case rel => exact ⟨k + 1, pos + sz, zss ++ [body], HN, HK2, by omega, by omega, by go_num, by go_num, (hbel.trans (hb3.mono hbel.size)).trans (hb4.mono (Nat.le_trans hbel.size hb3.size))⟩
        case measure => simp [intOf]; omega
      · have hne : ((ef : Int) != 0) = true := by rw [bne_iff_ne]; omega
        have hx := scanN_end (zs := zs) (k := k) (by omega) (by rw [HS.out, ← hef]; exact fun h => h0 h.2)
        rw [HS.out] at hx
        have h1 : len = k := by rw [HR.out.1, hx.1]; exact HK.out
        have h2 : good = pos := by rw [HR.out.2.1, hx.2]
        have h3 : err = ef := by
          rw [HR.out.2.2]; unfold scanE
          rw [hx.2, if_pos (by rw [hn]; exact hlt), ← hef]
        clear HR HS HK hx hef hsz hbd hcells hL
        subst h1 h2 h3
        go_wp2_with (first
          | (go_at_call 20; refine HU1.out.mono ?_; rintro e w3 ⟨a1, c1, rfl, hO1, hb3⟩)
          | (go_at_call 15; refine (num_any _ _).mono ?_; rintro e wn ⟨rfl, rfl⟩))
        go_ret
        exact ⟨rfl, hbelw.trans (hb3.mono hbelw.size)⟩
    · obtain rfl : pos = n := by omega
      have hx := scanN_end (zs := zs) (k := k) (by omega) (by rw [HS.out, hn]; exact fun h => hlt h.1)
      rw [HS.out] at hx
      have h1 : len = k := by rw [HR.out.1, hx.1]; exact HK.out
      have h2 : good = pos := by rw [HR.out.2.1, hx.2]
      have h3 : err = 0 := by
        rw [HR.out.2.2]; unfold scanE
        rw [hx.2, if_neg (by rw [hn]; exact hlt)]
      clear HR HS HK hx hcells hL HU
      subst h1 h2 h3
      go_wp2_with (first
        | (go_at_call 15; refine (num_any _ _).mono ?_; rintro e wn ⟨rfl, rfl⟩))
      go_ret
      exact ⟨rfl, hbelw⟩
end Go.Proofs.YtehmifdgfgngdaaDoor
