import Derived.Test.YtehmifdgfgngdacDoorUnwAny
namespace Go.Proofs.YtehmifdgfgngdacDoor
open Go.RowKit
set_option maxRecDepth 8000

theorem infoB : (Tryd.prog.info? 24).map (fun i => (i.zero, i.size, i.bytes)) = some (some (.slice none 0 0), 1, 24) := by kernel_rfl

/-- what Scan has read behind k rounds: the bodies, and where it stands -/
def scanN (zs : List Int) : Nat → List (List Int) × Nat
  | 0 => ([], 0)
  | k + 1 => if (scanN zs k).2 < zs.length ∧ (unw (zs.drop (scanN zs k).2)).1 = 0 then ((scanN zs k).1 ++ [(unw (zs.drop (scanN zs k).2)).2], (scanN zs k).2 + (unw (zs.drop (scanN zs k).2)).2.length + 8) else scanN zs k
def scanL (zs : List Int) : List (List Int) := (scanN zs (zs.length + 1)).1
def scanP (zs : List Int) : Nat := (scanN zs (zs.length + 1)).2
def scanE (zs : List Int) : Nat := if scanP zs < zs.length then (unw (zs.drop (scanP zs))).1 else 0

theorem scanN_stuck {zs : List Int} {k : Nat} (h : ¬ ((scanN zs k).2 < zs.length ∧ (unw (zs.drop (scanN zs k).2)).1 = 0)) (j : Nat) : scanN zs (k + j) = scanN zs k := by
  induction j with
  | zero => rfl
  | succ j ih =>
    show (if (scanN zs (k + j)).2 < zs.length ∧ (unw (zs.drop (scanN zs (k + j)).2)).1 = 0 then _ else scanN zs (k + j)) = _
    rw [ih, if_neg h]
theorem scanN_go {zs : List Int} {k : Nat} (h1 : (scanN zs k).2 < zs.length) (h2 : (unw (zs.drop (scanN zs k).2)).1 = 0) :
    scanN zs (k + 1) = ((scanN zs k).1 ++ [(unw (zs.drop (scanN zs k).2)).2], (scanN zs k).2 + (unw (zs.drop (scanN zs k).2)).2.length + 8) := by
  show (if _ then _ else _) = _
  rw [if_pos ⟨h1, h2⟩]
theorem scanN_end {zs : List Int} {k : Nat} (hk : k ≤ zs.length) (h : ¬ ((scanN zs k).2 < zs.length ∧ (unw (zs.drop (scanN zs k).2)).1 = 0)) : scanL zs = (scanN zs k).1 ∧ scanP zs = (scanN zs k).2 := by
  have e := scanN_stuck h (zs.length + 1 - k)
  rw [show k + (zs.length + 1 - k) = zs.length + 1 by omega] at e
  exact ⟨by unfold scanL; rw [e], by unfold scanP; rw [e]⟩

/-- a slice's value -/
def slv (v : Option Addr × Nat) (zs : List Int) : Value := .slice v.1 zs.length v.2
/-- lists of bytes in a row of the call's own -/
structure OwnL (base : Nat) (w : World) (v : Value) (vs : List (Option Addr × Nat)) (zss : List (List Int)) : Prop where
  len : vs.length = zss.length
  own : w.ownsRow base 24 1 v zss.length (List.zipWith slv vs zss)
  each : ∀ i, i < zss.length → OwnB base w (vs.getD i (none, 0)).1 (vs.getD i (none, 0)).2 (zss.getD i [])

theorem OwnL.nil (base : Nat) (w : World) : OwnL base w (.slice none 0 0) [] [] := ⟨rfl, World.ownsRow_nil _ _ _ _, fun i h => absurd h (by simp)⟩

theorem OwnB.kept {base : Nat} {w w' : World} {p : Option Addr} {c : Nat} {zs : List Int} {row : Option Nat} (h : OwnB base w p c zs) (hg : w.grownBy w' row) (hr : ∀ g, row = some g → ∀ cur fr, w.heap[g]? ≠ some (.cells cur 5 fr)) : OwnB base w' p c zs := by
  refine ⟨h.own.kept hg ?_, h.byte⟩
  obtain ⟨_, ⟨hv, h0⟩ | ⟨g, cap, cur, hv, hb, hh, _⟩⟩ := h.own
  · left; rw [hv]; rfl
  · right
    rw [hv]
    intro e
    exact hr g e.symm _ _ hh
theorem OwnB.below {base : Nat} {w w' : World} {p : Option Addr} {c : Nat} {zs : List Int} (h : OwnB base w p c zs) (hb : Below w.heap.size w w') : OwnB base w' p c zs := by
  refine ⟨⟨h.own.1, ?_⟩, h.byte⟩
  obtain ⟨_, h1 | ⟨g, cap, cur, hv, hbg, hh, r⟩⟩ := h.own
  · exact .inl h1
  · have hlt : g < w.heap.size := by
      rcases Nat.lt_or_ge g w.heap.size with h1 | h1
      · exact h1
      · rw [Array.getElem?_eq_none h1] at hh; cases hh
    exact .inr ⟨g, cap, cur, hv, hbg, (hb.block g hlt).trans hh, r⟩
theorem OwnB.mono {base base' : Nat} {w : World} {p : Option Addr} {c : Nat} {zs : List Int} (h : OwnB base w p c zs) (hb : base' ≤ base) : OwnB base' w p c zs := by
  refine ⟨⟨h.own.1, ?_⟩, h.byte⟩
  obtain ⟨_, h1 | ⟨g, cap, cur, hv, hbg, r⟩⟩ := h.own
  · exact .inl h1
  · exact .inr ⟨g, cap, cur, hv, Nat.le_trans hb hbg, r⟩
theorem ownsRow_below {base : Nat} {e : TypeId} {size n : Nat} {w w' : World} {v : Value} {xs : List Value} (h : w.ownsRow base e size v n xs) (hb : Below w.heap.size w w') : w'.ownsRow base e size v n xs := by
  refine ⟨h.1, ?_⟩
  obtain ⟨_, h1 | ⟨g, cap, cur, hv, hbg, hh, r⟩⟩ := h
  · exact .inl h1
  · have hlt : g < w.heap.size := by
      rcases Nat.lt_or_ge g w.heap.size with h1 | h1
      · exact h1
      · rw [Array.getElem?_eq_none h1] at hh; cases hh
    exact .inr ⟨g, cap, cur, hv, hbg, (hb.block g hlt).trans hh, r⟩
theorem OwnL.below {base : Nat} {w w' : World} {v : Value} {vs : List (Option Addr × Nat)} {zss : List (List Int)} (h : OwnL base w v vs zss) (hb : Below w.heap.size w w') : OwnL base w' v vs zss :=
  ⟨h.len, ownsRow_below h.own hb, fun i hi => (h.each i hi).below hb⟩

theorem zip_snoc (vs : List (Option Addr × Nat)) (zss : List (List Int)) (x : Option Addr × Nat) (zs : List Int) (h : vs.length = zss.length) : List.zipWith slv (vs ++ [x]) (zss ++ [zs]) = List.zipWith slv vs zss ++ [slv x zs] := by
  rw [List.zipWith_append h]; rfl

/-- behind 'append(bodies, body)' -/
theorem OwnL.snoc {base : Nat} {w w' : World} {v v' : Value} {vs : List (Option Addr × Nat)} {zss : List (List Int)} {x : Option Addr × Nat} {zs : List Int} (h : OwnL base w v vs zss) (hx : OwnB base w x.1 x.2 zs)
    (ho : w'.ownsRow base 24 1 v' (zss.length + 1) (List.zipWith slv vs zss ++ [slv x zs])) (hg : w.grownBy w' v.ownBlock) : OwnL base w' v' (vs ++ [x]) (zss ++ [zs]) := by
  have hr : ∀ g, v.ownBlock = some g → ∀ cur fr, w.heap[g]? ≠ some (.cells cur 5 fr) := by
    intro g hgv cur fr he
    obtain ⟨_, ⟨hv, _⟩ | ⟨g', cap, cur', hv, _, hh, _⟩⟩ := h.own
    · rw [hv] at hgv; cases hgv
    · rw [hv] at hgv
      simp only [Value.ownBlock, Option.some.injEq] at hgv
      subst hgv
      rw [hh] at he
      simp at he
  refine ⟨by simp [h.len], ?_, fun i hi => ?_⟩
  · rw [zip_snoc vs zss x zs h.len, List.length_append]; exact ho
  · by_cases hlt : i < zss.length
    · have e1 : (vs ++ [x]).getD i (none, 0) = vs.getD i (none, 0) := by rw [List.getD_eq_getElem?_getD, List.getD_eq_getElem?_getD, List.getElem?_append_left (by rw [h.len]; exact hlt)]
      have e2 : (zss ++ [zs]).getD i [] = zss.getD i [] := by rw [List.getD_eq_getElem?_getD, List.getD_eq_getElem?_getD, List.getElem?_append_left hlt]
      rw [e1, e2]
      exact (h.each i hlt).kept hg hr
    · have hi' : i = zss.length := by simp at hi; omega
      subst hi'
      have e1 : (vs ++ [x]).getD zss.length (none, 0) = x := by rw [List.getD_eq_getElem?_getD, List.getElem?_append_right (by rw [h.len]; exact Nat.le_refl _), h.len]; simp
      have e2 : (zss ++ [zs]).getD zss.length [] = zs := by rw [List.getD_eq_getElem?_getD, List.getElem?_append_right (Nat.le_refl _)]; simp
      rw [e1, e2]
      exact hx.kept hg hr

theorem drop_bytes {w : World} {b o : Nat} {zs : List Int} (h : Bytes w (some ⟨b, o, none⟩) zs) (k : Nat) : Bytes w (some ⟨b, o + k, none⟩) (zs.drop k) := by
  refine ⟨fun hp => ?_, fun z hz => h.byte z (List.mem_of_mem_drop hz)⟩
  have hk : k < zs.length := by simp at hp; omega
  obtain ⟨_, _, hbo, hlt, hc⟩ := h.at_ (by omega)
  cases hbo
  refine ⟨b, o + k, rfl, hlt, fun i hi => ?_⟩
  have hi' : k + i < zs.length := by simp at hi; omega
  rw [show o + k + i = o + (k + i) by omega, hc (k + i) hi']
  simp [List.getD_eq_getElem?_getD, List.getElem?_drop]

set_option maxHeartbeats 400000 in
theorem scan_none (p : Option Addr) (c : Nat) (w : World) :
    Calls Tryd.prog 31 #[.slice p 0 c] w fun e w' => e = .returned (.tuple #[.slice none 0 0, .int .i64 0, .int .i64 0]) ∧ w' = w := by
  go_enter Tryd.func31, Tryd.ntmps31
  go_wp2
  refine wp_loop_rounds 1 ?_
  rw [rounds_succ]
  go_wp2
  go_ret3
  exact ⟨rfl, rfl⟩

set_option maxHeartbeats 1000000 in
theorem scan_pos (b o n c : Nat) (zs : List Int) (w : World) (hn : zs.length = n) (hB : Bytes w (some ⟨b, o, none⟩) zs) (hc : n ≤ c) (hnm : n ≤ 1000000000) (hT : Tab w) :
    Calls Tryd.prog 31 #[.slice (some ⟨b, o, none⟩) n c] w fun e w' => ∃ v vs, e = .returned (.tuple #[v, .int .i64 (scanP zs : Nat), .int .i64 (scanE zs : Nat)]) ∧ OwnL w.heap.size w' v vs (scanL zs) ∧ Below w.heap.size w w' := by
  have HU : Hid (∀ W pos, Below w.heap.size w W → pos < n → Calls Tryd.prog 26 #[.slice (some ⟨b, o + pos, none⟩) (n - pos) (c - pos)] W fun e w' => ∃ a c', e = .returned (.tuple #[.slice a (unw (zs.drop pos)).2.length c', .int .i64 (unwSize (zs.drop pos) : Nat), .int .i64 ((unw (zs.drop pos)).1 : Nat)]) ∧ OwnB W.heap.size w' a c' (unw (zs.drop pos)).2 ∧ Below W.heap.size W w') :=
    fun W pos hW hp => unwrap_any _ (n - pos) (c - pos) (zs.drop pos) W (by simp [hn]) (drop_bytes (hB.later hW) pos) (by omega) (by omega) (hT.later hW)
  obtain ⟨i0, hi, hz0, hz1, hz2⟩ := info_parts infoB
  clear hB hT
  go_enter Tryd.func31, Tryd.ntmps31
  go_wp2
  go_loopw [5, 6] (fun v pp wr => ∃ (k : Nat) (pos : Nat) (vs : List (Option Addr × Nat)) (zss : List (List Int)), Hid (scanN zs k = (zss, pos)) ∧ Hid (zss.length = k) ∧ 8 * k ≤ pos ∧ pos ≤ n ∧ pp = .int .i64 (pos : Int) ∧ OwnL w.heap.size wr v vs zss ∧ Below w.heap.size w wr) (fun _ pp _ => n - (intOf pp).toNat)
  case atStart => exact ⟨0, 0, [], [], rfl, rfl, by omega, by omega, rfl, OwnL.nil _ _, Below.refl _ _⟩
  case round =>
    obtain ⟨k, pos, vs, zss, HS, HK, hk8, hpn, rfl, hL, hbel⟩ := hrel
    by_cases hlt : pos < n
    · obtain ⟨body, hbd⟩ : ∃ body, body = (unw (zs.drop pos)).2 := ⟨_, rfl⟩
      obtain ⟨err, her⟩ : ∃ err, err = (unw (zs.drop pos)).1 := ⟨_, rfl⟩
      obtain ⟨sz, hsz⟩ : ∃ sz, sz = unwSize (zs.drop pos) := ⟨_, rfl⟩
      have HU1 : Hid (Calls Tryd.prog 26 #[.slice (some ⟨b, o + pos, none⟩) (n - pos) (c - pos)] wr fun e w' => ∃ a c', e = .returned (.tuple #[.slice a body.length c', .int .i64 (sz : Nat), .int .i64 (err : Nat)]) ∧ OwnB wr.heap.size w' a c' body ∧ Below wr.heap.size wr w') := by
        have h := HU.out wr pos hbel hlt
        rw [← hbd, ← her, ← hsz] at h
        exact h
      have hsl : (c = pos) = False := by simp; omega
      have hex : err ≤ 13 := by rw [her]; exact unw_num _
      by_cases h0 : err = 0
      · have hfit := unw_fit (zs.drop pos) (by rw [← her]; exact h0)
        rw [← hbd, List.length_drop, hn] at hfit
        have hsz2 : sz = body.length + 8 := by rw [hsz]; unfold unwSize; rw [← her, if_pos h0, ← hbd]
        have HN : Hid (scanN zs (k + 1) = (zss ++ [body], pos + sz)) := by
          have hg := scanN_go (zs := zs) (k := k) (by rw [HS.out, hn]; exact hlt) (by rw [HS.out, ← her]; exact h0)
          rw [HS.out] at hg
          show _ = _
          rw [hg, hsz2, hbd]
          rfl
        have HK2 : Hid ((zss ++ [body]).length = k + 1) := by show _ = _; rw [List.length_append, HK.out]; rfl
        have hzl : zss.length ≤ 125000000 := by rw [HK.out]; omega
        subst h0
        have hs8 : 8 ≤ sz := by omega
        have hsn : pos + sz ≤ n := by omega
        clear her hsz hbd HS HK hsz2 hfit
        go_wp2_with (first
          | (go_at_call 26; refine HU1.out.mono ?_; rintro e w1 ⟨a1, c1, rfl, hO1, hb1⟩; have hL1 := hL.below hb1; have hO1' := hO1.mono hbel.size; have hbw1 := hbel.trans (hb1.mono hbel.size); have hsw1 := hbw1.size)
          | (at_builtin; refine wpList_append_own _ rfl (.tmp 27) (.tmp 29) 30 rfl w.heap.size 24 i0 (.slice none 0 0) 1 24 Tryd.underlying30 hi hz0 hz1 hz2 rfl (by decide) _ _ _ rfl (hL1.own.alloc _) ⟨w1.heap.size, 0, none⟩ 1 1 [.slice a1 body.length c1] rfl rfl (cell_one_new _ _ _) (fun x hx => by simp at hx; subst hx; rfl) (by unfold maxLen; omega) (by omega) (by simp; omega) ?_; intro v' w3 hown' hgrow3 hnil3))
        have hL3 : OwnL w.heap.size w3 v' (vs ++ [(a1, c1)]) (zss ++ [body]) := OwnL.snoc (x := (a1, c1)) (hL1.below ((Below.refl _ _).alloc (Nat.le_refl _) _)) (hO1'.below ((Below.refl _ _).alloc (Nat.le_refl _) _)) hown' hgrow3
        have hb3 : Below w.heap.size w w3 := (hbw1.alloc hsw1 _).grown hgrow3 (by simp; omega) (fun g hg => (hL1.own.lt g hg).1)
        clear hown' hgrow3 hnil3 hL1 hO1' hO1 hL hbw1 hb1
        go_wp2
        go_roundw
        case rel => exact ⟨k + 1, pos + sz, vs ++ [(a1, c1)], zss ++ [body], HN, HK2, by omega, by omega, by go_num, hL3, hb3⟩
        case measure => simp [intOf]; omega
      · have hne : ((err : Int) != 0) = true := by rw [bne_iff_ne]; omega
        have HE : Hid (scanL zs = zss ∧ scanP zs = pos ∧ scanE zs = err) := by
          have hx := scanN_end (zs := zs) (k := k) (by omega) (by rw [HS.out, ← her]; exact fun h => h0 h.2)
          rw [HS.out] at hx
          refine ⟨hx.1, hx.2, ?_⟩
          unfold scanE
          rw [hx.2, if_pos (by rw [hn]; exact hlt), ← her]
        clear her hsz hbd HS HK
        go_wp2_with (first
          | (go_at_call 26; refine HU1.out.mono ?_; rintro e w1 ⟨a1, c1, rfl, hO1, hb1⟩; have hL1 := hL.below hb1; have hbw1 := hbel.trans (hb1.mono hbel.size)))
        go_ret3
        refine ⟨u5, vs, ?_, ?_, hbw1⟩
        · rw [HE.out.2.1, HE.out.2.2]; rfl
        · rw [HE.out.1]; exact hL1
    · obtain rfl : pos = n := by omega
      have HE : Hid (scanL zs = zss ∧ scanP zs = pos ∧ scanE zs = 0) := by
        have hx := scanN_end (zs := zs) (k := k) (by omega) (by rw [HS.out, hn]; exact fun h => hlt h.1)
        rw [HS.out] at hx
        refine ⟨hx.1, hx.2, ?_⟩
        unfold scanE
        rw [hx.2, if_neg (by rw [hn]; exact hlt)]
      clear HS HK HU
      go_wp2_with fail
      go_ret3
      refine ⟨u5, vs, ?_, ?_, hbel⟩
      · rw [HE.out.2.1, HE.out.2.2]; rfl
      · rw [HE.out.1]; exact hL
end Go.Proofs.YtehmifdgfgngdacDoor
