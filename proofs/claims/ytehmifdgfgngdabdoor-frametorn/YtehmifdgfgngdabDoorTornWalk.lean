import Derived.Test.YtehmifdgfgngdabDoorScanAny
import Derived.Test.YtehmifdgfgngdabDoorLists
import Derived.Test.YtehmifdgfgngdabDoorLogMath
import Derived.Test.YtehmifdgfgngdabDoorPlace
import Derived.Test.YtehmifdgfgngdabDoorWrapAny
namespace Go.Proofs.YtehmifdgfgngdabDoor
open Go.RowKit

theorem infoI : (Tryd.prog.info? 3).map (fun i => (i.zero, i.size, i.bytes)) = some (some (.int .i64 0), 1, 8) := by kernel_rfl

theorem OwnL.lists {base : Nat} {w : World} {q : Option Addr} {n c : Nat} {vs : List (Option Addr × Nat)} {zss : List (List Int)} (h : OwnL base w (.slice q n c) vs zss) (hb : ∀ z ∈ zss, z.length ≤ 140737488355328) : LBytes w q (fun i => vs.getD i (none, 0)) zss := by
  obtain ⟨p, c', hv, _, _, hc⟩ := h.view
  simp only [Value.slice.injEq] at hv
  obtain ⟨rfl, rfl, rfl⟩ := hv
  refine ⟨fun hp => ?_, fun i hi => ⟨h.bytes i hi, fun hn => ?_, (h.each i hi).cap.1, hb _ (getD_mem_l zss i hi)⟩⟩
  · obtain ⟨g, rfl, hlt, _⟩ := hc 0 hp
    refine ⟨g, 0, rfl, hlt, fun i hi => ?_⟩
    obtain ⟨g', he, _, hcell⟩ := hc i hi
    cases he
    rw [Nat.zero_add]
    exact hcell
  · have := (h.each i hi).nil hn
    exact ⟨by rw [this.1]; rfl, this.2⟩

theorem scanN_short (zs : List Int) (k : Nat) : ∀ z ∈ (scanN zs k).1, z.length ≤ 32768 := by
  induction k with
  | zero => intro z hz; cases hz
  | succ k ih =>
    intro z hz
    by_cases h : (scanN zs k).2 < zs.length ∧ (unw (zs.drop (scanN zs k).2)).1 = 0
    · rw [scanN_go h.1 h.2] at hz
      rcases List.mem_append.1 hz with h1 | h1
      · exact ih z h1
      · rw [List.mem_singleton.1 h1]; exact (unw_fit _ h.2).2
    · have hs := scanN_stuck h 1
      rw [hs] at hz
      exact ih z hz
theorem scanL_short (zs : List Int) : ∀ z ∈ scanL zs, z.length ≤ 32768 := scanN_short zs _

/-- where the frames end -/
def endsOf (zss : List (List Int)) (k : Nat) : List Value := (List.range k).map fun i => .int .i64 ((logOf (zss.take (i + 1))).length : Nat)
theorem endsOf_succ (zss : List (List Int)) (k : Nat) : endsOf zss (k + 1) = endsOf zss k ++ [.int .i64 ((logOf (zss.take (k + 1))).length : Nat)] := by
  unfold endsOf; rw [List.range_succ, List.map_append]; rfl

/-- two rows of unlike types lie apart -/
theorem kept_other {base base' : Nat} {e e' : TypeId} {size n n' : Nat} {w w' : World} {u v : Value} {xs ys : List Value} (hu : w.ownsRow base e size u n xs) (hv : w.ownsRow base' e' size v n' ys) (hne : e ≠ e') (hg : w.grownBy w' v.ownBlock) : w'.ownsRow base e size u n xs := by
  refine hu.kept hg ?_
  obtain ⟨_, ⟨h1, _⟩ | ⟨g, cap, cur, h1, _, hh, _⟩⟩ := id hu
  · left; rw [h1]; rfl
  · obtain ⟨_, ⟨h2, _⟩ | ⟨g2, cap2, cur2, h2, _, hh2, _⟩⟩ := id hv
    · right; rw [h1, h2]; simp [Value.ownBlock]
    · right
      rw [h1, h2]
      simp only [Value.ownBlock, ne_eq, Option.some.injEq]
      intro he
      subst he
      rw [hh] at hh2
      simp at hh2
      exact hne hh2.2

theorem OwnB.head {base : Nat} {w : World} {p : Option Addr} {c : Nat} {zs : List Int} (h : OwnB base w p c zs) (hp : 0 < zs.length) : ∃ g, p = some ⟨g, 0, none⟩ ∧ base ≤ g ∧ g < w.heap.size := by
  obtain ⟨_, ⟨hv, h0⟩ | ⟨g, cap, cur, hv, hb, hh, _⟩⟩ := h.own
  · omega
  · simp only [Value.slice.injEq] at hv
    refine ⟨g, hv.1, hb, ?_⟩
    rcases Nat.lt_or_ge g w.heap.size with h1 | h1
    · exact h1
    · rw [Array.getElem?_eq_none h1] at hh; cases hh
theorem OwnL.mono {base base' : Nat} {w : World} {v : Value} {vs : List (Option Addr × Nat)} {zss : List (List Int)} (h : OwnL base w v vs zss) (hb : base' ≤ base) : OwnL base' w v vs zss := by
  refine ⟨h.len, ⟨h.own.1, ?_⟩, fun i hi => (h.each i hi).mono hb⟩
  obtain ⟨_, h1 | ⟨g, cap, cur, hv, hbg, r⟩⟩ := h.own
  · exact .inl h1
  · exact .inr ⟨g, cap, cur, hv, Nat.le_trans hb hbg, r⟩
theorem take_of_bytes {w : World} {b o : Nat} {zs : List Int} (h : Bytes w (some ⟨b, o, none⟩) zs) (k : Nat) : Bytes w (some ⟨b, o, none⟩) (zs.take k) := by
  refine ⟨fun hp => ?_, fun z hz => h.byte z (List.mem_of_mem_take hz)⟩
  have hk : 0 < zs.length := by simp at hp; omega
  obtain ⟨_, _, hbo, hlt, hc⟩ := h.at_ hk
  cases hbo
  refine ⟨b, o, rfl, hlt, fun i hi => ?_⟩
  have hi' : i < k ∧ i < zs.length := by simp at hi; omega
  rw [hc i hi'.2]
  simp [List.getD_eq_getElem?_getD, hi'.1]

theorem ints_view {base : Nat} {w : World} {v : Value} {k : Nat} {zss : List (List Int)} (h : w.ownsRow base 3 1 v k (endsOf zss k)) :
    ∃ p c, v = .slice p k c ∧ ∀ i, i < k → ∃ g, p = some ⟨g, 0, none⟩ ∧ g < w.heap.size ∧ w.cell? ⟨g, i, none⟩ = some (.int .i64 ((logOf (zss.take (i + 1))).length : Nat)) := by
  obtain ⟨hx, ⟨hv, h0⟩ | ⟨g, cap, cur, hv, hb, hh, hn, hm, hs, ht⟩⟩ := id h
  · exact ⟨none, 0, by rw [hv, h0], fun i hi => absurd hi (by omega)⟩
  · refine ⟨_, cap, hv, fun i hi => ⟨g, rfl, ?_, ?_⟩⟩
    · rcases Nat.lt_or_ge g w.heap.size with h1 | h1
      · exact h1
      · rw [Array.getElem?_eq_none h1] at hh; cases hh
    · rw [hv] at h
      rw [World.ownsRow.cellAt h i (by omega)]
      unfold endsOf
      simp [hi]

set_option maxHeartbeats 1000000 in
theorem torn_core (pb : Option Addr) (n c : Nat) (x : Int) (vs : Nat → Option Addr × Nat) (zss : List (List Int)) (w : World) (hn : zss.length = n) (hL : LBytes w pb vs zss) (hc : n ≤ c) (hnm : n ≤ 140737488355328) (hT : Tab w) (hx : -9223372036854775808 ≤ x ∧ x ≤ 9223372036854775807) (hp : 0 < n) :
    Calls Tryd.prog 3 #[.slice pb n c, .int .i64 x] w fun e w' => e = .returned (.bool true) ∧ Below w.heap.size w w' := by
  obtain ⟨b, o, rfl, hlb, hcell⟩ := hL.at_ (by omega)
  have HL : Hid (∀ W, Below w.heap.size w W → LBytes W (some ⟨b, o, none⟩) vs zss) := fun W h => hL.later h
  have HT : Hid (∀ W, Below w.heap.size w W → Tab W) := fun W h => hT.later h
  have HW : Hid (Calls Tryd.prog 9 #[] w fun e w' => e = .returned (.bool true) ∧ Below w.heap.size w w') := unwraps_any w hT
  clear hL hT
  go_enter Tryd.func3, Tryd.ntmps3
  go_wp2_with (go_at_call 9; refine HW.out.mono ?_; rintro e w1 ⟨rfl, hb1⟩)
  obtain ⟨i0, hi, hz0, hz1, hz2⟩ := info_parts infoI
  clear HW
  go_loopw [5, 6, 7] (fun vL vE ii wr => ∃ (k L : Nat) (pL : Option Addr) (cL : Nat), k ≤ n ∧ ii = .int .i64 (k : Int) ∧ vL = .slice pL L cL ∧ Hid ((logOf (zss.take k)).length = L) ∧ 8 * k ≤ L ∧ L ≤ 163848 ∧ OwnB w.heap.size wr pL cL (logOf (zss.take k)) ∧ wr.ownsRow w.heap.size 3 1 vE k (endsOf zss k) ∧ Hid (∀ i, i < k → (zss.getD i []).length ≤ 32768) ∧ Below w.heap.size w wr) (fun _ _ ii _ => n - (intOf ii).toNat)
  case atStart => exact ⟨0, 0, none, 0, Nat.zero_le _, rfl, rfl, rfl, by omega, by omega, own_none _ _, World.ownsRow_nil _ _ _ _, fun i h => absurd h (by omega), hb1⟩
  case round =>
    obtain ⟨k, L, pL, cL, hk, rfl, rfl, HLn, h8, hLm, hOL, hoE, HZ, hbel⟩ := hrel
    by_cases hlt : k < n
    · have ck := (hbel.cell (p := ⟨b, o + k, none⟩) hlb).trans (hcell k (by omega))
      have hLk := HL.out wr hbel
      have hek := hLk.each k (by omega)
      obtain ⟨zk, hzk⟩ : ∃ zk, zk = zss.getD k [] := ⟨_, rfl⟩
      rw [← hzk] at ck hek
      have hlt' : (k : Int) < (n : Int) := by omega
      have hzl := hek.2.2.2
      generalize hpk : (vs k).1 = pk at *
      generalize hqk : (vs k).2 = qk at *
      clear hpk hqk hLk
      by_cases h1 : 32768 < zk.length
      · clear hek hzk
        go_wp2_with fail
        go_ret
        exact ⟨rfl, hbel⟩
      · by_cases h2 : 131072 < L
        · clear hek hzk
          go_wp2_with fail
          go_ret
          exact ⟨rfl, hbel⟩
        · have HWr : Hid (Calls Tryd.prog 10 #[.slice pk zk.length qk] wr fun e w' => ∃ a c', e = .returned (.tuple #[.slice a (zk.length + 8) c', .int .i64 0]) ∧ OwnB wr.heap.size w' a c' (frameOf zk) ∧ Below wr.heap.size wr w') := wrap_any pk zk.length qk zk wr rfl hek.1 hek.2.1 (HT.out wr hbel) (by omega)
          have HLs : Hid (logOf (zss.take (k + 1)) = logOf (zss.take k) ++ frameOf zk) := by show _ = _; rw [hzk]; exact logOf_take_succ zss k (by omega)
          have HLn2 : Hid ((logOf (zss.take (k + 1))).length = L + (zk.length + 8)) := by show _ = _; rw [HLs.out, List.length_append, HLn.out, frameOf_length]
          have HZ2 : Hid (∀ i, i < k + 1 → (zss.getD i []).length ≤ 32768) := by
            intro i hi
            rcases Nat.lt_or_ge i k with h | h
            · exact HZ.out i h
            · rw [show i = k by omega, ← hzk]; omega
          have hfb := frameOf_byte zk (by omega) hek.1.byte
          have hlb2 := logOf (zss.take k)
          have hby : ∀ z ∈ logOf (zss.take (k + 1)), 0 ≤ z ∧ z < 256 := by
            rw [HLs.out]
            intro z hz
            rcases List.mem_append.1 hz with h | h
            · exact hOL.byte z h
            · exact hfb z h
          have HBy : Hid (∀ z ∈ logOf (zss.take (k + 1)), 0 ≤ z ∧ z < 256) := hby
          have hOLo : Hid (wr.ownsRow w.heap.size 5 1 (.slice pL L cL) L ((logOf (zss.take k)).map (Value.int .u8))) := by have := hOL.own; rw [HLn.out] at this; exact this
          have hsz := hbel.size
          clear hek hzk hby hfb hlb2 hOL HZ
          go_wp2_with (first
            | (go_at_call 10; refine HWr.out.mono ?_; rintro e w2 ⟨a1, c1, rfl, hO1, hb2⟩; have ck2 := (hb2.cell (p := ⟨b, o + k, none⟩) (Nat.lt_of_lt_of_le hlb hsz)).trans ck; have hn1 : a1 = none → zk.length + 8 = 0 ∧ c1 = 0 := (fun h => absurd (congrArg List.length (hO1.nil h).1) (by rw [frameOf_length]; simp)); have hs2 := hb2.size; have hoL2 := ownsRow_below hOLo.out hb2; have hoE2 := ownsRow_below hoE hb2)
            | (go_at_call 11; refine (num_any _ _).mono ?_; rintro e wn ⟨rfl, rfl⟩)
            | (at_builtin; refine wpList_append_bytes rfl (.tmp 57) (.tmp 58) rfl w.heap.size _ L _ rfl hoL2 a1 (zk.length + 8) c1 (frameOf zk) rfl (frameOf_length zk) hO1.bytes hn1 (by omega) (by omega) ?_))
          intro v3 w3 ho3 hg3
          have hb3 : Below w.heap.size w w3 := (hbel.trans (hb2.mono hsz)).grown hg3 (by omega) (fun g hg => (hoL2.lt g hg).1)
          have hs3 := hb3.size
          have hoE3 := kept_other hoE2 hoL2 (by decide) hg3
          obtain ⟨p3, c3, rfl, hO3⟩ := own_of_row (zs := logOf (zss.take (k + 1))) (by rw [HLs.out, List.map_append]; exact ho3) HBy.out
          rw [HLn2.out]
          clear ho3 hg3 hoL2 hoE2 hOLo hO1 hb2 HWr ck ck2
          go_wp2_with (at_builtin; refine wpList_append_own _ rfl (.tmp 60) (.tmp 63) 25 rfl w.heap.size 3 i0 (.int .i64 0) 1 8 Tryd.underlying25 hi hz0 hz1 hz2 rfl (by decide) _ _ _ rfl (hoE3.alloc _) ⟨w3.heap.size, 0, none⟩ 1 1 [.int .i64 ((L : Int) + ((zk.length : Int) + 8))] rfl rfl (cell_one_new _ _ _) (ints_oneCell .i64 [_]) (by unfold maxLen; omega) (by omega) (by simp; omega) ?_)
          intro v4 w4 ho4 hg4 _
          have hO4 : OwnB w.heap.size w4 p3 c3 (logOf (zss.take (k + 1))) := ⟨kept_other (hO3.own.alloc _) (hoE3.alloc _) (by decide) hg4, hO3.byte⟩
          have hb4 : Below w.heap.size w w4 := (hb3.alloc hs3 _).grown hg4 (by simp; omega) (fun g hg => (hoE3.lt g hg).1)
          have HE4 : Hid (w4.ownsRow w.heap.size 3 1 v4 (k + 1) (endsOf zss (k + 1))) := by
            show World.ownsRow _ _ _ _ _ _ _
            rw [endsOf_succ, HLn2.out]
            have e : ((L + (zk.length + 8) : Nat) : Int) = (L : Int) + ((zk.length : Int) + 8) := by omega
            rw [e]
            exact ho4
          clear ho4 hg4 hoE3 hO3 hb3 hs3
          go_wp2
          go_roundw
          case rel => exact ⟨k + 1, L + (zk.length + 8), p3, c3, by omega, by go_num, rfl, HLn2, by omega, by omega, hO4, HE4.out, HZ2, hb4⟩
          case measure => simp [intOf]; omega
    · obtain rfl : k = n := by omega
      have hall : zss.take k = zss := List.take_of_length_le (by omega)
      rw [hall] at hOL HLn
      have HM : Hid (∀ z ∈ zss, z.length ≤ 32768) := by
        intro z hz
        obtain ⟨i, hi, rfl⟩ := List.getElem_of_mem hz
        have := HZ.out i (by omega)
        rw [List.getD_eq_getElem?_getD, List.getElem?_eq_getElem hi] at this
        exact this
      obtain ⟨at', hat⟩ : ∃ at' : Nat, x % ((L : Int) + 1) = (at' : Int) := Int.eq_ofNat_of_zero_le (Int.emod_nonneg _ (by omega))
      have hatl : at' ≤ L := by have := Int.emod_lt_of_pos x (show 0 < (L : Int) + 1 by omega); omega
      have HP : Hid (∀ W, Calls Tryd.prog 12 #[.int .i64 x, .int .i64 ((L : Int) + 1)] W fun e w' => e = .returned (.int .i64 (at' : Int)) ∧ w' = W) := by
        intro W
        have h := place_raw x (L + 1) (by omega) (by omega) hx W
        rw [show ((L + 1 : Nat) : Int) = (L : Int) + 1 by omega, hat] at h
        exact h
      clear hat HZ hall hcell
      obtain ⟨pE, cE, hvE, hcE⟩ := ints_view hoE
      subst hvE
      go_wp2_with (go_at_call 12; refine (HP.out _).mono ?_; rintro e wp ⟨rfl, rfl⟩)
      have hLp : 0 < L := by omega
      obtain ⟨gL, rfl, hgL, hgLl⟩ := hOL.head (by rw [HLn.out]; exact hLp)
      have hcL := hOL.cap.1
      rw [HLn.out] at hcL
      have HFin : Hid (∀ (j la : Nat), j ≤ k → (logOf (zss.take j)).length = la → la ≤ at' → (j < k → at' < (logOf (zss.take (j + 1))).length) →
          (∀ W, Below w.heap.size w W → Bytes W (some ⟨gL, 0, none⟩) ((logOf zss).take at') → Calls Tryd.prog 13 #[.slice (some ⟨gL, 0, none⟩) at' cL] W fun e w' => ∃ q c' vs2, e = .returned (.tuple #[.slice q j c', .int .i64 (la : Int), .int .i64 ((if at' = la then 0 else 11 : Nat) : Int)]) ∧ OwnL W.heap.size w' (.slice q j c') vs2 (zss.take j) ∧ Below W.heap.size W w') ∧
          (∀ W q c' vs2, Below w.heap.size w W → OwnL w.heap.size W (.slice q j c') vs2 (zss.take j) → Calls Tryd.prog 14 #[.slice q j c', .slice (some ⟨b, o, none⟩) j c] W fun e w' => e = .returned (.bool true) ∧ Below W.heap.size W w')) := by
        intro j la hj hla h1 h3
        have hsc := scan_torn zss at' j HM.out (by omega) (by omega) (by rw [HLn.out]; exact hatl) (fun h => h3 (by omega))
        have hjl : (zss.take j).length = j := by simp; omega
        refine ⟨fun W hW hB => ?_, fun W q c' vs2 hW hO => ?_⟩
        · have h := scan_any (some ⟨gL, 0, none⟩) at' cL ((logOf zss).take at') W (by rw [List.length_take, HLn.out]; omega) hB (by omega) (by omega) (HT.out W hW)
          rw [hsc.1, hsc.2.1, hsc.2.2, hjl, hla] at h
          exact h
        · have h := alike_any q (some ⟨b, o, none⟩) j c' j c _ vs (zss.take j) (zss.take j) W hjl hjl (hO.lists (fun z hz => by have := HM.out z (List.mem_of_mem_take hz); omega)) ((HL.out W hW).take j) (by omega)
          rw [decide_eq_true rfl] at h
          exact h
      have HBt : Hid (∀ W, Below wp.heap.size wp W → Bytes W (some ⟨gL, 0, none⟩) ((logOf zss).take at')) := fun W hW => take_of_bytes (hOL.bytes.later hW) at'
      clear hOL hoE HP HL HT
      go_loop [11, 12] (fun wh ll => ∃ (j la : Nat), j ≤ k ∧ wh = .int .i64 (j : Int) ∧ ll = .int .i64 (la : Int) ∧ Hid ((logOf (zss.take j)).length = la) ∧ la ≤ at') (fun wh _ => k - (intOf wh).toNat)
      case atStart => exact ⟨0, 0, Nat.zero_le _, rfl, rfl, rfl, Nat.zero_le _⟩
      case round =>
        obtain ⟨j, la, hj, rfl, rfl, HLa, hla⟩ := hrel
        have go : ∀ (hstop : j < k → at' < (logOf (zss.take (j + 1))).length), True := fun _ => trivial
        by_cases hjk : j < k
        · obtain ⟨gE, rfl, hgE, cE1⟩ := hcE j hjk
          have hjk' : (j : Int) < (k : Int) := by omega
          obtain ⟨E, hE⟩ : ∃ E, E = (logOf (zss.take (j + 1))).length := ⟨_, rfl⟩
          rw [← hE] at cE1
          by_cases hEa : E ≤ at'
          · have HE2 : Hid ((logOf (zss.take (j + 1))).length = E) := hE.symm
            clear hE HFin HBt hcE go
            go_wp2_with fail
            go_round
            case rel => exact ⟨j + 1, E, by omega, by go_num, rfl, HE2, hEa⟩
            case measure => simp [intOf]; omega
          · have hF := HFin.out j la hj HLa.out hla (fun _ => by omega)
            have HF1 : Hid (Calls Tryd.prog 13 #[.slice (some ⟨gL, 0, none⟩) at' cL] wp fun e w' => ∃ q c' vs2, e = .returned (.tuple #[.slice q j c', .int .i64 (la : Int), .int .i64 ((if at' = la then 0 else 11 : Nat) : Int)]) ∧ OwnL wp.heap.size w' (.slice q j c') vs2 (zss.take j) ∧ Below wp.heap.size wp w') := hF.1 wp hbel (HBt.out wp (Below.refl _ _))
            have HF2 : Hid (∀ W q c' vs2, Below w.heap.size w W → OwnL w.heap.size W (.slice q j c') vs2 (zss.take j) → Calls Tryd.prog 14 #[.slice q j c', .slice (some ⟨b, o, none⟩) j c] W fun e w' => e = .returned (.bool true) ∧ Below W.heap.size W w') := hF.2
            have hjc : (j : Int) ≤ (c : Int) := by omega
            have hac : (at' : Int) ≤ (cL : Int) := by omega
            have hbs := hbel.size
            clear hF HFin HBt hcE go hE
            by_cases hal : at' = la
            · rw [if_pos hal] at HF1
              subst hal
              go_wp2_with (first | (go_at_call 13; refine HF1.out.mono ?_; rintro e w5 ⟨q5, c5, vs5, rfl, hL5, hb5⟩; have hb5w := hbel.trans (hb5.mono hbs); have hL5' := OwnL.mono hL5 hbs) | (go_at_call 14; refine (HF2.out _ _ _ _ hb5w hL5').mono ?_; rintro e w6 ⟨rfl, hb6⟩) | (go_at_call 11; refine (num_any _ _).mono ?_; rintro e wn ⟨rfl, rfl⟩))
              go_ret
              exact ⟨rfl, hb5w.trans (hb6.mono hb5w.size)⟩
            · rw [if_neg hal] at HF1
              have hal2 : ((at' : Int) == (la : Int)) = false := by rw [beq_eq_false_iff_ne]; omega
              clear hal
              go_wp2_with (first | (go_at_call 13; refine HF1.out.mono ?_; rintro e w5 ⟨q5, c5, vs5, rfl, hL5, hb5⟩; have hb5w := hbel.trans (hb5.mono hbs); have hL5' := OwnL.mono hL5 hbs) | (go_at_call 14; refine (HF2.out _ _ _ _ hb5w hL5').mono ?_; rintro e w6 ⟨rfl, hb6⟩) | (go_at_call 11; refine (num_any _ _).mono ?_; rintro e wn ⟨rfl, rfl⟩))
              go_ret
              exact ⟨rfl, hb5w.trans (hb6.mono hb5w.size)⟩
        · obtain rfl : j = k := by omega
          have hF := HFin.out j la hj HLa.out hla (fun h => absurd h hjk)
          have HF1 : Hid (Calls Tryd.prog 13 #[.slice (some ⟨gL, 0, none⟩) at' cL] wp fun e w' => ∃ q c' vs2, e = .returned (.tuple #[.slice q j c', .int .i64 (la : Int), .int .i64 ((if at' = la then 0 else 11 : Nat) : Int)]) ∧ OwnL wp.heap.size w' (.slice q j c') vs2 (zss.take j) ∧ Below wp.heap.size wp w') := hF.1 wp hbel (HBt.out wp (Below.refl _ _))
          have HF2 : Hid (∀ W q c' vs2, Below w.heap.size w W → OwnL w.heap.size W (.slice q j c') vs2 (zss.take j) → Calls Tryd.prog 14 #[.slice q j c', .slice (some ⟨b, o, none⟩) j c] W fun e w' => e = .returned (.bool true) ∧ Below W.heap.size W w') := hF.2
          have hjc : (j : Int) ≤ (c : Int) := by omega
          have hac : (at' : Int) ≤ (cL : Int) := by omega
          have hbs := hbel.size
          clear hF HFin HBt hcE go 
          by_cases hal : at' = la
          · rw [if_pos hal] at HF1
            subst hal
            go_wp2_with (first | (go_at_call 13; refine HF1.out.mono ?_; rintro e w5 ⟨q5, c5, vs5, rfl, hL5, hb5⟩; have hb5w := hbel.trans (hb5.mono hbs); have hL5' := OwnL.mono hL5 hbs) | (go_at_call 14; refine (HF2.out _ _ _ _ hb5w hL5').mono ?_; rintro e w6 ⟨rfl, hb6⟩) | (go_at_call 11; refine (num_any _ _).mono ?_; rintro e wn ⟨rfl, rfl⟩))
            go_ret
            exact ⟨rfl, hb5w.trans (hb6.mono hb5w.size)⟩
          · rw [if_neg hal] at HF1
            have hal2 : ((at' : Int) == (la : Int)) = false := by rw [beq_eq_false_iff_ne]; omega
            clear hal
            go_wp2_with (first | (go_at_call 13; refine HF1.out.mono ?_; rintro e w5 ⟨q5, c5, vs5, rfl, hL5, hb5⟩; have hb5w := hbel.trans (hb5.mono hbs); have hL5' := OwnL.mono hL5 hbs) | (go_at_call 14; refine (HF2.out _ _ _ _ hb5w hL5').mono ?_; rintro e w6 ⟨rfl, hb6⟩) | (go_at_call 11; refine (num_any _ _).mono ?_; rintro e wn ⟨rfl, rfl⟩))
            go_ret
            exact ⟨rfl, hb5w.trans (hb6.mono hb5w.size)⟩
end Go.Proofs.YtehmifdgfgngdabDoor
