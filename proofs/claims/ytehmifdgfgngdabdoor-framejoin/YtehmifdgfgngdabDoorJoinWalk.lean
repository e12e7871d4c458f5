import Derived.Test.YtehmifdgfgngdabDoorJoinMath
import Derived.Test.YtehmifdgfgngdabDoorRWrap
namespace Go.Proofs.YtehmifdgfgngdabDoor
open Go.RowKit

set_option maxHeartbeats 400000 in
theorem rlog_none (p : Option Addr) (c : Nat) (w : World) :
    Calls Tryd.prog 22 #[.slice p 0 c] w fun e w' => e = .returned (.slice none 0 0) ∧ w' = w := by
  go_enter Tryd.func22, Tryd.ntmps22
  go_wp2
  refine wp_loop_rounds 1 ?_
  rw [rounds_succ]
  go_wp2
  go_ret
  exact ⟨rfl, rfl⟩

set_option maxHeartbeats 1000000 in
theorem rlog_pos (b o n c : Nat) (vs : Nat → Option Addr × Nat) (zss : List (List Int)) (w : World) (hn : zss.length = n) (hL : LBytes w (some ⟨b, o, none⟩) vs zss) (hnm : n ≤ 65) (hp : 0 < n) (hz : ∀ i, i < n → (zss.getD i []).length ≤ 32768) :
    Calls Tryd.prog 22 #[.slice (some ⟨b, o, none⟩) n c] w fun e w' => ∃ a c', e = .returned (.slice a (logOf zss).length c') ∧ OwnB w.heap.size w' a c' (logOf zss) ∧ Below w.heap.size w w' := by
  obtain ⟨_, _, hbo, hlb, hcell⟩ := hL.at_ (by omega)
  cases hbo
  have HL : Hid (∀ W, Below w.heap.size w W → LBytes W (some ⟨b, o, none⟩) vs zss) := fun W h => hL.later h
  have HZ : Hid (∀ i, i < n → (zss.getD i []).length ≤ 32768) := hz
  clear hL hz
  go_enter Tryd.func22, Tryd.ntmps22
  go_wp2
  go_loopw [3, 4] (fun vL ii wr => ∃ (k L : Nat), k ≤ n ∧ ii = .int .i64 (k : Int) ∧ Hid ((logOf (zss.take k)).length = L) ∧ L ≤ 32776 * k ∧ wr.ownsRow w.heap.size 5 1 vL L ((logOf (zss.take k)).map (Value.int .u8)) ∧ Hid (∀ z ∈ logOf (zss.take k), 0 ≤ z ∧ z < 256) ∧ Below w.heap.size w wr) (fun _ ii _ => n - (intOf ii).toNat)
  case atStart => exact ⟨0, 0, Nat.zero_le _, rfl, rfl, by omega, World.ownsRow_nil _ _ _ _, (fun z h => by cases h), Below.refl _ _⟩
  case round =>
    obtain ⟨k, L, hk, rfl, HLn, hLm, hoL, HBy, hbel⟩ := hrel
    by_cases hlt : k < n
    · have ck := (hbel.cell (p := ⟨b, o + k, none⟩) hlb).trans (hcell k (by omega))
      have hek := (HL.out wr hbel).each k (by omega)
      have hzk' := HZ.out k hlt
      obtain ⟨zk, hzk⟩ : ∃ zk, zk = zss.getD k [] := ⟨_, rfl⟩
      rw [← hzk] at ck hek hzk'
      have hlt' : (k : Int) < (n : Int) := by omega
      generalize (vs k).1 = pk at *
      generalize (vs k).2 = qk at *
      have HWr : Hid (Calls Tryd.prog 15 #[.slice pk zk.length qk] wr fun e w' => ∃ a c', e = .returned (.tuple #[.slice a (zk.length + 8) c', .int .i64 0]) ∧ OwnB wr.heap.size w' a c' (frameOf zk) ∧ Below wr.heap.size wr w') := rwrap_any pk zk.length qk zk wr rfl hek.1 hek.2.1 (by omega)
      have HLs : Hid (logOf (zss.take (k + 1)) = logOf (zss.take k) ++ frameOf zk) := by show _ = _; rw [hzk]; exact logOf_take_succ zss k (by omega)
      have HLn2 : Hid ((logOf (zss.take (k + 1))).length = L + (zk.length + 8)) := by show _ = _; rw [HLs.out, List.length_append, HLn.out, frameOf_length]
      have hfb := frameOf_byte zk (by omega) hek.1.byte
      have HBy2 : Hid (∀ z ∈ logOf (zss.take (k + 1)), 0 ≤ z ∧ z < 256) := by
        show ∀ z ∈ logOf (zss.take (k + 1)), _
        rw [HLs.out]
        intro z hz
        rcases List.mem_append.1 hz with h | h
        · exact HBy.out z h
        · exact hfb z h
      have hsz := hbel.size
      have HoL : Hid (wr.ownsRow w.heap.size 5 1 u3 L ((logOf (zss.take k)).map (Value.int .u8))) := hoL
      clear hek hzk hfb hoL HBy
      go_wp2_with (first
        | (go_at_call 15; refine HWr.out.mono ?_; rintro e w2 ⟨a1, c1, rfl, hO1, hb2⟩; have hn1 : a1 = none → zk.length + 8 = 0 ∧ c1 = 0 := (fun h => absurd (congrArg List.length (hO1.nil h).1) (by rw [frameOf_length]; simp)); have hs2 := hb2.size; have hoL2 := ownsRow_below HoL.out hb2)
        | (at_builtin; refine wpList_append_bytes rfl (.tmp 21) (.tmp 22) rfl w.heap.size _ L _ rfl hoL2 a1 (zk.length + 8) c1 (frameOf zk) rfl (frameOf_length zk) hO1.bytes hn1 (by omega) (by omega) ?_))
      intro v3 w3 ho3 hg3
      have hb3 : Below w.heap.size w w3 := (hbel.trans (hb2.mono hsz)).grown hg3 (by omega) (fun g hg => (hoL2.lt g hg).1)
      have HO3 : Hid (w3.ownsRow w.heap.size 5 1 v3 (L + (zk.length + 8)) ((logOf (zss.take (k + 1))).map (Value.int .u8))) := by
        show World.ownsRow _ _ _ _ _ _ _
        rw [HLs.out, List.map_append]
        exact ho3
      clear ho3 hg3 hoL2 HoL hO1 hb2 HWr ck
      go_wp2
      go_roundw
      case rel => exact ⟨k + 1, L + (zk.length + 8), by omega, by go_num, HLn2, by omega, HO3.out, HBy2, hb3⟩
      case measure => simp [intOf]; omega
    · obtain rfl : k = n := by omega
      have hall : zss.take k = zss := List.take_of_length_le (by omega)
      rw [hall] at hoL HLn HBy
      obtain ⟨pL, cL, rfl, hOL⟩ := own_of_row hoL HBy.out
      have HOL : Hid (OwnB w.heap.size wr pL cL (logOf zss)) := hOL
      clear hoL hOL HL HZ hcell hall
      go_wp2_with fail
      go_ret
      exact ⟨pL, cL, rfl, HOL.out, hbel⟩

set_option maxHeartbeats 400000 in
theorem join_long (pa pb : Option Addr) (na ca nb cb : Nat) (w : World) (hb : nb ≤ 140737488355328) (hl : 131072 < nb) :
    Calls Tryd.prog 8 #[.slice pa na ca, .slice pb nb cb] w fun e w' => e = .returned (.bool true) ∧ Below w.heap.size w w' := by
  go_enter Tryd.func8, Tryd.ntmps8
  go_wp2_with fail
  go_ret
  exact ⟨rfl, Below.refl _ _⟩

/-- what the rest of the law does, once the bodies are short enough -/
structure Ready (pa : Option Addr) (na ca : Nat) (pb : Option Addr) (nb cb : Nat) (zss : List (List Int)) (zb : List Int) (w : World) : Prop where
  unw : Calls Tryd.prog 9 #[] w fun e w' => e = .returned (.bool true) ∧ Below w.heap.size w w'
  log : ∀ W, Below w.heap.size w W → Calls Tryd.prog 22 #[.slice pa na ca] W fun e w' => ∃ a c', e = .returned (.slice a (logOf zss).length c') ∧ OwnB W.heap.size w' a c' (logOf zss) ∧ Below W.heap.size W w'
  one : ∀ W a c, Below w.heap.size w W → (logOf zss).length ≤ c → Bytes W a (logOf zss) → Calls Tryd.prog 13 #[.slice a (logOf zss).length c] W fun e w' => ∃ q c' vs, e = .returned (.tuple #[.slice q na c', .int .i64 ((logOf zss).length : Nat), .int .i64 0]) ∧ OwnL W.heap.size w' (.slice q na c') vs zss ∧ Below W.heap.size W w'
  two : ∀ W, Below w.heap.size w W → Calls Tryd.prog 13 #[.slice pb nb cb] W fun e w' => ∃ q c' vs, e = .returned (.tuple #[.slice q (scanL zb).length c', .int .i64 (scanP zb : Nat), .int .i64 (scanE zb : Nat)]) ∧ OwnL W.heap.size w' (.slice q (scanL zb).length c') vs (scanL zb) ∧ Below W.heap.size W w'
  join : ∀ W a c, Below w.heap.size w W → (a = none → (logOf zss).length = 0 ∧ c = 0) → Bytes W a (logOf zss) → Calls Tryd.prog 23 #[.slice a (logOf zss).length c, .slice pb nb cb] W fun e w' => ∃ p c', e = .returned (.slice p ((logOf zss).length + nb) c') ∧ OwnB W.heap.size w' p c' (logOf zss ++ zb) ∧ Below W.heap.size W w'
  all : ∀ W a c, Below w.heap.size w W → (logOf zss).length + nb ≤ c → Bytes W a (logOf zss ++ zb) → Calls Tryd.prog 13 #[.slice a ((logOf zss).length + nb) c] W fun e w' => ∃ q c' vs, e = .returned (.tuple #[.slice q (na + (scanL zb).length) c', .int .i64 ((logOf zss).length + scanP zb : Nat), .int .i64 (scanE zb : Nat)]) ∧ OwnL W.heap.size w' (.slice q (na + (scanL zb).length) c') vs (zss ++ scanL zb) ∧ Below W.heap.size W w'
  like : ∀ W q c vs B, Below w.heap.size w W → OwnL B W (.slice q na c) vs zss → Calls Tryd.prog 14 #[.slice q na c, .slice pa na ca] W fun e w' => e = .returned (.bool true) ∧ Below W.heap.size W w'
  heads : ∀ W q c vs B q2 c2 vs2 B2, OwnL B W (.slice q (na + (scanL zb).length) c) vs (zss ++ scanL zb) → OwnL B2 W (.slice q2 na c2) vs2 zss → Calls Tryd.prog 14 #[.slice q na c, .slice q2 na c2] W fun e w' => e = .returned (.bool true) ∧ Below W.heap.size W w'
  tails : ∀ W g c c3 vs B q2 c2 vs2 B2, OwnL B W (.slice (some ⟨g, 0, none⟩) (na + (scanL zb).length) c) vs (zss ++ scanL zb) → OwnL B2 W (.slice q2 (scanL zb).length c2) vs2 (scanL zb) → Calls Tryd.prog 14 #[.slice (some ⟨g, na, none⟩) (scanL zb).length c3, .slice q2 (scanL zb).length c2] W fun e w' => e = .returned (.bool true) ∧ Below W.heap.size W w'

theorem ready (pa pb : Option Addr) (na ca nb cb : Nat) (va : Nat → Option Addr × Nat) (zss : List (List Int)) (zb : List Int) (w : World) (hna : zss.length = na) (hnb : zb.length = nb) (hL : LBytes w pa va zss) (hB : Bytes w pb zb)
    (hpb : pb = none → nb = 0 ∧ cb = 0) (hcb : nb ≤ cb) (hT : Tab w) (hl : nb ≤ 131072) (hn65 : na ≤ 65) (hz : ∀ i, i < na → (zss.getD i []).length ≤ 32768) (hlog : (logOf zss).length ≤ 2130440) : Ready pa na ca pb nb cb zss zb w := by
  have hm : ∀ z ∈ zss, z.length ≤ 32768 := by
    intro z hzm
    obtain ⟨i, hi, rfl⟩ := List.getElem_of_mem hzm
    have := hz i (by omega)
    rw [List.getD_eq_getElem?_getD, List.getElem?_eq_getElem hi] at this
    exact this
  have hm2 : ∀ z ∈ zss, z.length ≤ 140737488355328 := fun z h => by have := hm z h; omega
  have hsb : ∀ z ∈ scanL zb, z.length ≤ 140737488355328 := fun z h => by have := scanL_short zb z h; omega
  have hsa : ∀ z ∈ zss ++ scanL zb, z.length ≤ 140737488355328 := fun z h => by
    rcases List.mem_append.1 h with h | h
    · exact hm2 z h
    · exact hsb z h
  have hj := scan_join zss zb hm
  have he := scan_log_end zss [] hm (.inl rfl)
  rw [List.append_nil, if_pos rfl] at he
  have hll := scanL_len zb
  refine ⟨unwraps_any w hT, ?_, ?_, ?_, ?_, ?_, ?_, ?_, ?_⟩
  · intro W hW
    by_cases h0 : na = 0
    · subst h0
      obtain rfl : zss = [] := List.eq_nil_of_length_eq_zero hna
      refine (rlog_none pa ca W).mono ?_
      rintro e w' ⟨rfl, rfl⟩
      exact ⟨none, 0, rfl, own_none _ _, Below.refl _ _⟩
    · obtain ⟨b, o, rfl, _, _⟩ := hL.at_ (by omega)
      exact rlog_pos b o na ca va zss W hna (hL.later hW) hn65 (by omega) hz
  · intro W a c hW hc hA
    have h := scan_any a (logOf zss).length c (logOf zss) W rfl hA hc (by omega) (hT.later hW)
    rw [he.1, he.2.1, he.2.2, hna] at h
    exact h
  · intro W hW
    exact scan_any pb nb cb zb W hnb (hB.later hW) hcb (by omega) (hT.later hW)
  · intro W a c hW ha hA
    exact joined_any a pb (logOf zss).length c nb cb (logOf zss) zb W rfl hnb hA (hB.later hW) ha hpb (by omega)
  · intro W a c hW hc hA
    have h := scan_any a ((logOf zss).length + nb) c (logOf zss ++ zb) W (by rw [List.length_append, hnb]) hA hc (by omega) (hT.later hW)
    rw [hj.1, hj.2.1, hj.2.2, List.length_append, hna] at h
    exact h
  · intro W q c vs B hW hO
    have h := alike_any q pa na c na ca _ va zss zss W hna hna (hO.lists hm2) (hL.later hW) (by omega)
    rw [decide_eq_true rfl] at h
    exact h
  · intro W q c vs B q2 c2 vs2 B2 hO hO2
    have h1 := (hO.lists hsa).take na
    rw [show (zss ++ scanL zb).take na = zss from by rw [← hna]; exact List.take_left] at h1
    have h := alike_any q q2 na c na c2 _ _ zss zss W hna hna h1 (hO2.lists hm2) (by omega)
    rw [decide_eq_true rfl] at h
    exact h
  · intro W g c c3 vs B q2 c2 vs2 B2 hO hO2
    have h1 := (hO.lists hsa).drop na
    rw [show (zss ++ scanL zb).drop na = scanL zb from by rw [← hna]; exact List.drop_left, Nat.zero_add] at h1
    have h := alike_any (some ⟨g, na, none⟩) q2 _ c3 _ c2 _ _ (scanL zb) (scanL zb) W rfl rfl h1 (hO2.lists hsb) (by omega)
    rw [decide_eq_true rfl] at h
    exact h
end Go.Proofs.YtehmifdgfgngdabDoor
