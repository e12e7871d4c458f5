import Derived.Test.YtehmifdgfgngdacDoorPlayNil
import Derived.Test.YtehmifdgfgngdacDoorPlayNil2
import Derived.Test.YtehmifdgfgngdacDoorPlayOdd
import Derived.Test.YtehmifdgfgngdacDoorPlayOdd2
import Derived.Test.YtehmifdgfgngdacDoorPlayPos
import Derived.Test.YtehmifdgfgngdacDoorPlayPos2
import Derived.Test.YtehmifdgfgngdacDoorWrapsWalk
import Derived.Test.YtehmifdgfgngdacDoorUnwLaws
import Derived.Test.YtehmifdgfgngdacDoorScansWalk
namespace Go.Proofs.YtehmifdgfgngdacDoor
open Go.RowKit

theorem Bytes.left {w : World} {p : Option Addr} {za zb : List Int} (h : Bytes w p (za ++ zb)) : Bytes w p za := by
  refine ⟨fun hp => ?_, fun z hz => h.byte z (List.mem_append_left _ hz)⟩
  obtain ⟨b, o, rfl, hlt, hc⟩ := h.at_ (by rw [List.length_append]; omega)
  refine ⟨b, o, rfl, hlt, fun i hi => ?_⟩
  rw [hc i (by rw [List.length_append]; omega), List.getD_eq_getElem?_getD, List.getD_eq_getElem?_getD, List.getElem?_append_left hi]

theorem lent_mk (s : Nat) (hs : s < 4294967296) (pa : Option Addr) (na ca : Nat) (za : List Int) (pl : Option Addr) (cl : Nat) (p : Option Addr) (c : Nat) (pb : Option Addr) (cb : Nat) (zw : List Int) (w : World)
    (hna : za.length = na) (hl : na ≤ 131072) (hA : Bytes w pa za) (hL : Bytes w pl za) (hpl : pl = none → na = 0 ∧ cl = 0) (hc : na ≤ cl) (hT : Tab w) (hzw : zw.length = na + 60) (hP : Bytes w p zw) (hPb : Bytes w pb zw) :
    Lent s (Crc.add 0 za) (Crc.add s za) pa na ca pl cl p c pb cb w where
  sum W hW := sum_any pl na cl za W hna (hL.later hW) (by omega) (hT.later hW)
  rsum W hW := by
    have h := rsum_any pa na ca za W hna (hA.later hW) (by omega)
    rw [Crc.refAdd_eq 0 za (by omega) hA.byte] at h; exact h
  add W hW := add_any s hs pl na cl za W hna (hL.later hW) (by omega) (hT.later hW)
  radd W hW := by
    have h := radd_any s hs pa na ca za W hna (hA.later hW) (by omega)
    rw [Crc.refAdd_eq s za hs hA.byte] at h; exact h
  wraps := by
    by_cases h : 32768 < na
    · exact wraps_mid pl na cl w hl h
    · exact wraps_short pl na cl za w hna hL hpl hT (by omega)
  unws := unws_short pl na cl za w hna hL hc hT hl
  exas := exas_short pl na cl za w hna hL hc hT hl
  scans := scans_short pl na cl za w hna hL hc hT hl
  like W hW := by
    have h := same_any p pb (na + 60) c (na + 60) cb zw zw W hzw hzw (hP.later hW) (hPb.later hW) (by omega)
    rw [decide_eq_true rfl] at h
    exact h

theorem plays_any (k : Int) (s : Nat) (hs : s < 4294967296) (pa : Option Addr) (na ca : Nat) (za : List Int) (w : World) (hna : za.length = na) (hl : na ≤ 131072) (hA : Bytes w pa za) (hpa : pa = none → na = 0 ∧ ca = 0) (hT : Tab w) :
    Calls Tryd.prog 5 #[.agg #[.int .i64 k, .int .u32 s, .slice pa na ca]] w fun e w' => e = .returned (.bool true) ∧ Below w.heap.size w w' := by
  have H1 : Hid (RoomyDoes pa na ca za w) := by
    intro W hW
    refine (roomy_any pa na ca za W hna (hA.later hW) hpa hl).mono ?_
    rintro e w' ⟨p, c, rfl, hO, hb⟩
    have hcap := hO.cap.1
    have hlen : (za ++ roomTail 60).length = na + 60 := by rw [List.length_append, hna, roomTail_len]
    obtain ⟨_, ⟨hv, h0⟩ | ⟨g, cap, cur, hv, _⟩⟩ := id hO.own
    · omega
    · simp only [Value.slice.injEq] at hv
      obtain ⟨rfl, _, _⟩ := hv
      exact ⟨g, c, rfl, by omega, hO, hb⟩
  have H2 : Hid (JoinedDoes s (Crc.add 0 za) (Crc.add s za) pa na ca za w) := by
    intro B w1 g c hO hW
    have hlen : (za ++ roomTail 60).length = na + 60 := by rw [List.length_append, hna, roomTail_len]
    refine (joined_any (some ⟨g, 0, none⟩) none (na + 60) c 0 0 (za ++ roomTail 60) [] w1 hlen rfl hO.bytes ⟨fun h => absurd h (by simp), fun z h => by cases h⟩ (fun h => by cases h) (fun _ => ⟨rfl, rfl⟩) (by omega)).mono ?_
    rintro e w' ⟨pb, cb, rfl, hO2, hb⟩
    rw [List.append_nil] at hO2
    have hbw := hW.trans (hb.mono hW.size)
    have hP := hO.bytes.later hb
    refine ⟨pb, cb, rfl, hb, ?_, fun h0 => ?_⟩
    · exact lent_mk s hs pa na ca za _ _ _ _ _ _ (za ++ roomTail 60) w' hna hl (hA.later hbw) hP.left (fun h => by cases h) (by omega) (hT.later hbw) hlen hP hO2.bytes
    · have hz : za = [] := List.eq_nil_of_length_eq_zero (by omega)
      exact lent_mk s hs pa na ca za _ _ _ _ _ _ (za ++ roomTail 60) w' hna hl (hA.later hbw) ⟨fun h => absurd h (by simp [hz]), hA.byte⟩ (fun _ => ⟨h0, rfl⟩) (by omega) (hT.later hbw) hlen hP hO2.bytes
  clear hA hpa hT
  by_cases hn : na = 0
  · subst hn
    by_cases hp : s % 2 = 0
    · by_cases k1 : k = 1
      · subst k1; exact plays_nil1 s _ _ hs pa ca za w hp H1 H2
      by_cases k2 : k = 2
      · subst k2; exact plays_nil2 s _ _ hs pa ca za w hp H1 H2
      by_cases k3 : k = 3
      · subst k3; exact plays_nil3 s _ _ hs pa ca za w hp H1 H2
      by_cases k4 : k = 4
      · subst k4; exact plays_nil4 s _ _ hs pa ca za w hp H1 H2
      by_cases k5 : k = 5
      · subst k5; exact plays_nil5 s _ _ hs pa ca za w hp H1 H2
      by_cases k6 : k = 6
      · subst k6; exact plays_nil6 s _ _ hs pa ca za w hp H1 H2
      exact plays_nil7 k k1 k2 k3 k4 k5 k6 s _ _ hs pa ca za w hp H1 H2
    · by_cases k1 : k = 1
      · subst k1; exact plays_odd1 s _ _ hs pa ca za w hp H1 H2
      by_cases k2 : k = 2
      · subst k2; exact plays_odd2 s _ _ hs pa ca za w hp H1 H2
      by_cases k3 : k = 3
      · subst k3; exact plays_odd3 s _ _ hs pa ca za w hp H1 H2
      by_cases k4 : k = 4
      · subst k4; exact plays_odd4 s _ _ hs pa ca za w hp H1 H2
      by_cases k5 : k = 5
      · subst k5; exact plays_odd5 s _ _ hs pa ca za w hp H1 H2
      by_cases k6 : k = 6
      · subst k6; exact plays_odd6 s _ _ hs pa ca za w hp H1 H2
      exact plays_odd7 k k1 k2 k3 k4 k5 k6 s _ _ hs pa ca za w hp H1 H2
  · by_cases k1 : k = 1
    · subst k1; exact plays_pos1 s _ _ hs pa ca za w na hl hn H1 H2
    by_cases k2 : k = 2
    · subst k2; exact plays_pos2 s _ _ hs pa ca za w na hl hn H1 H2
    by_cases k3 : k = 3
    · subst k3; exact plays_pos3 s _ _ hs pa ca za w na hl hn H1 H2
    by_cases k4 : k = 4
    · subst k4; exact plays_pos4 s _ _ hs pa ca za w na hl hn H1 H2
    by_cases k5 : k = 5
    · subst k5; exact plays_pos5 s _ _ hs pa ca za w na hl hn H1 H2
    by_cases k6 : k = 6
    · subst k6; exact plays_pos6 s _ _ hs pa ca za w na hl hn H1 H2
    exact plays_pos7 k k1 k2 k3 k4 k5 k6 s _ _ hs pa ca za w na hl hn H1 H2
end Go.Proofs.YtehmifdgfgngdacDoor
