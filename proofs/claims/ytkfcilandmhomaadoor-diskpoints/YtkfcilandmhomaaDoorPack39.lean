import Derived.Test.YtkfcilandmhomaaDoorPack38
import Derived.Test.YtkfcilandmhomaaDoorPack3
namespace Go.Proofs.YtkfcilandmhomaaDoor
open Go.RowKit
set_option maxRecDepth 8000
section
variable {Z : Nat → Prop} {w : World} {db : Nat} {D : DK} {A : AK}
theorem dm_append (hM : DM Z w db D) (hr : Rel D A) (s : ByteArray) (p : Option Addr) (c : Nat) (zs : List Int) (hs : s.size ≤ 140737488355328) (hB : Byts w Z p zs.length c (fun j => zs.getD j 0)) (hzl : zs.length ≤ 100000000) :
    Calls Tryd.prog 22 #[.pointer (some ⟨db, 0, none⟩), .string s, .slice p zs.length c] w fun e w' => e = .returned (.int .i64 (appA A s zs.length)) ∧ DQ Z w w' db (appK A s zs) := by
  obtain ⟨C, hI, h2, h3⟩ := hM
  refine (dappend_any D s p c zs w C Z db hI hr.ok hs hB (fun b hb hc => (h2 b hc).1 hb) h3 hzl).mono fun e w' hq => ?_
  obtain ⟨he, D', hc, hr'⟩ := hr.append_ (hr.wf hI) hq
  exact ⟨he, DQ.of h2 h3 hc hr'⟩
theorem dm_sync (hM : DM Z w db D) (hr : Rel D A) (s : ByteArray) (hs : s.size ≤ 140737488355328) :
    Calls Tryd.prog 16 #[.pointer (some ⟨db, 0, none⟩), .string s] w fun e w' => e = .returned (.int .i64 (chA A s)) ∧ DQ Z w w' db (syncK A s) := by
  obtain ⟨C, hI, h2, h3⟩ := hM
  refine (dsync_any D s w C db hI hr.ok hs).mono fun e w' hq => ?_
  exact ⟨by rw [hq.1, (hr.chA_ (hr.wf hI) s).1], DQ.of h2 h3 hq.2 (hr.sync_ (hr.wf hI) s)⟩
theorem dm_remove (hM : DM Z w db D) (hr : Rel D A) (s : ByteArray) (hs : s.size ≤ 140737488355328) :
    Calls Tryd.prog 29 #[.pointer (some ⟨db, 0, none⟩), .string s] w fun e w' => e = .returned (.int .i64 (chA A s)) ∧ DQ Z w w' db (rmK A s) := by
  obtain ⟨C, hI, h2, h3⟩ := hM
  refine (dremove_any D s w C db hI hr.ok hs).mono fun e w' hq => ?_
  exact ⟨by rw [hq.1, (hr.chA_ (hr.wf hI) s).1], DQ.of h2 h3 hq.2 (hr.remove_ (hr.wf hI) s)⟩
theorem dm_restart (hM : DM Z w db D) (hr : Rel D A) (K : LT Int) (hK : LT.In elInt w Z K) :
    Calls Tryd.prog 13 #[.pointer (some ⟨db, 0, none⟩), .slice K.p K.n K.c] w fun e w' => e = .returned (.tuple #[]) ∧ DQ Z w w' db (rstK A K) := by
  obtain ⟨C, hI, h2, h3⟩ := hM
  refine (drestart_any D K w C db hI (hK.mono fun k hk _ hc => (h2 k hc).1 hk)).mono fun e w' hq => ?_
  obtain ⟨D', hc, hr'⟩ := hr.rst_ (hr.wf hI) (fun f hf => (hI.each f hf).nm) hI.nodup hq.2
  exact ⟨hq.1, DQ.of h2 h3 hc hr'⟩
/-- what Read tells -/
def readK (A : AK) (s : ByteArray) : List Int := if readA A s = 0 then ((lkK A s).map fun k => k.2.1).getD [] else []
theorem dm_read (hM : DM Z w db D) (hr : Rel D A) (s : ByteArray) (hs : s.size ≤ 140737488355328) :
    Calls Tryd.prog 18 #[.pointer (some ⟨db, 0, none⟩), .string s] w fun e w' => ∃ (p : Option Addr) (c : Nat), e = .returned (.tuple #[.slice p (readK A s).length c, .int .i64 (readA A s)]) ∧ OwnBy w.heap.size w' (.slice p (readK A s).length c) (readK A s) ∧ Below w.heap.size w w' := by
  obtain ⟨C, hI, h2, h3⟩ := hM
  have he : readE D s = readA A s := hr.read_ s
  have hz : readZ D s = readK A s := by
    unfold readZ readK
    rw [← hr.lk s, ← he]
    unfold readE
    by_cases h0 : reachE D s = 0
    · rw [if_pos h0, if_pos h0]
      cases hf : fnd D s with
      | none => simp
      | some f => simp [FT.key]
    · rw [if_neg h0, if_neg h0, if_neg h0]
  refine (dread_any D s w C db hI hs).mono fun e w' hq => ?_
  obtain ⟨p, c, h4, h5, h6⟩ := hq
  rw [hz] at h4 h5
  rw [he] at h4
  exact ⟨p, c, h4, h5, h6⟩
/-- Files: the state's keys, in new memory -/
theorem dm_files (hM : DM Z w db D) (hr : Rel D A) :
    Calls Tryd.prog 12 #[.pointer (some ⟨db, 0, none⟩)] w fun e w' => ∃ u : LT FA, e = .returned (.slice u.p u.n u.c) ∧ LT.In elF w' (fun k => w.heap.size ≤ k) u ∧ u.n = A.ks.length ∧ (∀ j k, A.ks[j]? = some k → (u.item j).key = k) ∧ Below w.heap.size w w' := by
  obtain ⟨C, hI, h2, h3⟩ := hM
  refine (dfiles_any D w C db hI).mono fun e w' hq => ?_
  obtain ⟨u, YS, he, hu, hp, hs, hn, hk, hb⟩ := hq
  have ho := hr.order (fun f hf => (hI.each f hf).nm) hI.nodup hp hs
  have hl : YS.length = A.ks.length := by have := congrArg List.length ho; simpa using this
  refine ⟨u, he, hu, hn.trans hl, fun j k hjk => ?_, hb⟩
  have hj : j < u.n := by
    rcases Nat.lt_or_ge j A.ks.length with h1 | h1
    · omega
    · rw [List.getElem?_eq_none h1] at hjk; cases hjk
  obtain ⟨f, hf, hkf⟩ := hk j hj
  rw [hkf]
  rw [← ho, List.getElem?_map, hf] at hjk
  exact Option.some.inj hjk
end
end Go.Proofs.YtkfcilandmhomaaDoor

namespace Go.Proofs.YtkfcilandmhomaaDoor
open Go.RowKit
set_option maxRecDepth 8000
/-- the empty disk -/
def A0 : AK := ⟨[], false, -1, 0, 0⟩
def sA : ByteArray := ⟨#[97]⟩
def A1 : AK := ⟨[(sA, [5, 6], 0)], false, -1, 0, 0⟩
def A2 : AK := ⟨[(sA, [5, 6], 2)], false, -1, 0, 0⟩
theorem nm_sA : nmB sA = true := by decide
theorem lk_sA (z : List Int) (n : Int) : lkK ⟨[(sA, z, n)], false, -1, 0, 0⟩ sA = some (sA, z, n) := by
  unfold lkK
  simp
theorem w_beg (ks : List Key) : begA ⟨ks, false, -1, 0, 0⟩ sA = 0 ∧ begK ⟨ks, false, -1, 0, 0⟩ sA = ⟨ks, false, -1, 0, 0⟩ := by
  constructor
  · simp [begA, nm_sA]
  · simp [begK]
theorem w_pay (ks : List Key) (c : Int) : payA ⟨ks, false, -1, 0, 0⟩ c = 0 ∧ payK ⟨ks, false, -1, 0, 0⟩ c = ⟨ks, false, -1, 0, 0⟩ ∧ payM ⟨ks, false, -1, 0, 0⟩ c = c := by
  refine ⟨by simp [payA], by simp [payK], by simp [payM]⟩
theorem w_app : appA A0 sA 2 = 0 ∧ appK A0 sA [5, 6] = A1 := by
  obtain ⟨b1, b2⟩ := w_beg []
  obtain ⟨p1, p2, p3⟩ := w_pay [] ((2 : Int) + 1)
  have hf : apF A0 sA 2 = false := by simp [apF, lkK, A0]
  have hl : apL A0 sA 2 = 2 := by
    unfold apL
    rw [show begK A0 sA = A0 from b2]
    show (min (payM A0 ((2 : Int) + 1)) ((2 : Nat) : Int)).toNat = 2
    rw [show payM A0 ((2 : Int) + 1) = 2 + 1 from p3]
    decide
  constructor
  · unfold appA
    rw [if_pos (show begA A0 sA = 0 from b1), hf, if_neg (by simp), show begK A0 sA = A0 from b2]
    exact p1
  · unfold appK
    rw [if_pos (show begA A0 sA = 0 from b1)]
    show (if apF A0 sA 2 = true then _ else _) = A1
    rw [hf, if_neg (by simp), show begK A0 sA = A0 from b2]
    show ({ payK A0 ((2 : Int) + 1) with ks := appKs A0 sA [5, 6] } : AK) = A1
    rw [show payK A0 ((2 : Int) + 1) = A0 from p2]
    have : appKs A0 sA [5, 6] = [(sA, [5, 6], 0)] := by
      unfold appKs
      show insK (sA, [5, 6].take (apL A0 sA 2), 0) [] = _
      rw [hl]
      rfl
    rw [this]
    rfl
theorem w_ch (z : List Int) (n : Int) : chA ⟨[(sA, z, n)], false, -1, 0, 0⟩ sA = 0 ∧ chK ⟨[(sA, z, n)], false, -1, 0, 0⟩ sA = ⟨[(sA, z, n)], false, -1, 0, 0⟩ := by
  obtain ⟨b1, b2⟩ := w_beg [(sA, z, n)]
  obtain ⟨p1, p2, _⟩ := w_pay [(sA, z, n)] 1
  constructor
  · unfold chA
    rw [if_pos b1, lk_sA, if_pos (by rfl), b2]
    exact p1
  · unfold chK
    rw [if_pos ⟨b1, by rw [lk_sA]; rfl⟩, b2]
    exact p2
theorem w_sync : chA A1 sA = 0 ∧ syncK A1 sA = A2 := by
  obtain ⟨c1, c2⟩ := w_ch [5, 6] 0
  refine ⟨c1, ?_⟩
  unfold syncK
  rw [if_pos (show chA A1 sA = 0 from c1), show chK A1 sA = A1 from c2]
  unfold putK
  rw [show lkK A1 sA = some (sA, [5, 6], 0) from lk_sA _ _]
  show ({ A1 with ks := updK sA (synK (sA, [5, 6], 0)) [(sA, [5, 6], 0)] } : AK) = A2
  simp [updK, synK, A1, A2]
theorem w_rm : chA A2 sA = 0 ∧ rmK A2 sA = A0 := by
  obtain ⟨c1, c2⟩ := w_ch [5, 6] 2
  refine ⟨c1, ?_⟩
  unfold rmK
  rw [if_pos (show chA A2 sA = 0 from c1), show chK A2 sA = A2 from c2]
  simp [remK, A0, A2]
theorem w_read : readA A2 sA = 0 ∧ readK A2 sA = [5, 6] := by
  have h : readA A2 sA = 0 := by
    unfold readA
    rw [if_neg (by rw [nm_sA]; simp), if_neg (by simp [A2]), show lkK A2 sA = some (sA, [5, 6], 2) from lk_sA _ _]
    rfl
  refine ⟨h, ?_⟩
  unfold readK
  rw [if_pos h, show lkK A2 sA = some (sA, [5, 6], 2) from lk_sA _ _]
  rfl
end Go.Proofs.YtkfcilandmhomaaDoor

namespace Go.Proofs.YtkfcilandmhomaaDoor
open Go.RowKit
set_option maxRecDepth 8000
set_option maxHeartbeats 4000000 in
/-- is it a file's name, says the law -/
theorem named_any (s : ByteArray) (w : World) (hmx : s.size ≤ 140737488355328) : Calls Tryd.prog 25 #[.string s] w fun e w' => e = .returned (.bool (nmB s)) ∧ w' = w := by
  by_cases h0 : s.size < 1
  · have h0' : (s.size : Int) < 1 := by omega
    have hno : nmB s = false := by simp [nmB, show ¬ 0 < s.size by omega]
    rw [hno]
    go_enter Tryd.func25, Tryd.ntmps25
    go_wp2
    exact bodyPost_ret (v := .bool false) (by simp [results, Tryd.results25, go_sem]) rfl ⟨rfl, rfl⟩
  have h0' : ¬ (s.size : Int) < 1 := by omega
  by_cases h12 : 12 < s.size
  · have h12' : (12 : Int) < (s.size : Int) := by omega
    have hno : nmB s = false := by simp [nmB, show ¬ s.size ≤ 12 by omega]
    rw [hno]
    go_enter Tryd.func25, Tryd.ntmps25
    go_wp2
    exact bodyPost_ret (v := .bool false) (by simp [results, Tryd.results25, go_sem]) rfl ⟨rfl, rfl⟩
  have h12' : ¬ (12 : Int) < (s.size : Int) := by omega
  go_enter Tryd.func25, Tryd.ntmps25
  go_wp2_with fail
  go_loopw [3] (fun x wr => ∃ i : Nat, i ≤ s.size ∧ x = .int .i64 (i : Int) ∧ (∀ j (hj : j < s.size), j < i → okB (s[j]).toNat = true) ∧ wr = w) (fun x _ => s.size - (intOf x).toNat)
  case atStart => exact ⟨0, Nat.zero_le _, rfl, fun j hj h => absurd h (by omega), rfl⟩
  case round =>
    obtain ⟨i, hi, rfl, hok, rfl⟩ := hrel
    have HOk := hid hok
    clear hok
    by_cases hlt : i < s.size
    · have hlt' : (i : Int) < (s.size : Int) := by omega
      by_cases h1 : 97 ≤ (s[i]).toNat
      · by_cases h2 : (s[i]).toNat ≤ 122
        · have q0' : (97 : Int) ≤ ((s[i]).toNat : Int) := by omega
          have q1' : ((s[i]).toNat : Int) ≤ 122 := by omega
          have q2' : (48 : Int) ≤ ((s[i]).toNat : Int) := by omega
          have q3' : ¬ ((s[i]).toNat : Int) ≤ 57 := by omega
          have HNx : Hid (∀ j (hj : j < s.size), j < i + 1 → okB (s[j]).toNat = true) := by
            intro j hj h
            by_cases hji : j < i
            · exact HOk.out j hj hji
            · obtain rfl : j = i := by omega
              simp only [okB, Bool.or_eq_true, Bool.and_eq_true, decide_eq_true_eq, beq_iff_eq]
              omega
          go_wp2
          go_roundw
          case rel => exact ⟨i + 1, by omega, by go_num, HNx.out, trivial⟩
          case measure => simp [intOf]; omega
          
        · have q0' : (97 : Int) ≤ ((s[i]).toNat : Int) := by omega
          have q1' : ¬ ((s[i]).toNat : Int) ≤ 122 := by omega
          have q2' : (48 : Int) ≤ ((s[i]).toNat : Int) := by omega
          have q3' : ¬ ((s[i]).toNat : Int) ≤ 57 := by omega
          have q4' : (((s[i]).toNat : Int) == 45) = false := by simp; omega
          have HNo : Hid (nmB s = false) := by
            show nmB s = false
            cases h : nmB s with
            | false => rfl
            | true =>
              have h5 := ((nmB_iff s).1 h).ok i hlt
              simp only [okB, Bool.or_eq_true, Bool.and_eq_true, decide_eq_true_eq, beq_iff_eq] at h5
              omega
          go_wp2
          exact bodyPost_ret (v := .bool false) (by simp [results, Tryd.results25, go_sem]) rfl ⟨by rw [HNo.out], rfl⟩
          
      · by_cases h3 : 48 ≤ (s[i]).toNat
        · by_cases h4 : (s[i]).toNat ≤ 57
          · have q0' : ¬ (97 : Int) ≤ ((s[i]).toNat : Int) := by omega
            have q1' : (48 : Int) ≤ ((s[i]).toNat : Int) := by omega
            have q2' : ((s[i]).toNat : Int) ≤ 57 := by omega
            have HNx : Hid (∀ j (hj : j < s.size), j < i + 1 → okB (s[j]).toNat = true) := by
              intro j hj h
              by_cases hji : j < i
              · exact HOk.out j hj hji
              · obtain rfl : j = i := by omega
                simp only [okB, Bool.or_eq_true, Bool.and_eq_true, decide_eq_true_eq, beq_iff_eq]
                omega
            go_wp2
            go_roundw
            case rel => exact ⟨i + 1, by omega, by go_num, HNx.out, trivial⟩
            case measure => simp [intOf]; omega
            
          · have q0' : ¬ (97 : Int) ≤ ((s[i]).toNat : Int) := by omega
            have q1' : (48 : Int) ≤ ((s[i]).toNat : Int) := by omega
            have q2' : ¬ ((s[i]).toNat : Int) ≤ 57 := by omega
            have q3' : (((s[i]).toNat : Int) == 45) = false := by simp; omega
            have HNo : Hid (nmB s = false) := by
              show nmB s = false
              cases h : nmB s with
              | false => rfl
              | true =>
                have h5 := ((nmB_iff s).1 h).ok i hlt
                simp only [okB, Bool.or_eq_true, Bool.and_eq_true, decide_eq_true_eq, beq_iff_eq] at h5
                omega
            go_wp2
            exact bodyPost_ret (v := .bool false) (by simp [results, Tryd.results25, go_sem]) rfl ⟨by rw [HNo.out], rfl⟩
            
        · by_cases h5 : (s[i]).toNat = 45
          · have q0' : ¬ (97 : Int) ≤ ((s[i]).toNat : Int) := by omega
            have q1' : ¬ (48 : Int) ≤ ((s[i]).toNat : Int) := by omega
            have q2' : (((s[i]).toNat : Int) == 45) = true := by simp; omega
            have HNx : Hid (∀ j (hj : j < s.size), j < i + 1 → okB (s[j]).toNat = true) := by
              intro j hj h
              by_cases hji : j < i
              · exact HOk.out j hj hji
              · obtain rfl : j = i := by omega
                simp only [okB, Bool.or_eq_true, Bool.and_eq_true, decide_eq_true_eq, beq_iff_eq]
                omega
            go_wp2
            go_roundw
            case rel => exact ⟨i + 1, by omega, by go_num, HNx.out, trivial⟩
            case measure => simp [intOf]; omega
            
          · have q0' : ¬ (97 : Int) ≤ ((s[i]).toNat : Int) := by omega
            have q1' : ¬ (48 : Int) ≤ ((s[i]).toNat : Int) := by omega
            have q2' : (((s[i]).toNat : Int) == 45) = false := by simp; omega
            have HNo : Hid (nmB s = false) := by
              show nmB s = false
              cases h : nmB s with
              | false => rfl
              | true =>
                have h5 := ((nmB_iff s).1 h).ok i hlt
                simp only [okB, Bool.or_eq_true, Bool.and_eq_true, decide_eq_true_eq, beq_iff_eq] at h5
                omega
            go_wp2
            exact bodyPost_ret (v := .bool false) (by simp [results, Tryd.results25, go_sem]) rfl ⟨by rw [HNo.out], rfl⟩
            
    · have hlt' : ¬ (i : Int) < (s.size : Int) := by omega
      have hyes : Hid (nmB s = true) := by
        show nmB s = true
        exact (nmB_iff s).2 ⟨by omega, by omega, fun j hj => HOk.out j hj (by omega)⟩
      go_wp2
      exact bodyPost_ret (v := .bool true) (by simp [results, Tryd.results25, go_sem]) rfl ⟨by rw [hyes.out], rfl⟩
end Go.Proofs.YtkfcilandmhomaaDoor
