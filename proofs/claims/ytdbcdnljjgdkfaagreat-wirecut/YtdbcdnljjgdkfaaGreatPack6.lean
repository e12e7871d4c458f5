import Derived.Test.YtdbcdnljjgdkfaaGreatPack5
import Derived.Defers
import Derived.Recover
namespace Go.Proofs.YtdbcdnljjgdkfaaGreat
open Go.RowKit
set_option maxRecDepth 8000

/-- the reader in memory: what is left, and the first error -/
structure Rdr (w : World) (S : Nat → Prop) (rb : Nat) (L : List Int) (e : Int) : Prop where
  box : ∃ p, Box w rb #[.slice p L.length L.length, .int .i64 e] 151 ∧ Byts w S p L.length L.length (fun j => L.getD j 0)
  out : ¬ S rb
theorem Rdr.below {w w' : World} {S : Nat → Prop} {rb : Nat} {L : List Int} {e : Int} (h : Rdr w S rb L e) (hb : Below w.heap.size w w') : Rdr w' S rb L e := by
  obtain ⟨⟨p, hx, hy⟩, ho⟩ := h
  exact ⟨⟨p, hx.below hb, hy.kept hb.size fun b _ hl => hb.block b hl⟩, ho⟩
theorem Rdr.but {w w' : World} {S X : Nat → Prop} {rb : Nat} {L : List Int} {e : Int} (h : Rdr w S rb L e) (hb : But X w w') (hx : ¬ X rb) (hS : ∀ b, S b → b < w.heap.size → ¬ X b) : Rdr w' S rb L e := by
  obtain ⟨⟨p, hx2, hy⟩, ho⟩ := h
  exact ⟨⟨p, hx2.but hb hx, hy.kept hb.size fun b hb2 hl => hb.block b hl (hS b hb2 hl)⟩, ho⟩
theorem Rdr.lt {w : World} {S : Nat → Prop} {rb : Nat} {L : List Int} {e : Int} (h : Rdr w S rb L e) : rb < w.heap.size := by
  obtain ⟨⟨p, hx, _⟩, _⟩ := h
  exact hx.lt
/-- what a call leaves -/
structure RdS {α : Type} (s : RS α) (ok : α → Prop) (w : World) (S : Nat → Prop) (rb : Nat) (L : List Int) (e : Int) (R : List Int) (e' : Int) (w' : World) : Prop where
  rr : RR s ok L e R e'
  rd : Rdr w' S rb R e'
  kp : But (fun y => y = rb) w w'

def FailPost (w : World) (S : Nat → Prop) (rb : Nat) (L : List Int) (e k : Int) (x : Ending) (w' : World) : Prop := x = .returned (.tuple #[]) ∧ Rdr w' S rb L (if e = 0 then k else e) ∧ But (fun y => y = rb) w w'
set_option maxHeartbeats 1000000 in
theorem wrFail_any (w : World) (S : Nat → Prop) (rb : Nat) (L : List Int) (e k : Int) (h : Rdr w S rb L e) : Calls Tryz.prog 88 #[.pointer (some ⟨rb, 0, none⟩), .int .i64 k] w fun x w' => FailPost w S rb L e k x w' := by
  obtain ⟨⟨p, hx, hy⟩, ho⟩ := id h
  have x1 := hx.cell 1
  have f1 := hx.frozen 1
  simp at x1
  have HX := hid hx
  have HY := hid hy
  have HH := hid h
  clear h hx hy
  by_cases he : e = 0
  · subst he
    go_enter Tryz.func88, Tryz.ntmps88
    go_wp2
    have hbx : Box (w.setCell ⟨rb, 1, none⟩ (.int .i64 k)) rb #[.slice p L.length L.length, .int .i64 k] 151 := by
      have h := HX.out.set 1 (.int .i64 k)
      simpa using h
    have hk := (But.one w rb).setAt 1 (.int .i64 k)
    refine bodyPost_end (results_none rfl _ _ _) rfl ⟨rfl, ⟨⟨p, by rw [if_pos rfl]; exact hbx, HY.out.kept hk.size fun b hb hl => hk.block b hl (fun e => ho (e ▸ hb))⟩, ho⟩, hk⟩
  · have he' : (e == 0) = false := by simpa using he
    go_enter Tryz.func88, Tryz.ntmps88
    go_wp2
    refine bodyPost_end (results_none rfl _ _ _) rfl ⟨rfl, by rw [if_neg he]; exact HH.out, But.refl _ _⟩

/-- what taking n bytes comes to -/
def TakeP (w : World) (S : Nat → Prop) (rb : Nat) (L : List Int) (e : Int) (n : Nat) (x : Ending) (w' : World) : Prop :=
  ∃ p T R e', x = .returned (.slice p T.length T.length) ∧ Byts w' S p T.length T.length (fun j => T.getD j 0) ∧ RdS (takeS n) (fun y => T = y) w S rb L e R e' w' ∧ (e' ≠ 0 → T = [])
theorem getD_drop (L : List Int) (n j : Nat) : (L.drop n).getD j 0 = L.getD (n + j) 0 := by simp [List.getD_eq_getElem?_getD, List.getElem?_drop]
theorem getD_take {L : List Int} {n j : Nat} (h : j < n) : (L.take n).getD j 0 = L.getD j 0 := by simp [List.getD_eq_getElem?_getD, h]
/-- the first bytes, and those behind them -/
theorem Byts.cut {w : World} {S : Nat → Prop} {p q : Option Addr} {L : List Int} {n : Nat} (h : Byts w S p L.length L.length (fun j => L.getD j 0)) (hn : n ≤ L.length) (hp : p = none → L.length = 0) (hq : n < L.length → q = from_ p n) :
    Byts w S p (L.take n).length (L.take n).length (fun j => (L.take n).getD j 0) ∧ Byts w S q (L.drop n).length (L.drop n).length (fun j => (L.drop n).getD j 0) := by
  have h1 : (L.take n).length = n := by simp [hn]
  have h2 : (L.drop n).length = L.length - n := by simp
  have hnn := h.nn
  have hcc := h.cc
  rw [h1, h2]
  refine ⟨⟨fun h0 => ?_, Nat.le_refl _, by omega, by omega, fun j hj => ?_, fun hpn => ?_⟩, ⟨fun h0 => ?_, Nat.le_refl _, by omega, by omega, fun j hj => ?_, fun hpn => ?_⟩⟩
  · obtain ⟨b, o, e, hS, hl, ha⟩ := h.at_ (by omega)
    exact ⟨b, o, e, hS, hl, fun j hj => by rw [getD_take hj]; exact ha j (by omega)⟩
  · have := h.fit j (by omega)
    rw [getD_take hj]
    exact this
  · have := hp hpn
    omega
  · obtain ⟨b, o, e, hS, hl, ha⟩ := h.at_ (by omega)
    refine ⟨b, o + n, by rw [hq (by omega), e]; simp [from_, Addr.add], hS, hl, fun j hj => ?_⟩
    rw [getD_drop, Nat.add_assoc]
    exact ha (n + j) (by omega)
  · have := h.fit (n + j) (by omega)
    rw [getD_drop]
    exact this
  · rcases Nat.lt_or_ge n L.length with h3 | h3
    · have h4 := hq h3
      rw [hpn] at h4
      cases p with
      | none => have := hp rfl; omega
      | some a => simp [from_] at h4
    · omega
theorem RdS.keepFail {α : Type} {s : RS α} {ok : α → Prop} {w w' : World} {S : Nat → Prop} {rb : Nat} {L : List Int} {e : Int} {k : Nat} (h : RR s ok L e L (if e = 0 then (k : Int) else e)) (hf : Rdr w' S rb L (if e = 0 then (k : Int) else e)) (hk : But (fun y => y = rb) w w') : RdS s ok w S rb L e L (if e = 0 then (k : Int) else e) w' := ⟨h, hf, hk⟩

set_option maxHeartbeats 2000000 in
theorem wrTake_any (w : World) (S : Nat → Prop) (rb : Nat) (L : List Int) (e : Int) (n : Nat) (hn : n ≤ 140737488355328) (h : Rdr w S rb L e) : Calls Tryz.prog 108 #[.pointer (some ⟨rb, 0, none⟩), .int .i64 n] w fun x w' => TakeP w S rb L e n x w' := by
  obtain ⟨⟨p, hx, hy⟩, ho⟩ := id h
  have x0 := hx.cell 0
  have x1 := hx.cell 1
  have f0 := hx.frozen 0
  simp at x0 x1
  have hnn := hy.nn
  have HX := hid hx
  have HY := hid hy
  have HH := hid h
  clear h hx hy
  obtain ⟨m, hm⟩ : ∃ m, m = L.length := ⟨_, rfl⟩
  rw [← hm] at x0 hnn
  have hp0 : p = none → L.length = 0 := fun hp => (HY.out.nil hp).1
  by_cases hlt : m < n
  · have hlt' : (m : Int) < (n : Int) := by omega
    have HF := hid (wrFail_any w S rb L e 40 HH.out)
    go_enter Tryz.func108, Tryz.ntmps108
    go_wp2_with fail
    refine HF.out.mono ?_
    rintro x w1 ⟨rfl, hr1, hk1⟩
    obtain ⟨⟨p2, hx2, hy2⟩, _⟩ := id hr1
    have y1 := hx2.cell 1
    simp at y1
    have hne : (if e = 0 then (40 : Int) else e) ≠ 0 := by split <;> omega
    have HR := hid hr1
    have HK := hid hk1
    have HNe := hid hne
    clear hx2 hy2 hr1 hk1 HF x0 x1 f0 p2
    generalize hE : (if e = 0 then (40 : Int) else e) = E at *
    have hE' : (E == 0) = false := by simpa using hne
    go_wp2
    go_ret
    refine ⟨none, [], L, E, rfl, ⟨fun h => absurd h (by simp), Nat.le_refl _, Nat.zero_le _, Nat.zero_le _, fun j hj => absurd hj (by simp), fun _ => ⟨rfl, rfl⟩⟩, ⟨⟨fun he => ?_, fun he y T hT => ?_, fun he k hk => ?_⟩, HR.out, HK.out⟩, fun _ => rfl⟩
    · rw [← hE, if_neg he]
    · unfold takeS at hT
      rw [if_neg (by omega)] at hT
      cases hT
    · unfold takeS at hk
      rw [if_neg (by omega)] at hk
      cases hk
      exact ⟨by rw [← hE, if_pos he]; rfl, HNe.out⟩
  · have hlt' : ¬ (m : Int) < (n : Int) := by omega
    by_cases he : e = 0
    · subst he
      have hn1 : (n : Int) ≤ (m : Int) := by omega
      have hmc : m ≤ maxLen := by have := HY.out.cc; omega
      have hmn : (0 : Int) ≤ (m : Int) := by omega
      have hn0 : (0 : Int) ≤ (n : Int) := by omega
      have fin : ∀ (q : Option Addr) (W : World), W = (w.setCell ⟨rb, 0, none⟩ (.slice q (m - n) (m - n))).drew → (n < m → q = from_ p n) → (p = none → n = 0) → TakeP w S rb L 0 n (.returned (.slice p n n)) W := by
        intro q W hW hq hpn
        obtain ⟨c1, c2⟩ := Byts.cut (q := q) HY.out (show n ≤ L.length by omega) hp0 (fun h => hq (by omega))
        have l1 : (L.take n).length = n := by simp; omega
        have l2 : (L.drop n).length = m - n := by simp [hm]
        have hk := ((But.one w rb).setAt 0 (.slice q (m - n) (m - n))).drew
        rw [← hW] at hk
        have hbx : Box W rb #[.slice q (L.drop n).length (L.drop n).length, .int .i64 0] 151 := by
          rw [hW, l2]
          have h := (HX.out.set 0 (.slice q (m - n) (m - n))).below (Below.refl _ _).drew
          simpa using h
        have kp : ∀ {r : Option Addr} {a b : Nat} {f : Nat → Int}, Byts w S r a b f → Byts W S r a b f := fun h => h.kept hk.size fun b hb hl => hk.block b hl (fun e => ho (e ▸ hb))
        refine ⟨p, L.take n, L.drop n, 0, by rw [l1], kp c1, ⟨⟨fun h => absurd rfl h, fun _ y T hT => ?_, fun _ k hk => ?_⟩, ⟨⟨q, hbx, kp c2⟩, ho⟩, hk⟩, fun h => absurd rfl h⟩
        · unfold takeS at hT
          rw [if_pos (by omega)] at hT
          cases hT
          exact ⟨rfl, rfl, rfl⟩
        · unfold takeS at hk
          rw [if_pos (by omega)] at hk
          cases hk
      have FIN := hid fin
      have HM := hid hm
      clear fin hm
      cases p with
      | none =>
        have h0 := hp0 rfl
        obtain rfl : m = 0 := by have := HM.out; omega
        obtain rfl : n = 0 := by omega
        clear h0 hp0 hn1 hmn hn0 hlt hlt' hnn hmc hn
        go_enter Tryz.func108, Tryz.ntmps108
        go_wp2_with fail
        go_region
        go_wp2
        go_ret
        exact FIN.out none _ rfl (fun h => by omega) (by simp)
      | some ad =>
        by_cases hmn2 : m = n
        · subst hmn2
          go_enter Tryz.func108, Tryz.ntmps108
          go_wp2_with fail
          go_region
          go_wp2
          go_ret
          exact FIN.out (some ad) _ (by rw [Nat.sub_self]) (fun h => by omega) (fun h => by cases h)
        · go_enter Tryz.func108, Tryz.ntmps108
          go_wp2_with fail
          go_region
          go_wp2
          go_ret
          exact FIN.out _ _ rfl (fun h => rfl) (fun h => by cases h)
    · have he' : (e == 0) = false := by simpa using he
      go_enter Tryz.func108, Tryz.ntmps108
      go_wp2
      go_ret
      exact ⟨none, [], L, e, rfl, ⟨fun h => absurd h (by simp), Nat.le_refl _, Nat.zero_le _, Nat.zero_le _, fun j hj => absurd hj (by simp), fun _ => ⟨rfl, rfl⟩⟩, ⟨⟨fun _ => rfl, fun h => absurd h he, fun h => absurd h he⟩, HH.out, But.refl _ _⟩, fun _ => rfl⟩
end Go.Proofs.YtdbcdnljjgdkfaaGreat

namespace Go.Proofs.YtdbcdnljjgdkfaaGreat
open Go.RowKit
set_option maxRecDepth 8000

/-- what the end of a number comes to -/
def endS (n bound : Nat) (idle : Bool) : RS Nat := if idle = true then failS 41 else if bound < n then failS 43 else retS n
def NumP (s : RS Nat) (most : Nat) (w : World) (S : Nat → Prop) (rb : Nat) (L : List Int) (e : Int) (x : Ending) (w' : World) : Prop :=
  ∃ (r : Nat) (R : List Int) (e' : Int), x = .returned (.int .i64 (r : Int)) ∧ RdS s (fun y => r = y) w S rb L e R e' w' ∧ r ≤ most ∧ (e' ≠ 0 → r = 0)
theorem RR.fail_ {α : Type} {ok : α → Prop} {L : List Int} {k : Nat} (hk : k ≠ 0) : RR (failS k : RS α) ok L 0 L (if (0 : Int) = 0 then (k : Int) else 0) :=
  ⟨fun h => absurd rfl h, fun _ y T h => (by cases h), fun _ k2 h => (by cases h; exact ⟨by simp, by simp; omega⟩)⟩

set_option maxHeartbeats 1000000 in
theorem wrEnded_any (w : World) (S : Nat → Prop) (rb : Nat) (L : List Int) (n bound : Nat) (idle : Bool) (hn : n < 34359738368) (hb : bound < 34359738368) (h : Rdr w S rb L 0) : Calls Tryz.prog 109 #[.pointer (some ⟨rb, 0, none⟩), .int .u64 n, .int .i64 bound, .bool idle] w fun x w' => NumP (endS n bound idle) bound w S rb L 0 x w' := by
  have HF1 := hid (wrFail_any w S rb L 0 41 h)
  have HF2 := hid (wrFail_any w S rb L 0 43 h)
  have HH := hid h
  clear h
  cases idle with
  | true =>
    go_enter Tryz.func109, Tryz.ntmps109
    go_wp2_with fail
    refine HF1.out.mono ?_
    rintro x w1 ⟨rfl, hr1, hk1⟩
    have HR := hid hr1
    have HK := hid hk1
    clear hr1 hk1 HF1 HF2
    go_wp2
    go_ret
    exact ⟨0, L, _, rfl, ⟨RR.fail_ (by decide), HR.out, HK.out⟩, Nat.zero_le _, fun _ => rfl⟩
  | false =>
    by_cases hlt : bound < n
    · have hlt' : (bound : Int) < (n : Int) := by omega
      have e1 : endS n bound false = failS 43 := by unfold endS; rw [if_neg (by decide), if_pos hlt]
      rw [e1]
      go_enter Tryz.func109, Tryz.ntmps109
      go_wp2_with fail
      refine HF2.out.mono ?_
      rintro x w1 ⟨rfl, hr1, hk1⟩
      have HR := hid hr1
      have HK := hid hk1
      clear hr1 hk1 HF1 HF2
      go_wp2
      go_ret
      exact ⟨0, L, _, rfl, ⟨RR.fail_ (by decide), HR.out, HK.out⟩, Nat.zero_le _, fun _ => rfl⟩
    · have hlt' : ¬ (bound : Int) < (n : Int) := by omega
      have e1 : endS n bound false = retS n := by unfold endS; rw [if_neg (by decide), if_neg hlt]
      rw [e1]
      go_enter Tryz.func109, Tryz.ntmps109
      go_wp2
      go_ret
      exact ⟨n, L, 0, by first | rfl | go_num, ⟨RR.ret fun _ => rfl, HH.out, But.refl _ _⟩, by omega, fun h => absurd rfl h⟩

theorem and128lo (c : Nat) (h : c < 128) : bits BinOp.and IntKind.u8 (c : Int) 128 = 0 := by
  have h2 : ∀ v : Nat, v < 128 → bits BinOp.and IntKind.u8 (v : Int) 128 = 0 := by decide
  exact h2 c h
theorem and128hi (c : Nat) (h : c < 256) (h1 : ¬ c < 128) : bits BinOp.and IntKind.u8 (c : Int) 128 = 128 := by
  have h2 : ∀ v : Nat, v < 256 → ¬ v < 128 → bits BinOp.and IntKind.u8 (v : Int) 128 = 128 := by decide
  exact h2 c h h1
theorem numG_nil (bound k i u : Nat) : numG bound (k + 1) i u [] = .error 40 := rfl
theorem numG_lo {bound k i u C : Nat} {R : List Int} (h : C < 128) : numG bound (k + 1) i u ((C : Int) :: R) = endS (u ||| C % 128 * 2 ^ (7 * i)) bound (decide (0 < i ∧ C = 0)) R := by
  simp [numG, bindS, takeS, endS, h]
theorem numG_hi {bound k i u C : Nat} {R : List Int} (h : ¬ C < 128) : numG bound (k + 1) i u ((C : Int) :: R) = numG bound k (i + 1) (u ||| C % 128 * 2 ^ (7 * i)) R := by
  simp [numG, bindS, takeS, h]
theorem RR.eq {α : Type} {s s2 : RS α} {ok : α → Prop} {L L2 R : List Int} {e' : Int} (h : RR s2 ok L2 0 R e') (e : s L = s2 L2) : RR s ok L 0 R e' :=
  ⟨fun h => absurd rfl h, fun _ y T hy => h.good rfl y T (by rw [← e]; exact hy), fun _ k hk => h.bad rfl k (by rw [← e]; exact hk)⟩
theorem RR.err {α : Type} {s : RS α} {ok : α → Prop} {L R : List Int} {k : Nat} {e' : Int} (e : s L = .error k) (h : e' = (k : Int)) (h0 : k ≠ 0) : RR s ok L 0 R e' :=
  ⟨fun h => absurd rfl h, fun _ y T hy => (by rw [e] at hy; cases hy), fun _ k2 hk => (by rw [e] at hk; cases hk; exact ⟨h, by omega⟩)⟩

set_option maxHeartbeats 4000000 in
theorem wrNumber_any (w : World) (S : Nat → Prop) (rb : Nat) (L : List Int) (e : Int) (bound : Nat) (hb : bound < 34359738368) (h : Rdr w S rb L e) : Calls Tryz.prog 89 #[.pointer (some ⟨rb, 0, none⟩), .int .i64 bound] w fun x w' => NumP (numS bound) bound w S rb L e x w' := by
  by_cases he : e = 0
  · subst he
    have HH := hid h
    clear h
    obtain ⟨Z, hZ⟩ : ∃ Z, Z = numG bound 5 0 0 L := ⟨_, rfl⟩
    have HZ := hid hZ
    clear hZ
    go_enter Tryz.func89, Tryz.ntmps89
    go_wp2_with fail
    go_loopw [5, 8] (fun y x wr => ∃ (i u : Nat) (R : List Int), i ≤ 5 ∧ y = .int .u64 (u : Int) ∧ x = .int .i64 (i : Int) ∧ u < 2 ^ (7 * i) ∧ Rdr wr S rb R 0 ∧ But (fun y => y = rb) w wr ∧ numG bound (5 - i) i u R = Z) (fun _ x _ => 5 - (intOf x).toNat)
    case atStart => exact ⟨0, 0, L, by omega, rfl, rfl, by decide, HH.out, But.refl _ _, HZ.out.symm⟩
    case round =>
      obtain ⟨i, u, R, hi, rfl, rfl, hu, hr, hk, hg⟩ := hrel
      have HR := hid hr
      have HK := hid hk
      have HG := hid hg
      clear hr hk hg
      by_cases hi5 : i = 5
      · subst hi5
        have HF := hid (wrFail_any wr S rb R 0 41 HR.out)
        go_wp2_with fail
        refine HF.out.mono ?_
        rintro x w1 ⟨rfl, hr1, hk1⟩
        have HR1 := hid hr1
        have HK1 := hid (HK.out.trans hk1)
        clear hr1 hk1 HF
        go_wp2
        go_ret
        refine ⟨0, R, _, rfl, ⟨RR.err (k := 41) (by have h1 := HG.out; rw [HZ.out] at h1; exact h1.symm) (by simp) (by decide), HR1.out, HK1.out⟩, Nat.zero_le _, fun _ => rfl⟩
      · have hi' : (i : Int) < 5 := by omega
        have HT := hid (wrTake_any wr S rb R 0 1 (by omega) HR.out)
        have HE : Hid (5 - i = (4 - i) + 1) := by unfold Hid; omega
        go_wp2_with fail
        refine HT.out.mono ?_
        rintro x w1 ⟨p, T, R1, e1, rfl, hby, ⟨hrr, hrd, hkp⟩, hT0⟩
        cases R with
        | nil =>
          obtain ⟨h1, h2⟩ := hrr.bad rfl 40 rfl
          have h3 := hT0 h2
          subst h3
          have HRd := hid hrd
          have HKp := hid (HK.out.trans hkp)
          have HE1 := hid h1
          clear hby hrr hrd hkp hT0 HT h1 h2
          go_wp2
          go_ret
          refine ⟨0, R1, _, rfl, ⟨RR.err (k := 40) (by have h1 := HG.out; rw [HE.out, numG_nil] at h1; rw [h1, HZ.out]; rfl) HE1.out (by decide), HRd.out, HKp.out⟩, Nat.zero_le _, fun _ => rfl⟩
        | cons x R2 =>
          obtain ⟨h1, h2, h3⟩ := hrr.good rfl [x] R2 rfl
          subst h1 h2 h3
          obtain ⟨hf1, hf2⟩ := hby.fit 0 (by simp)
          simp at hf1 hf2
          obtain ⟨C, rfl⟩ := Int.eq_ofNat_of_zero_le hf1
          have hC2 : C < 256 := by omega
          obtain ⟨b0, o0, hp, _, _, hat⟩ := hby.at_ (by simp)
          subst hp
          have y0 := hat 0 (by simp)
          simp at y0
          have HRd := hid hrd
          have HKp := hid (HK.out.trans hkp)
          have e1 := andnot128 C hC2
          clear hby hrr hrd hkp hT0 HT hat hf1 hf2
          simp only [List.length_singleton]
          have hV : C % 128 * 2 ^ (7 * i) < 2 ^ (7 * (i + 1)) := by
            rw [pow7]
            have hp : 0 < 2 ^ (7 * i) := Nat.two_pow_pos _
            exact Nat.mul_lt_mul_of_pos_right (by omega) hp
          have hu2 : u < 2 ^ (7 * (i + 1)) := by
            rw [pow7]
            have hp : 0 < 2 ^ (7 * i) := Nat.two_pow_pos _
            omega
          have hU := Nat.or_lt_two_pow hu2 hV
          have h64 : 2 ^ (7 * (i + 1)) ≤ 34359738368 := by
            have h7 : (2 : Nat) ^ (7 * (i + 1)) ≤ 2 ^ 35 := Nat.pow_le_pow_right (by omega) (by omega)
            exact h7
          have hor := bits_or_u64_nat u (C % 128 * 2 ^ (7 * i)) (by omega) (by omega)
          have HU := hid hU
          have HUl := hid (Nat.lt_of_lt_of_le hU h64)
          clear hU hu2 h64
          have HGl : Hid (C < 128 → Z = endS (u ||| C % 128 * 2 ^ (7 * i)) bound (decide (0 < i ∧ C = 0)) R1) := fun h => by
            have h1 := HG.out
            rw [HE.out, numG_lo h] at h1
            exact h1.symm
          have HGh : Hid (¬ C < 128 → numG bound (5 - (i + 1)) (i + 1) (u ||| C % 128 * 2 ^ (7 * i)) R1 = Z) := fun h => by
            have h1 := HG.out
            rw [HE.out, numG_hi h] at h1
            rw [show 5 - (i + 1) = 4 - i by omega]
            exact h1
          obtain ⟨V, hVe⟩ : ∃ V, V = C % 128 * 2 ^ (7 * i) := ⟨_, rfl⟩
          rw [← hVe] at hor HU HUl HGl HGh hV
          obtain ⟨U, hUe⟩ : ∃ U, U = u ||| V := ⟨_, rfl⟩
          rw [← hUe] at hor HU HUl HGl HGh
          have HVe := hid hVe
          clear hVe hUe
          by_cases hlt : C < 128
          · have eA := and128lo C hlt
            have HGl := hid (HGl.out hlt)
            have HEn : Hid (∀ b : Bool, b = decide (0 < i ∧ C = 0) → Calls Tryz.prog 109 #[.pointer (some ⟨rb, 0, none⟩), .int .u64 U, .int .i64 bound, .bool b] w1 fun x w' => NumP (endS U bound (decide (0 < i ∧ C = 0))) bound w1 S rb R1 0 x w') := fun b hb2 => by
              rw [hb2]
              exact wrEnded_any w1 S rb R1 U bound _ HUl.out hb HRd.out
            have key : Hid (∀ x w', NumP (endS U bound (decide (0 < i ∧ C = 0))) bound w1 S rb R1 0 x w' → NumP (numS bound) bound w S rb L 0 x w') := fun x w' hP => by
              obtain ⟨r, R3, e3, hx, ⟨a1, a2, a3⟩, hm⟩ := hP
              exact ⟨r, R3, e3, hx, ⟨RR.eq a1 (by rw [← HGl.out]; exact HZ.out.symm), a2, HKp.out.trans a3⟩, hm⟩
            clear HGh HG HZ hlt
            have hi4 : i ≤ 4 := by omega
            have h32 : (u : Int) < 34359738368 := by
              have h7 : (2 : Nat) ^ (7 * i) ≤ 2 ^ 35 := Nat.pow_le_pow_right (by omega) (by omega)
              have h8 := Nat.lt_of_lt_of_le hu h7
              omega
            by_cases hi0 : i = 0
            · subst hi0
              have e0 : (C : Int) % 128 = (V : Int) := by have := HVe.out; omega
              have HEn := hid (HEn.out false (by simp))
              go_wp2_with fail
              exact HEn.out.mono fun x w' hP => by
                obtain ⟨r, R3, e3, rfl, a1, a2⟩ := hP
                have HF := hid (key.out _ w' ⟨r, R3, e3, rfl, a1, a2⟩)
                clear a1 a2 key HEn
                go_wp2
                go_ret
                exact HF.out
            · have h1' : (0 : Int) < (i : Int) := by omega
              have e0 : IntKind.u64.wrap ((C : Int) % 128 * 2 ^ (7 * i)) = (V : Int) := by
                have h2 : (C : Int) % 128 * 2 ^ (7 * i) = (V : Int) := by rw [HVe.out]; simp
                have h7 : (2 : Nat) ^ (7 * (i + 1)) ≤ 2 ^ 35 := Nat.pow_le_pow_right (by omega) (by omega)
                have h8 := Nat.lt_of_lt_of_le hV h7
                rw [h2, wrap_u64]; omega
              clear h32 hi4 hu hV hi5
              by_cases hC0 : C = 0
              · have HEn := hid (HEn.out true (by simp; omega))
                have hC0' : ((C : Int) == 0) = true := by rw [hC0]; rfl
                clear hC0
                go_wp2_with fail
                exact HEn.out.mono fun x w' hP => by
                  obtain ⟨r, R3, e3, rfl, a1, a2⟩ := hP
                  have HF := hid (key.out _ w' ⟨r, R3, e3, rfl, a1, a2⟩)
                  clear a1 a2 key HEn
                  go_wp2
                  go_ret
                  exact HF.out
              · have HEn := hid (HEn.out false (by simp; omega))
                have hC0' : ((C : Int) == 0) = false := by simpa using hC0
                go_wp2_with fail
                exact HEn.out.mono fun x w' hP => by
                  obtain ⟨r, R3, e3, rfl, a1, a2⟩ := hP
                  have HF := hid (key.out _ w' ⟨r, R3, e3, rfl, a1, a2⟩)
                  clear a1 a2 key HEn
                  go_wp2
                  go_ret
                  exact HF.out
          · have eA := and128hi C hC2 hlt
            have HGh := hid (HGh.out hlt)
            clear HGl HG HZ hlt
            by_cases hi0 : i = 0
            · subst hi0
              have e0 : (C : Int) % 128 = (V : Int) := by have := HVe.out; omega
              go_wp2
              go_roundw
              case rel => exact ⟨0 + 1, U, R1, by omega, rfl, rfl, HU.out, HRd.out, HKp.out, HGh.out⟩
              case measure => simp [intOf]
            · have e0 : IntKind.u64.wrap ((C : Int) % 128 * 2 ^ (7 * i)) = (V : Int) := by
                have h2 : (C : Int) % 128 * 2 ^ (7 * i) = (V : Int) := by rw [HVe.out]; simp
                have h7 : (2 : Nat) ^ (7 * (i + 1)) ≤ 2 ^ 35 := Nat.pow_le_pow_right (by omega) (by omega)
                have h8 := Nat.lt_of_lt_of_le hV h7
                rw [h2, wrap_u64]; omega
              go_wp2
              go_roundw
              case rel => exact ⟨i + 1, U, R1, by omega, rfl, by go_num, HU.out, HRd.out, HKp.out, HGh.out⟩
              case measure => simp [intOf]; omega
  · have HT := hid (wrTake_any w S rb L e 1 (by omega) h)
    clear h
    go_enter Tryz.func89, Tryz.ntmps89
    go_wp2_with fail
    go_loopw [5, 8] (fun y x wr => y = .int .u64 0 ∧ x = .int .i64 0 ∧ wr = w) (fun _ x _ => 5 - (intOf x).toNat)
    case atStart => exact ⟨rfl, rfl, rfl⟩
    case round =>
      obtain ⟨rfl, rfl, rfl⟩ := hrel
      go_wp2_with fail
      refine HT.out.mono ?_
      rintro x w1 ⟨p, T, R1, e1, rfl, hby, ⟨hrr, hrd, hkp⟩, hT0⟩
      have h1 := hrr.stay he
      have h2 := hT0 (by rw [h1]; exact he)
      subst h1 h2
      have HRd := hid hrd
      have HKp := hid hkp
      clear hby hrr hrd hkp hT0 HT
      go_wp2
      go_ret
      exact ⟨0, R1, _, rfl, ⟨⟨fun _ => rfl, fun h => absurd h he, fun h => absurd h he⟩, HRd.out, HKp.out⟩, Nat.zero_le _, fun _ => rfl⟩
end Go.Proofs.YtdbcdnljjgdkfaaGreat

namespace Go.Proofs.YtdbcdnljjgdkfaaGreat
open Go.RowKit
set_option maxRecDepth 8000
theorem part_any (db : Nat) (p : Option Addr) (n c : Nat) (f : Nat → Int) : ∀ k d, d + k = 3 → ItemC db p n c f d (decS f n k d) := by
  intro k
  induction k with
  | zero => intro d h; exact part_step db p n c f d (by omega) _ (fun h2 => by omega) (fun _ _ _ _ _ h2 => by cases h2)
  | succ k ih => intro d h; exact part_step db p n c f d (by omega) _ (fun h2 => ih (d + 1) (by omega)) (fun a q v a' q' h2 => ⟨decS_le _ _ _ _ _ _ _ h2, decS_q _ _ _ _ _ _ _ h2⟩)
end Go.Proofs.YtdbcdnljjgdkfaaGreat

namespace Go.Proofs.YtdbcdnljjgdkfaaGreat
open Go.RowKit
set_option maxRecDepth 8000
theorem fault_yes (W : World) (v : Value) : (Instr.typeAssert (.iface 193 v) 20 193 true).run Tryz.prog W = .ok (.tuple #[v, .bool true]) W := by kernel_rfl
set_option maxHeartbeats 2000000 in
theorem asFault_any (a e : Int) (w : World) : Calls Tryz.prog 122 #[faultV a e] w fun x w' => x = .returned (.agg #[.int .i64 a, .int .i64 e]) ∧ Below w.heap.size w w' := by
  have HT := fault_yes
  unfold faultV
  go_enter Tryz.func122, Tryz.ntmps122
  go_wp2
  refine bodyPost_ret (v := .agg #[.int .i64 a, .int .i64 e]) (by simp [results, Tryz.results122, go_sem]) rfl ⟨rfl, ((Below.refl _ _).alloc (Nat.le_refl _) _).alloc (by simp) _⟩
theorem fault_err (W : World) (a e : Int) : (Instr.field 193 (.agg #[.int .i64 a, .int .i64 e]) 1).run Tryz.prog W = .ok (.int .i64 e) W := by kernel_rfl
set_option maxHeartbeats 2000000 in
theorem catch_idle (p0 p1 p2 : Addr) (w : World) :
    CallsD Tryz.prog 121 #[.pointer (some p0), .pointer (some p1), .pointer (some p2)] .returning w fun x u' w' => x = .returned (.tuple #[]) ∧ u' = .returning ∧ w' = w := by
  refine callsD_of_wpS Tryz.func121 rfl fun c₀ cs hu => ?_
  apply wpS_seq
  apply wpS_region
  simp [wpOpsS, go_sem, recoverD, hu, Tryz.ntmps121, Exit.thenS]
  simp only [Array.replicate, List.replicate]
  refine wpS_of_wp ?_
  go_wp2_with fail
  cases c₀
  simp_all [bodyPostS, results, Tryz.results121]
set_option maxHeartbeats 2000000 in
theorem catch_fault (b0 b1 b2 : Nat) (a e : Int) (older : List PanicEntry) (w : World) (x0 x1 x2 x3 y z : Value) (h0 : Box w b0 #[x0, x1, x2, x3] 24) (h1 : Box w b1 #[y] 3) (h2 : Box w b2 #[z] 60) (h01 : b0 ≠ b1) (h02 : b0 ≠ b2) (h12 : b1 ≠ b2) :
    CallsD Tryz.prog 121 #[.pointer (some ⟨b0, 0, none⟩), .pointer (some ⟨b1, 0, none⟩), .pointer (some ⟨b2, 0, none⟩)] (.panicking ({ v := faultV a e, recovered := false } :: older)) w fun x u' w' =>
      x = .returned (.tuple #[]) ∧ u' = .panicking ({ v := faultV a e, recovered := true } :: older) ∧ Box w' b0 #[.int .i64 0, .int .i64 0, .string ⟨#[]⟩, .slice none 0 0] 24 ∧ Box w' b1 #[.int .i64 0] 3 ∧ Box w' b2 #[.int .i64 e] 60 ∧ But (fun y => y = b0 ∨ y = b1 ∨ y = b2) w w' := by
  have HA := fun W => asFault_any a e W
  have HE := fun W => fault_err W a e
  unfold faultV at *
  refine callsD_of_wpS Tryz.func121 rfl fun c₀ cs hu => ?_
  apply wpS_seq
  apply wpS_region
  simp [wpOpsS, go_sem, recoverD, hu, Tryz.ntmps121, Exit.thenS]
  simp only [Array.replicate, List.replicate]
  refine wpS_of_wp ?_
  go_wp2_with fail
  refine (HA _).mono ?_
  rintro x5 w2 ⟨rfl, hb2⟩
  have g0 := h0.below hb2
  have g1 := h1.below hb2
  have g2 := h2.below hb2
  have c0 := g0.cell 0
  have c1 := g0.cell 1
  have c2 := g0.cell 2
  have c3 := g0.cell 3
  have d0 := g1.cell 0
  have e0 := g2.cell 0
  have f0 := g0.frozen 0
  have f1 := g0.frozen 1
  have f2 := g0.frozen 2
  have f3 := g0.frozen 3
  have fd := g1.frozen 0
  have fe := g2.frozen 0
  simp at c0 c1 c2 c3 d0 e0
  have h10 := h01.symm
  have h20 := h02.symm
  have h21 := h12.symm
  go_wp2
  have hk4 : But (fun y => y = b0) w2 ((((w2.setCell ⟨b0, 0, none⟩ (.int .i64 0)).setCell ⟨b0, 1, none⟩ (.int .i64 0)).setCell ⟨b0, 2, none⟩ (.string ⟨#[]⟩)).setCell ⟨b0, 3, none⟩ (.slice none 0 0)) := ((((But.one _ b0).setAt 0 _).setAt 1 _).setAt 2 _).setAt 3 _
  refine ⟨rfl, _, rfl, .tuple #[], by simp [results, Tryz.results121], rfl, rfl, ?_, ?_, ?_, ?_⟩
  · exact ((setV_box g0 _ _ _ _).kept (Below.heap_setCell _ _ _ _ (show b0 ≠ b1 by omega))).kept (Below.heap_setCell _ _ _ _ (show b0 ≠ b2 by omega))
  · exact ((g1.but hk4 h10).set 0 (.int .i64 0)).kept (Below.heap_setCell _ _ _ _ (show b1 ≠ b2 by omega))
  · exact ((g2.but hk4 h20).kept (Below.heap_setCell _ _ _ _ (show b2 ≠ b1 by omega))).set 0 (.int .i64 e)
  · exact (((((((But.ofBelow hb2).setCell (p := ⟨b0, 0, none⟩) (fun _ => Or.inl rfl) _).setCell (p := ⟨b0, 1, none⟩) (fun _ => Or.inl rfl) _).setCell (p := ⟨b0, 2, none⟩) (fun _ => Or.inl rfl) _).setCell (p := ⟨b0, 3, none⟩) (fun _ => Or.inl rfl) _).setCell (p := ⟨b1, 0, none⟩) (fun _ => Or.inr (Or.inl rfl)) _).setCell (p := ⟨b2, 0, none⟩) (fun _ => Or.inr (Or.inr rfl)) _)
/-- what value.Decode comes to -/
def DecPost (w : World) (r : DR) (x : Ending) (w' : World) : Prop :=
  (∀ t a' q', r = .ok (t, a', q') → ∃ u, x = .returned (.tuple #[u.val, .int .i64 (a' : Int), .int .i64 0]) ∧ VT.Alike t u ∧ VT.In w' (fun b => w.heap.size ≤ b) u ∧ Below w.heap.size w w') ∧ (∀ e : Nat, r = .error e → x = .returned (.tuple #[.agg #[.int .i64 0, .int .i64 0, .string ⟨#[]⟩, .slice none 0 0], .int .i64 0, .int .i64 (e : Int)]) ∧ Below w.heap.size w w')
theorem dec_start (w : World) (A B C D : Array Value) (ta tb tc td : TypeId) :
    Box ((((w.alloc (.cells A ta)).alloc (.cells B tb)).alloc (.cells C tc)).alloc (.cells D td)) w.heap.size A ta ∧
    Box ((((w.alloc (.cells A ta)).alloc (.cells B tb)).alloc (.cells C tc)).alloc (.cells D td)) (w.heap.size + 1) B tb ∧
    Box ((((w.alloc (.cells A ta)).alloc (.cells B tb)).alloc (.cells C tc)).alloc (.cells D td)) (w.heap.size + 1 + 1) C tc ∧
    Box ((((w.alloc (.cells A ta)).alloc (.cells B tb)).alloc (.cells C tc)).alloc (.cells D td)) (w.heap.size + 1 + 1 + 1) D td ∧
    Below w.heap.size w ((((w.alloc (.cells A ta)).alloc (.cells B tb)).alloc (.cells C tc)).alloc (.cells D td)) ∧ ((((w.alloc (.cells A ta)).alloc (.cells B tb)).alloc (.cells C tc)).alloc (.cells D td)).heap.size = w.heap.size + 4 := by
  have z1 : (w.alloc (.cells A ta)).heap.size = w.heap.size + 1 := by simp
  have z2 : ((w.alloc (.cells A ta)).alloc (.cells B tb)).heap.size = w.heap.size + 1 + 1 := by simp
  have z3 : (((w.alloc (.cells A ta)).alloc (.cells B tb)).alloc (.cells C tc)).heap.size = w.heap.size + 1 + 1 + 1 := by simp
  have b1 := Box.new w A ta
  have b2 := Box.new (w.alloc (.cells A ta)) B tb
  have b3 := Box.new ((w.alloc (.cells A ta)).alloc (.cells B tb)) C tc
  have b4 := Box.new (((w.alloc (.cells A ta)).alloc (.cells B tb)).alloc (.cells C tc)) D td
  rw [z1] at b2
  rw [z2] at b3
  rw [z3] at b4
  have l1 := fun (W : World) o => (Below.refl W.heap.size W).alloc (Nat.le_refl _) o
  refine ⟨((b1.below (l1 _ _)).below (l1 _ _)).below (l1 _ _), (b2.below (l1 _ _)).below (l1 _ _), b3.below (l1 _ _), b4, ?_, by simp⟩
  exact ((((Below.refl _ _).alloc (Nat.le_refl _) _).alloc (by omega) _).alloc (by omega) _).alloc (by omega) _
set_option maxHeartbeats 4000000 in
theorem decode_any (p : Option Addr) (n c : Nat) (f : Nat → Int) (S : Nat → Prop) (w : World) (hY : Byts w S p n c f) (hS : ∀ b, S b → b < w.heap.size) :
    Calls Tryz.prog 116 #[.slice p n c] w fun x w' => DecPost w (decS f n 3 0 0 0) x w' := by
  have hmf : ∀ (fn : Fn) (first cap : Array Value) (w : World), (Instr.makeFunc fn first cap).run Tryz.prog w = .ok (.func fn first cap) w := fun _ _ _ _ => rfl
  obtain ⟨R, hR⟩ : ∃ R, R = decS f n 3 0 0 0 := ⟨_, rfl⟩
  rw [← hR]
  have HY := hid hY
  clear hY
  go_enter_defers Tryz.func116, Tryz.ntmps116
  go_wp2_with fail
  obtain ⟨q0, q1, q2, q3, hbe, hsz⟩ := dec_start w #[.int .i64 0, .int .i64 0, .string ⟨#[]⟩, .slice none 0 0] #[.int .i64 0] #[.int .i64 0] #[.slice p n c, .int .i64 0, .int .i64 0] 24 3 60 196
  generalize hW0 : ((((w.alloc (.cells #[.int .i64 0, .int .i64 0, .string ⟨#[]⟩, .slice none 0 0] 24)).alloc (.cells #[.int .i64 0] 3)).alloc (.cells #[.int .i64 0] 60)).alloc (.cells #[.slice p n c, .int .i64 0, .int .i64 0] 196)) = W0 at *
  have hYW : Byts W0 S p n c f := HY.out.kept hbe.size fun b hb _ => hbe.block b (hS b hb)
  have hC := part_any (w.heap.size + 1 + 1 + 1) p n c f 3 0 rfl W0 S 0 0 hYW (fun h => by have := hS _ h; omega) q3 (by omega) (by omega)
  rw [← hR] at hC
  refine hC.mono ?_
  intro x5 w5 hP5
  have hnd : ∀ b, b ≠ w.heap.size + 1 + 1 + 1 → ¬ b = w.heap.size + 1 + 1 + 1 := fun _ h => h
  cases R with
  | error e =>
    obtain ⟨⟨c5, rfl⟩, hk5⟩ := hP5.2 e rfl
    have g0 := q0.but hk5 (show w.heap.size ≠ w.heap.size + 1 + 1 + 1 by omega)
    have g1 := q1.but hk5 (show w.heap.size + 1 ≠ w.heap.size + 1 + 1 + 1 by omega)
    have g2 := q2.but hk5 (show w.heap.size + 1 + 1 ≠ w.heap.size + 1 + 1 + 1 by omega)
    refine leaves_cons (f := 121) (args := #[.pointer (some ⟨w.heap.size, 0, none⟩), .pointer (some ⟨w.heap.size + 1, 0, none⟩), .pointer (some ⟨w.heap.size + 1 + 1, 0, none⟩)]) (by simp) (by simp [go_sem]) ?_
    refine (catch_fault w.heap.size (w.heap.size + 1) (w.heap.size + 1 + 1) c5 e [] w5 _ _ _ _ _ _ g0 g1 g2 (by omega) (by omega) (by omega)).mono ?_
    rintro x6 u6 w6 ⟨rfl, rfl, r0, r1, r2, hk6⟩
    have c0 := r0.cell 0
    have c1 := r0.cell 1
    have c2 := r0.cell 2
    have c3 := r0.cell 3
    have d0 := r1.cell 0
    have e0 := r2.cell 0
    simp at c0 c1 c2 c3 d0 e0
    simp [Leaves, settle, results, Tryz.results116, go_sem, c0, c1, c2, c3, d0, e0]
    exact ⟨fun _ _ _ h => (by cases h), fun e2 h => by cases h; exact ⟨rfl, (hbe.trans (hk5.below (by omega) fun k hk => by omega)).trans (hk6.below (by have := hk5.size; omega) fun k hk => by omega)⟩⟩
  | ok tt =>
    obtain ⟨t, a', q'⟩ := tt
    obtain ⟨u, rfl, hau, hiu, hb5, hk5⟩ := hP5.1 t a' q' rfl
    simp only [VT.val]
    have g0 := q0.but hk5 (show w.heap.size ≠ w.heap.size + 1 + 1 + 1 by omega)
    have g1 := q1.but hk5 (show w.heap.size + 1 ≠ w.heap.size + 1 + 1 + 1 by omega)
    have g2 := q2.but hk5 (show w.heap.size + 1 + 1 ≠ w.heap.size + 1 + 1 + 1 by omega)
    have c0 := g0.cell 0
    have c1 := g0.cell 1
    have c2 := g0.cell 2
    have c3 := g0.cell 3
    have f0 := g0.frozen 0
    have f1 := g0.frozen 1
    have f2 := g0.frozen 2
    have f3 := g0.frozen 3
    simp at c0 c1 c2 c3
    go_wp2_with fail
    have r0 := setV_box g0 (.int .i64 u.kind) (.int .i64 u.int) (.string u.text) (.slice u.p u.n u.c)
    have hk6 : But (fun y => y = w.heap.size) w5 ((((w5.setCell ⟨w.heap.size, 0, none⟩ (.int .i64 u.kind)).setCell ⟨w.heap.size, 1, none⟩ (.int .i64 u.int)).setCell ⟨w.heap.size, 2, none⟩ (.string u.text)).setCell ⟨w.heap.size, 3, none⟩ (.slice u.p u.n u.c)) := ((((But.one _ w.heap.size).setAt 0 _).setAt 1 _).setAt 2 _).setAt 3 _
    generalize hW6 : ((((w5.setCell ⟨w.heap.size, 0, none⟩ (.int .i64 u.kind)).setCell ⟨w.heap.size, 1, none⟩ (.int .i64 u.int)).setCell ⟨w.heap.size, 2, none⟩ (.string u.text)).setCell ⟨w.heap.size, 3, none⟩ (.slice u.p u.n u.c)) = w6 at r0 hk6 ⊢
    have r1 := g1.but hk6 (show w.heap.size + 1 ≠ w.heap.size by omega)
    have r2 := g2.but hk6 (show w.heap.size + 1 + 1 ≠ w.heap.size by omega)
    have r3 := hb5.but hk6 (show w.heap.size + 1 + 1 + 1 ≠ w.heap.size by omega)
    have hu6 := hiu.but hk6 (fun b hb _ => by omega)
    have hbe6 : Below w.heap.size w w6 := (hbe.trans (hk5.below (by omega) fun k hk => by omega)).trans (hk6.below (by have := hk5.size; omega) fun k hk => by omega)
    have HX := hid (And.intro r0 (And.intro r1 (And.intro r2 (And.intro hu6 (And.intro hau hbe6)))))
    clear hW6 hW0 c0 c1 c2 c3 f0 f1 f2 f3 hiu hb5 hk5 hk6 g0 g1 g2 hP5 hC q0 q1 q2 q3 hYW hbe hau hu6 hbe6 hR
    have c0 := r0.cell 0
    have c1 := r0.cell 1
    have c2 := r0.cell 2
    have c3 := r0.cell 3
    have f0 := r0.frozen 0
    have f1 := r0.frozen 1
    have f2 := r0.frozen 2
    have f3 := r0.frozen 3
    have d0 := r1.cell 0
    have e0 := r2.cell 0
    have fd := r1.frozen 0
    have fe := r2.frozen 0
    have m1 := r3.cell 1
    simp at c0 c1 c2 c3 d0 e0 m1
    clear r0 r1 r2 r3
    go_region
    all_goals
      go_wp2
      obtain ⟨r0, r1, r2, hu6, hau, hbe6⟩ := HX.out
      have s0 := setV_box r0 (.int .i64 u.kind) (.int .i64 u.int) (.string u.text) (.slice u.p u.n u.c)
      have hk7 : But (fun y => y = w.heap.size) w6 ((((w6.setCell ⟨w.heap.size, 0, none⟩ (.int .i64 u.kind)).setCell ⟨w.heap.size, 1, none⟩ (.int .i64 u.int)).setCell ⟨w.heap.size, 2, none⟩ (.string u.text)).setCell ⟨w.heap.size, 3, none⟩ (.slice u.p u.n u.c)) := ((((But.one _ w.heap.size).setAt 0 _).setAt 1 _).setAt 2 _).setAt 3 _
      have s1 := r1.but hk7 (show w.heap.size + 1 ≠ w.heap.size by omega)
      have s2 := r2.but hk7 (show w.heap.size + 1 + 1 ≠ w.heap.size by omega)
      have hk8 := ((hk7.mono (Y := fun y => y = w.heap.size ∨ y = w.heap.size + 1 ∨ y = w.heap.size + 1 + 1) fun b _ hb => Or.inl hb).setCell (p := ⟨w.heap.size + 1, 0, none⟩) (fun _ => Or.inr (Or.inl rfl)) (.int .i64 (a' : Int))).setCell (p := ⟨w.heap.size + 1 + 1, 0, none⟩) (fun _ => Or.inr (Or.inr rfl)) (.int .i64 0)
      have t0 := (s0.kept (Below.heap_setCell _ ⟨w.heap.size + 1, 0, none⟩ (.int .i64 (a' : Int)) _ (show w.heap.size ≠ w.heap.size + 1 by omega))).kept (Below.heap_setCell _ ⟨w.heap.size + 1 + 1, 0, none⟩ (.int .i64 0) _ (show w.heap.size ≠ w.heap.size + 1 + 1 by omega))
      have t1 := (s1.set 0 (.int .i64 (a' : Int))).kept (Below.heap_setCell _ ⟨w.heap.size + 1 + 1, 0, none⟩ (.int .i64 0) _ (show w.heap.size + 1 ≠ w.heap.size + 1 + 1 by omega))
      have t2 := (s2.kept (Below.heap_setCell _ ⟨w.heap.size + 1, 0, none⟩ (.int .i64 (a' : Int)) _ (show w.heap.size + 1 + 1 ≠ w.heap.size + 1 by omega))).set 0 (.int .i64 0)
      generalize ((((((w6.setCell ⟨w.heap.size, 0, none⟩ (.int .i64 u.kind)).setCell ⟨w.heap.size, 1, none⟩ (.int .i64 u.int)).setCell ⟨w.heap.size, 2, none⟩ (.string u.text)).setCell ⟨w.heap.size, 3, none⟩ (.slice u.p u.n u.c)).setCell ⟨w.heap.size + 1, 0, none⟩ (.int .i64 (a' : Int))).setCell ⟨w.heap.size + 1 + 1, 0, none⟩ (.int .i64 0)) = w7 at hk8 t0 t1 t2 ⊢
      clear c0 c1 c2 c3 d0 e0 m1
      have c0 := t0.cell 0
      have c1 := t0.cell 1
      have c2 := t0.cell 2
      have c3 := t0.cell 3
      have d0 := t1.cell 0
      have e0 := t2.cell 0
      simp at c0 c1 c2 c3 d0 e0
      refine leaves_cons (f := 121) (args := #[.pointer (some ⟨w.heap.size, 0, none⟩), .pointer (some ⟨w.heap.size + 1, 0, none⟩), .pointer (some ⟨w.heap.size + 1 + 1, 0, none⟩)]) (by simp) (by simp [go_sem]) ?_
      refine (catch_idle ⟨w.heap.size, 0, none⟩ ⟨w.heap.size + 1, 0, none⟩ ⟨w.heap.size + 1 + 1, 0, none⟩ _).mono ?_
      rintro x8 u8 w8 ⟨rfl, rfl, rfl⟩
      simp [Leaves, settle, results, Tryz.results116, go_sem, c0, c1, c2, c3, d0, e0]
      refine ⟨fun t2 a2 q2 h => ?_, fun e2 h => (by cases h)⟩
      cases h
      exact ⟨u, rfl, hau, ((hu6.but hk8 (fun b hb _ => by omega)).mono fun b hb _ => by omega).kept (Nat.le_refl _) (fun _ _ _ => rfl), (hbe6.trans (hk8.below hbe6.size fun k hk => by omega)).drew⟩
end Go.Proofs.YtdbcdnljjgdkfaaGreat

namespace Go.Proofs.YtdbcdnljjgdkfaaGreat
open Go.RowKit
set_option maxRecDepth 8000

theorem Byts.cells {w : World} {S : Nat → Prop} {ad : Addr} {T : List Int} (h : Byts w S (some ad) T.length T.length (fun j => T.getD j 0)) : ∀ j u, (T.map (Value.int .u8))[j]? = some u → w.cell? (ad.add j) = some u := by
  intro j u hu
  have hj : j < T.length := by
    rcases Nat.lt_or_ge j T.length with h1 | h1
    · exact h1
    · rw [List.getElem?_eq_none (by simpa using h1)] at hu; cases hu
  obtain ⟨b, o, e, _, _, ha⟩ := h.at_ (by omega)
  cases e
  rw [Go.WideShapes.add_plain, ha j hj]
  simp [List.getD_eq_getElem?_getD, List.getElem?_eq_getElem hj] at hu ⊢
  exact hu
theorem conv_byts {w : World} {S : Nat → Prop} {p : Option Addr} {T : List Int} (h : Byts w S p T.length T.length (fun j => T.getD j 0)) : (convert 49 9 (.slice p T.length T.length)).run Tryz.prog w = .ok (.string (strOf T)) w := by
  cases p with
  | none =>
    have h0 := (h.nil rfl).1
    obtain rfl : T = [] := List.eq_nil_of_length_eq_zero h0
    exact conv_none 0 w
  | some ad => exact conv_at (fun j u hu => h.cells j u hu)
def StrP (s : RS ByteArray) (w : World) (S : Nat → Prop) (rb : Nat) (L : List Int) (e : Int) (x : Ending) (w' : World) : Prop :=
  ∃ (k : ByteArray) (R : List Int) (e' : Int), x = .returned (.string k) ∧ RdS s (fun y => k = y) w S rb L e R e' w' ∧ k.size ≤ 1000
theorem strOf_size' (zs : List Int) : (strOf zs).size = zs.length := strOf_size zs

set_option maxHeartbeats 1000000 in
theorem wrHop_any (w : World) (S : Nat → Prop) (rb : Nat) (L : List Int) (e : Int) (h : Rdr w S rb L e) : Calls Tryz.prog 101 #[.pointer (some ⟨rb, 0, none⟩)] w fun x w' => NumP hopS 9 w S rb L e x w' := by
  have HN := hid (wrNumber_any w S rb L e 9 (by omega) h)
  clear h
  go_enter Tryz.func101, Tryz.ntmps101
  go_wp2_with fail
  refine HN.out.mono ?_
  rintro x w1 ⟨r, R, e1, rfl, hs, hm⟩
  have HF := hid (And.intro hs hm)
  clear hs hm HN
  go_wp2
  go_ret
  exact ⟨r, R, e1, rfl, HF.out.1, HF.out.2⟩

set_option maxHeartbeats 1000000 in
theorem wrKey_any (w : World) (S : Nat → Prop) (rb : Nat) (L : List Int) (e : Int) (h : Rdr w S rb L e) : Calls Tryz.prog 98 #[.pointer (some ⟨rb, 0, none⟩)] w fun x w' => StrP keyS w S rb L e x w' := by
  have HN := hid (wrNumber_any w S rb L e 12 (by omega) h)
  clear h
  go_enter Tryz.func98, Tryz.ntmps98
  go_wp2_with fail
  refine HN.out.mono ?_
  rintro x w1 ⟨r, R, e1, rfl, ⟨hr, hd, hk⟩, hm⟩
  have HT := hid (wrTake_any w1 S rb R e1 r (by omega) hd)
  have HR := hid hr
  have HK := hid hk
  clear hr hd hk HN
  go_wp2_with fail
  refine HT.out.mono ?_
  rintro x w2 ⟨p, T, R2, e2, rfl, hby, ⟨hr2, hd2, hk2⟩, hT0⟩
  have hcv := conv_byts hby
  have hTl : T.length ≤ 12 := by
    by_cases h0 : e1 = 0
    · subst h0
      cases hq : takeS r R with
      | error k =>
        obtain ⟨a1, a2⟩ := hr2.bad rfl k hq
        rw [hT0 a2]
        simp
      | ok z =>
        obtain ⟨y, U⟩ := z
        obtain ⟨a1, a2, a3⟩ := hr2.good rfl y U hq
        unfold takeS at hq
        split at hq
        · cases hq
          rw [a3]
          simp
          omega
        · cases hq
    · have h1 := hr2.stay h0
      rw [hT0 (by rw [h1]; exact h0)]
      simp
  have HF : Hid (RdS keyS (fun y => strOf T = y) w S rb L e R2 e2 w2) := by
    refine ⟨HR.out.bind (fun y hy h1 => ?_) hr2.stay, hd2, HK.out.trans hk2⟩
    subst hy
    exact hr2.map fun _ y hy => by rw [hy]
  have hsz := strOf_size T
  clear hby hr2 hd2 hk2 hT0 HT HR HK
  go_wp2
  go_ret
  exact ⟨strOf T, R2, e2, rfl, HF.out, by rw [hsz]; omega⟩

def UnitP (s : RS Unit) (w : World) (S : Nat → Prop) (rb : Nat) (L : List Int) (e : Int) (x : Ending) (w' : World) : Prop :=
  ∃ (R : List Int) (e' : Int), x = .returned (.tuple #[]) ∧ RdS s (fun _ => True) w S rb L e R e' w'
set_option maxHeartbeats 1000000 in
theorem wrFirst_any (w : World) (S : Nat → Prop) (rb : Nat) (L : List Int) (e : Int) (z : Nat) (h : Rdr w S rb L e) : Calls Tryz.prog 91 #[.pointer (some ⟨rb, 0, none⟩), .int .u8 z] w fun x w' => UnitP (firstS z) w S rb L e x w' := by
  have HT := hid (wrTake_any w S rb L e 1 (by omega) h)
  clear h
  go_enter Tryz.func91, Tryz.ntmps91
  go_wp2_with fail
  refine HT.out.mono ?_
  rintro x w1 ⟨p, T, R, e1, rfl, hby, ⟨hr, hd, hk⟩, hT0⟩
  by_cases h1 : e1 = 0
  · have hTl : ∃ x, T = [x] := by
      by_cases h0 : e = 0
      · subst h0
        cases hq : takeS 1 L with
        | error k =>
          obtain ⟨a1, a2⟩ := hr.bad rfl k hq
          exact absurd h1 a2
        | ok z =>
          obtain ⟨y, U⟩ := z
          obtain ⟨a1, a2, a3⟩ := hr.good rfl y U hq
          unfold takeS at hq
          split at hq
          · cases hq
            cases L with
            | nil => simp at *
            | cons q L2 => exact ⟨q, by rw [a3]; simp⟩
          · cases hq
      · exact absurd (hr.stay h0) (by rw [h1]; exact fun h => h0 h.symm)
    obtain ⟨q, rfl⟩ := hTl
    obtain ⟨hf1, hf2⟩ := hby.fit 0 (by simp)
    simp at hf1 hf2
    obtain ⟨C, rfl⟩ := Int.eq_ofNat_of_zero_le hf1
    obtain ⟨b0, o0, hp, _, _, hat⟩ := hby.at_ (by simp)
    subst hp
    have y0 := hat 0 (by simp)
    simp at y0
    simp only [List.length_singleton]
    subst h1
    have HR := hid hr
    have HD := hid hd
    have HK := hid hk
    have HF := hid (wrFail_any w1 S rb R 0 41 hd)
    clear hby hr hd hk hT0 HT hat hf1 hf2
    by_cases hq : C = z
    · have hq' : ((C : Int) == (z : Int)) = true := by rw [hq]; simp
      have HFn : Hid (RdS (firstS z) (fun _ => True) w S rb L e R 0 w1) := by
        refine ⟨HR.out.bind (fun y hy _ => ?_) (fun _ => rfl), HD.out, HK.out⟩
        subst hy
        rw [if_pos (by simp [hq])]
        exact RR.ret fun _ => trivial
      clear hq HR HD HK HF
      go_wp2
      exact bodyPost_end (results_none rfl _ _ _) rfl ⟨R, 0, rfl, HFn.out⟩
    · have hq' : ((C : Int) == (z : Int)) = false := by simp; omega
      have HQ := hid hq
      clear hq
      go_wp2_with fail
      refine HF.out.mono ?_
      rintro x w2 ⟨rfl, hr2, hk2⟩
      have HFn : Hid (RdS (firstS z) (fun _ => True) w S rb L e R 41 w2) := by
        refine ⟨HR.out.bind (fun y hy _ => ?_) (fun h => absurd rfl h), by simpa using hr2, HK.out.trans hk2⟩
        subst hy
        rw [if_neg (by simp; have := HQ.out; omega)]
        exact RR.err (k := 41) rfl rfl (by decide)
      clear hr2 hk2 HF HR HD HK
      go_wp2
      exact bodyPost_end (results_none rfl _ _ _) rfl ⟨R, 41, rfl, HFn.out⟩
  · have h2 := hT0 h1
    subst h2
    have HFn : Hid (RdS (firstS z) (fun _ => True) w S rb L e R e1 w1) := ⟨hr.bind (fun y _ h => absurd h h1) (fun _ => rfl), hd, hk⟩
    clear hby hr hd hk hT0 HT
    go_wp2
    exact bodyPost_end (results_none rfl _ _ _) rfl ⟨R, e1, rfl, HFn.out⟩
end Go.Proofs.YtdbcdnljjgdkfaaGreat
