import Derived.Test.YtfonicphdejdlaaGreatPack5
import Derived.Defers
import Derived.Recover
namespace Go.Proofs.YtfonicphdejdlaaGreat
open Go.RowKit
set_option maxRecDepth 8000

/-- the reader in memory: what is left, and the first error -/
structure Rdr (w : World) (S : Nat → Prop) (rb : Nat) (L : List Int) (e : Int) : Prop where
  box : ∃ p, Box w rb #[.slice p L.length L.length, .int .i64 e] 151 ∧ Byts w S p L.length L.length (fun j => L.getD j 0)
  out : ¬ S rb
theorem Rdr.below {w w' : World} {S : Nat → Prop} {rb : Nat} {L : List Int} {e : Int} (h : Rdr w S rb L e) (hb : Below w.heap.size w w') : Rdr w' S rb L e := by
  obtain ⟨⟨p, hx, hy⟩, ho⟩ := h
  exact ⟨⟨p, hx.below hb, hy.kept hb.size fun b _ hl => hb.block b hl⟩, ho⟩
theorem Rdr.but {w w' : World} {S X : Nat → Prop} {rb : Nat} {L : List Int} {e : Int} (h : Rdr w S rb L e) (hb : But X w w') (hx : ¬ X rb) (hS : ∀ b, S b → b < w.heap.size → ¬ X b) : Rdr w' S rb L e := by
  obtain ⟨⟨p, hx2, hy⟩, ho⟩ := h
  exact ⟨⟨p, hx2.but hb hx, hy.kept hb.size fun b hb2 hl => hb.block b hl (hS b hb2 hl)⟩, ho⟩
theorem Rdr.lt {w : World} {S : Nat → Prop} {rb : Nat} {L : List Int} {e : Int} (h : Rdr w S rb L e) : rb < w.heap.size := by
  obtain ⟨⟨p, hx, _⟩, _⟩ := h
  exact hx.lt
/-- what a call leaves -/
structure RdS {α : Type} (s : RS α) (ok : α → Prop) (w : World) (S : Nat → Prop) (rb : Nat) (L : List Int) (e : Int) (R : List Int) (e' : Int) (w' : World) : Prop where
  rr : RR s ok L e R e'
  rd : Rdr w' S rb R e'
  kp : But (fun y => y = rb) w w'

def FailPost (w : World) (S : Nat → Prop) (rb : Nat) (L : List Int) (e k : Int) (x : Ending) (w' : World) : Prop := x = .returned (.tuple #[]) ∧ Rdr w' S rb L (if e = 0 then k else e) ∧ But (fun y => y = rb) w w'
set_option maxHeartbeats 1000000 in
theorem wrFail_any (w : World) (S : Nat → Prop) (rb : Nat) (L : List Int) (e k : Int) (h : Rdr w S rb L e) : Calls Tryz.prog 88 #[.pointer (some ⟨rb, 0, none⟩), .int .i64 k] w fun x w' => FailPost w S rb L e k x w' := by
  obtain ⟨⟨p, hx, hy⟩, ho⟩ := id h
  have x1 := hx.cell 1
  have f1 := hx.frozen 1
  simp at x1
  have HX := hid hx
  have HY := hid hy
  have HH := hid h
  clear h hx hy
  by_cases he : e = 0
  · subst he
    go_enter Tryz.func88, Tryz.ntmps88
    go_wp2
    have hbx : Box (w.setCell ⟨rb, 1, none⟩ (.int .i64 k)) rb #[.slice p L.length L.length, .int .i64 k] 151 := by
      have h := HX.out.set 1 (.int .i64 k)
      simpa using h
    have hk := (But.one w rb).setAt 1 (.int .i64 k)
    refine bodyPost_end (results_none rfl _ _ _) rfl ⟨rfl, ⟨⟨p, by rw [if_pos rfl]; exact hbx, HY.out.kept hk.size fun b hb hl => hk.block b hl (fun e => ho (e ▸ hb))⟩, ho⟩, hk⟩
  · have he' : (e == 0) = false := by simpa using he
    go_enter Tryz.func88, Tryz.ntmps88
    go_wp2
    refine bodyPost_end (results_none rfl _ _ _) rfl ⟨rfl, by rw [if_neg he]; exact HH.out, But.refl _ _⟩

/-- what taking n bytes comes to -/
def TakeP (w : World) (S : Nat → Prop) (rb : Nat) (L : List Int) (e : Int) (n : Nat) (x : Ending) (w' : World) : Prop :=
  ∃ p T R e', x = .returned (.slice p T.length T.length) ∧ Byts w' S p T.length T.length (fun j => T.getD j 0) ∧ RdS (takeS n) (fun y => T = y) w S rb L e R e' w' ∧ (e' ≠ 0 → T = [])
theorem getD_drop (L : List Int) (n j : Nat) : (L.drop n).getD j 0 = L.getD (n + j) 0 := by simp [List.getD_eq_getElem?_getD, List.getElem?_drop]
theorem getD_take {L : List Int} {n j : Nat} (h : j < n) : (L.take n).getD j 0 = L.getD j 0 := by simp [List.getD_eq_getElem?_getD, h]
/-- the first bytes, and those behind them -/
theorem Byts.cut {w : World} {S : Nat → Prop} {p q : Option Addr} {L : List Int} {n : Nat} (h : Byts w S p L.length L.length (fun j => L.getD j 0)) (hn : n ≤ L.length) (hp : p = none → L.length = 0) (hq : n < L.length → q = from_ p n) :
    Byts w S p (L.take n).length (L.take n).length (fun j => (L.take n).getD j 0) ∧ Byts w S q (L.drop n).length (L.drop n).length (fun j => (L.drop n).getD j 0) := by
  have h1 : (L.take n).length = n := by simp [hn]
  have h2 : (L.drop n).length = L.length - n := by simp
  have hnn := h.nn
  have hcc := h.cc
  rw [h1, h2]
  refine ⟨⟨fun h0 => ?_, Nat.le_refl _, by omega, by omega, fun j hj => ?_, fun hpn => ?_⟩, ⟨fun h0 => ?_, Nat.le_refl _, by omega, by omega, fun j hj => ?_, fun hpn => ?_⟩⟩
  · obtain ⟨b, o, e, hS, hl, ha⟩ := h.at_ (by omega)
    exact ⟨b, o, e, hS, hl, fun j hj => by rw [getD_take hj]; exact ha j (by omega)⟩
  · have := h.fit j (by omega)
    rw [getD_take hj]
    exact this
  · have := hp hpn
    omega
  · obtain ⟨b, o, e, hS, hl, ha⟩ := h.at_ (by omega)
    refine ⟨b, o + n, by rw [hq (by omega), e]; simp [from_, Addr.add], hS, hl, fun j hj => ?_⟩
    rw [getD_drop, Nat.add_assoc]
    exact ha (n + j) (by omega)
  · have := h.fit (n + j) (by omega)
    rw [getD_drop]
    exact this
  · rcases Nat.lt_or_ge n L.length with h3 | h3
    · have h4 := hq h3
      rw [hpn] at h4
      cases p with
      | none => have := hp rfl; omega
      | some a => simp [from_] at h4
    · omega
theorem RdS.keepFail {α : Type} {s : RS α} {ok : α → Prop} {w w' : World} {S : Nat → Prop} {rb : Nat} {L : List Int} {e : Int} {k : Nat} (h : RR s ok L e L (if e = 0 then (k : Int) else e)) (hf : Rdr w' S rb L (if e = 0 then (k : Int) else e)) (hk : But (fun y => y = rb) w w') : RdS s ok w S rb L e L (if e = 0 then (k : Int) else e) w' := ⟨h, hf, hk⟩

set_option maxHeartbeats 2000000 in
theorem wrTake_any (w : World) (S : Nat → Prop) (rb : Nat) (L : List Int) (e : Int) (n : Nat) (hn : n ≤ 140737488355328) (h : Rdr w S rb L e) : Calls Tryz.prog 109 #[.pointer (some ⟨rb, 0, none⟩), .int .i64 n] w fun x w' => TakeP w S rb L e n x w' := by
  obtain ⟨⟨p, hx, hy⟩, ho⟩ := id h
  have x0 := hx.cell 0
  have x1 := hx.cell 1
  have f0 := hx.frozen 0
  simp at x0 x1
  have hnn := hy.nn
  have HX := hid hx
  have HY := hid hy
  have HH := hid h
  clear h hx hy
  obtain ⟨m, hm⟩ : ∃ m, m = L.length := ⟨_, rfl⟩
  rw [← hm] at x0 hnn
  have hp0 : p = none → L.length = 0 := fun hp => (HY.out.nil hp).1
  by_cases hlt : m < n
  · have hlt' : (m : Int) < (n : Int) := by omega
    have HF := hid (wrFail_any w S rb L e 40 HH.out)
    go_enter Tryz.func109, Tryz.ntmps109
    go_wp2_with fail
    refine HF.out.mono ?_
    rintro x w1 ⟨rfl, hr1, hk1⟩
    obtain ⟨⟨p2, hx2, hy2⟩, _⟩ := id hr1
    have y1 := hx2.cell 1
    simp at y1
    have hne : (if e = 0 then (40 : Int) else e) ≠ 0 := by split <;> omega
    have HR := hid hr1
    have HK := hid hk1
    have HNe := hid hne
    clear hx2 hy2 hr1 hk1 HF x0 x1 f0 p2
    generalize hE : (if e = 0 then (40 : Int) else e) = E at *
    have hE' : (E == 0) = false := by simpa using hne
    go_wp2
    go_ret
    refine ⟨none, [], L, E, rfl, ⟨fun h => absurd h (by simp), Nat.le_refl _, Nat.zero_le _, Nat.zero_le _, fun j hj => absurd hj (by simp), fun _ => ⟨rfl, rfl⟩⟩, ⟨⟨fun he => ?_, fun he y T hT => ?_, fun he k hk => ?_⟩, HR.out, HK.out⟩, fun _ => rfl⟩
    · rw [← hE, if_neg he]
    · unfold takeS at hT
      rw [if_neg (by omega)] at hT
      cases hT
    · unfold takeS at hk
      rw [if_neg (by omega)] at hk
      cases hk
      exact ⟨by rw [← hE, if_pos he]; rfl, HNe.out⟩
  · have hlt' : ¬ (m : Int) < (n : Int) := by omega
    by_cases he : e = 0
    · subst he
      have hn1 : (n : Int) ≤ (m : Int) := by omega
      have hmc : m ≤ maxLen := by have := HY.out.cc; omega
      have hmn : (0 : Int) ≤ (m : Int) := by omega
      have hn0 : (0 : Int) ≤ (n : Int) := by omega
      have fin : ∀ (q : Option Addr) (W : World), W = (w.setCell ⟨rb, 0, none⟩ (.slice q (m - n) (m - n))).drew → (n < m → q = from_ p n) → (p = none → n = 0) → TakeP w S rb L 0 n (.returned (.slice p n n)) W := by
        intro q W hW hq hpn
        obtain ⟨c1, c2⟩ := Byts.cut (q := q) HY.out (show n ≤ L.length by omega) hp0 (fun h => hq (by omega))
        have l1 : (L.take n).length = n := by simp; omega
        have l2 : (L.drop n).length = m - n := by simp [hm]
        have hk := ((But.one w rb).setAt 0 (.slice q (m - n) (m - n))).drew
        rw [← hW] at hk
        have hbx : Box W rb #[.slice q (L.drop n).length (L.drop n).length, .int .i64 0] 151 := by
          rw [hW, l2]
          have h := (HX.out.set 0 (.slice q (m - n) (m - n))).below (Below.refl _ _).drew
          simpa using h
        have kp : ∀ {r : Option Addr} {a b : Nat} {f : Nat → Int}, Byts w S r a b f → Byts W S r a b f := fun h => h.kept hk.size fun b hb hl => hk.block b hl (fun e => ho (e ▸ hb))
        refine ⟨p, L.take n, L.drop n, 0, by rw [l1], kp c1, ⟨⟨fun h => absurd rfl h, fun _ y T hT => ?_, fun _ k hk => ?_⟩, ⟨⟨q, hbx, kp c2⟩, ho⟩, hk⟩, fun h => absurd rfl h⟩
        · unfold takeS at hT
          rw [if_pos (by omega)] at hT
          cases hT
          exact ⟨rfl, rfl, rfl⟩
        · unfold takeS at hk
          rw [if_pos (by omega)] at hk
          cases hk
      have FIN := hid fin
      have HM := hid hm
      clear fin hm
      cases p with
      | none =>
        have h0 := hp0 rfl
        obtain rfl : m = 0 := by have := HM.out; omega
        obtain rfl : n = 0 := by omega
        clear h0 hp0 hn1 hmn hn0 hlt hlt' hnn hmc hn
        go_enter Tryz.func109, Tryz.ntmps109
        go_wp2_with fail
        go_region
        go_wp2
        go_ret
        exact FIN.out none _ rfl (fun h => by omega) (by simp)
      | some ad =>
        by_cases hmn2 : m = n
        · subst hmn2
          go_enter Tryz.func109, Tryz.ntmps109
          go_wp2_with fail
          go_region
          go_wp2
          go_ret
          exact FIN.out (some ad) _ (by rw [Nat.sub_self]) (fun h => by omega) (fun h => by cases h)
        · go_enter Tryz.func109, Tryz.ntmps109
          go_wp2_with fail
          go_region
          go_wp2
          go_ret
          exact FIN.out _ _ rfl (fun h => rfl) (fun h => by cases h)
    · have he' : (e == 0) = false := by simpa using he
      go_enter Tryz.func109, Tryz.ntmps109
      go_wp2
      go_ret
      exact ⟨none, [], L, e, rfl, ⟨fun h => absurd h (by simp), Nat.le_refl _, Nat.zero_le _, Nat.zero_le _, fun j hj => absurd hj (by simp), fun _ => ⟨rfl, rfl⟩⟩, ⟨⟨fun _ => rfl, fun h => absurd h he, fun h => absurd h he⟩, HH.out, But.refl _ _⟩, fun _ => rfl⟩
end Go.Proofs.YtfonicphdejdlaaGreat

namespace Go.Proofs.YtfonicphdejdlaaGreat
open Go.RowKit
set_option maxRecDepth 8000

/-- what the end of a number comes to -/
def endS (n bound : Nat) (idle : Bool) : RS Nat := if idle = true then failS 41 else if bound < n then failS 43 else retS n
def NumP (s : RS Nat) (most : Nat) (w : World) (S : Nat → Prop) (rb : Nat) (L : List Int) (e : Int) (x : Ending) (w' : World) : Prop :=
  ∃ (r : Nat) (R : List Int) (e' : Int), x = .returned (.int .i64 (r : Int)) ∧ RdS s (fun y => r = y) w S rb L e R e' w' ∧ r ≤ most ∧ (e' ≠ 0 → r = 0)
theorem RR.fail_ {α : Type} {ok : α → Prop} {L : List Int} {k : Nat} (hk : k ≠ 0) : RR (failS k : RS α) ok L 0 L (if (0 : Int) = 0 then (k : Int) else 0) :=
  ⟨fun h => absurd rfl h, fun _ y T h => (by cases h), fun _ k2 h => (by cases h; exact ⟨by simp, by simp; omega⟩)⟩

/-- what the end of a number answers -/
def endV (n bound size : Nat) (idle : Bool) : Value := if idle = true then .tuple #[.int .i64 0, .int .i64 0, .int .i64 41] else if bound < n then .tuple #[.int .i64 0, .int .i64 0, .int .i64 43] else .tuple #[.int .i64 n, .int .i64 size, .int .i64 0]
set_option maxHeartbeats 1000000 in
theorem numEnded_any (w : World) (n bound size : Nat) (zero : Bool) (hn : n < 34359738368) (hb : bound < 34359738368) (hs : 1 ≤ size ∧ size ≤ 5) : Calls Tryz.prog 120 #[.int .u64 n, .int .i64 size, .int .i64 bound, .bool zero] w fun x w' => x = .returned (endV n bound size (zero && decide (1 < size))) ∧ w' = w := by
  have fin : ∀ idle : Bool, (zero && decide (1 < size)) = idle → Calls Tryz.prog 120 #[.int .u64 n, .int .i64 size, .int .i64 bound, .bool zero] w fun x w' => x = .returned (endV n bound size idle) ∧ w' = w := by
    intro idle hid_
    cases idle with
    | true =>
      have hz : zero = true ∧ 1 < size := by simpa using hid_
      obtain ⟨rfl, h1⟩ := hz
      have h1' : (1 : Int) < (size : Int) := by omega
      clear hid_
      go_enter Tryz.func120, Tryz.ntmps120
      go_wp2
      exact bodyPost_ret (v := .tuple #[.int .i64 0, .int .i64 0, .int .i64 41]) (by simp [results, Tryz.results120, go_sem]) rfl ⟨rfl, rfl⟩
    | false =>
      have HQ : Hid (∀ x : Value, (bound < n → x = .tuple #[.int .i64 0, .int .i64 0, .int .i64 43]) → (¬ bound < n → x = .tuple #[.int .i64 n, .int .i64 size, .int .i64 0]) → x = endV n bound size false) := fun x h1 h2 => by
        unfold endV
        rw [if_neg (by simp)]
        by_cases h : bound < n
        · rw [if_pos h]; exact h1 h
        · rw [if_neg h]; exact h2 h
      have walk : ∀ z : Bool, (z = true → ¬ (1 : Int) < (size : Int)) → Calls Tryz.prog 120 #[.int .u64 n, .int .i64 size, .int .i64 bound, .bool z] w fun x w' => x = .returned (endV n bound size false) ∧ w' = w := by
        intro z hz
        cases z with
        | true =>
          have hz1 := hz rfl
          clear hz hid_
          by_cases hlt : bound < n
          · have hlt' : (bound : Int) < (n : Int) := by omega
            have HR := hid (HQ.out _ (fun _ => rfl) (fun h => absurd hlt h))
            clear HQ hlt
            go_enter Tryz.func120, Tryz.ntmps120
            go_wp2
            exact bodyPost_ret (v := .tuple #[.int .i64 0, .int .i64 0, .int .i64 43]) (by simp [results, Tryz.results120, go_sem]) rfl ⟨congrArg Ending.returned HR.out, rfl⟩
          · have hlt' : ¬ (bound : Int) < (n : Int) := by omega
            have HR := hid (HQ.out _ (fun h => absurd h hlt) (fun _ => rfl))
            clear HQ hlt
            go_enter Tryz.func120, Tryz.ntmps120
            go_wp2
            exact bodyPost_ret (v := .tuple #[.int .i64 n, .int .i64 size, .int .i64 0]) (by simp [results, Tryz.results120, go_sem]) rfl ⟨congrArg Ending.returned HR.out, rfl⟩
        | false =>
          clear hz hid_
          by_cases hlt : bound < n
          · have hlt' : (bound : Int) < (n : Int) := by omega
            have HR := hid (HQ.out _ (fun _ => rfl) (fun h => absurd hlt h))
            clear HQ hlt
            go_enter Tryz.func120, Tryz.ntmps120
            go_wp2
            exact bodyPost_ret (v := .tuple #[.int .i64 0, .int .i64 0, .int .i64 43]) (by simp [results, Tryz.results120, go_sem]) rfl ⟨congrArg Ending.returned HR.out, rfl⟩
          · have hlt' : ¬ (bound : Int) < (n : Int) := by omega
            have HR := hid (HQ.out _ (fun h => absurd h hlt) (fun _ => rfl))
            clear HQ hlt
            go_enter Tryz.func120, Tryz.ntmps120
            go_wp2
            exact bodyPost_ret (v := .tuple #[.int .i64 n, .int .i64 size, .int .i64 0]) (by simp [results, Tryz.results120, go_sem]) rfl ⟨congrArg Ending.returned HR.out, rfl⟩
      refine walk zero fun hz => ?_
      rw [hz] at hid_
      have : ¬ 1 < size := by simpa using hid_
      omega
  exact fin _ rfl
theorem and128lo (c : Nat) (h : c < 128) : bits BinOp.and IntKind.u8 (c : Int) 128 = 0 := by
  have h2 : ∀ v : Nat, v < 128 → bits BinOp.and IntKind.u8 (v : Int) 128 = 0 := by decide
  exact h2 c h
theorem and128hi (c : Nat) (h : c < 256) (h1 : ¬ c < 128) : bits BinOp.and IntKind.u8 (c : Int) 128 = 128 := by
  have h2 : ∀ v : Nat, v < 256 → ¬ v < 128 → bits BinOp.and IntKind.u8 (v : Int) 128 = 128 := by decide
  exact h2 c h h1
theorem numG_nil (bound k i u : Nat) : numG bound (k + 1) i u [] = .error 40 := rfl
theorem numG_lo {bound k i u C : Nat} {R : List Int} (h : C < 128) : numG bound (k + 1) i u ((C : Int) :: R) = endS (u ||| C % 128 * 2 ^ (7 * i)) bound (decide (0 < i ∧ C = 0)) R := by
  simp [numG, bindS, takeS, endS, h]
theorem numG_hi {bound k i u C : Nat} {R : List Int} (h : ¬ C < 128) : numG bound (k + 1) i u ((C : Int) :: R) = numG bound k (i + 1) (u ||| C % 128 * 2 ^ (7 * i)) R := by
  simp [numG, bindS, takeS, h]
theorem RR.eq {α : Type} {s s2 : RS α} {ok : α → Prop} {L L2 R : List Int} {e' : Int} (h : RR s2 ok L2 0 R e') (e : s L = s2 L2) : RR s ok L 0 R e' :=
  ⟨fun h => absurd rfl h, fun _ y T hy => h.good rfl y T (by rw [← e]; exact hy), fun _ k hk => h.bad rfl k (by rw [← e]; exact hk)⟩
theorem RR.err {α : Type} {s : RS α} {ok : α → Prop} {L R : List Int} {k : Nat} {e' : Int} (e : s L = .error k) (h : e' = (k : Int)) (h0 : k ≠ 0) : RR s ok L 0 R e' :=
  ⟨fun h => absurd rfl h, fun _ y T hy => (by rw [e] at hy; cases hy), fun _ k2 hk => (by rw [e] at hk; cases hk; exact ⟨h, by omega⟩)⟩
/-- what Lead answers -/
def LeadP (bound : Nat) (L : List Int) (x : Ending) : Prop := ∃ n sz k : Nat, x = .returned (.tuple #[.int .i64 (n : Int), .int .i64 (sz : Int), .int .i64 (k : Int)]) ∧ ((k = 0 ∧ sz ≤ L.length ∧ numS bound L = .ok (n, L.drop sz) ∧ n ≤ bound) ∨ (k ≠ 0 ∧ n = 0 ∧ sz = 0 ∧ numS bound L = .error k))
theorem endS_lead {u bound i : Nat} {idle : Bool} {L R : List Int} {Z : Except Nat (Nat × List Int)} (hZ : Z = numS bound L) (hE : Z = endS u bound idle R) (hR : R = L.drop (i + 1)) (hi : i + 1 ≤ L.length) : LeadP bound L (.returned (endV u bound (i + 1) idle)) := by
  rw [hZ] at hE
  unfold endV
  unfold endS at hE
  cases idle with
  | true =>
    rw [if_pos rfl] at hE ⊢
    exact ⟨0, 0, 41, rfl, .inr ⟨by omega, rfl, rfl, hE⟩⟩
  | false =>
    rw [if_neg (by simp)] at hE ⊢
    by_cases h : bound < u
    · rw [if_pos h] at hE ⊢
      exact ⟨0, 0, 43, rfl, .inr ⟨by omega, rfl, rfl, hE⟩⟩
    · rw [if_neg h] at hE ⊢
      exact ⟨u, i + 1, 0, rfl, .inl ⟨rfl, hi, by rw [hE, ← hR]; rfl, by omega⟩⟩
set_option maxHeartbeats 4000000 in
theorem numLead_any (w : World) (S : Nat → Prop) (p : Option Addr) (L : List Int) (bound : Nat) (hb : bound < 34359738368) (h : Byts w S p L.length L.length (fun j => L.getD j 0)) : Calls Tryz.prog 108 #[.slice p L.length L.length, .int .i64 bound] w fun x w' => LeadP bound L x ∧ w' = w := by
  have HY := hid h
  have hnn := h.nn
  clear h
  obtain ⟨nn, hne⟩ : ∃ nn, nn = L.length := ⟨_, rfl⟩
  obtain ⟨Z, hZ⟩ : ∃ Z, Z = numG bound 5 0 0 L := ⟨_, rfl⟩
  have HZ := hid hZ
  have HNe := hid hne
  rw [← hne] at hnn ⊢
  clear hZ hne
  by_cases h5n : 5 < nn
  case pos =>
    have h5n' : (5 : Int) < (nn : Int) := by omega
    go_enter Tryz.func108, Tryz.ntmps108
    go_wp2_with fail
    go_loopw [7, 16] (fun y x wr => ∃ (i u : Nat), i ≤ 5 ∧ y = .int .u64 (u : Int) ∧ x = .int .i64 (i : Int) ∧ u < 2 ^ (7 * i) ∧ wr = w ∧ numG bound (5 - i) i u (L.drop i) = Z) (fun _ x _ => 5 - (intOf x).toNat)
    case atStart => exact ⟨0, 0, by omega, rfl, rfl, by decide, rfl, HZ.out.symm⟩
    case round =>
      obtain ⟨i, u, hi, rfl, rfl, hu, hw, hg⟩ := hrel
      subst wr
      have HG := hid hg
      clear hg
      by_cases him : i < 5
      · have him' : (i : Int) < (5 : Int) := by omega
        obtain ⟨C, hC⟩ : ∃ C : Nat, L.getD i 0 = (C : Int) ∧ C < 256 := by
          obtain ⟨f1, f2⟩ := HY.out.fit i (by rw [← HNe.out]; omega)
          exact ⟨(L.getD i 0).toNat, by omega, by omega⟩
        obtain ⟨hCe, hC2⟩ := hC
        obtain ⟨b0, o0, hp, _, _, hat⟩ := HY.out.at_ (by rw [← HNe.out]; omega)
        subst hp
        have y0 := hat i (by rw [← HNe.out]; omega)
        rw [hCe] at y0
        have hdr : L.drop i = (C : Int) :: L.drop (i + 1) := by
          have hl : i < L.length := by rw [← HNe.out]; omega
          rw [List.drop_eq_getElem_cons hl]
          congr 1
          rw [← hCe, List.getD_eq_getElem?_getD, List.getElem?_eq_getElem hl]
          rfl
        have HE : Hid (5 - i = (4 - i) + 1) := by unfold Hid; omega
        have e1 := andnot128 C hC2
        have hV : C % 128 * 2 ^ (7 * i) < 2 ^ (7 * (i + 1)) := by
          rw [pow7]
          have hp : 0 < 2 ^ (7 * i) := Nat.two_pow_pos _
          exact Nat.mul_lt_mul_of_pos_right (by omega) hp
        have hu2 : u < 2 ^ (7 * (i + 1)) := by
          rw [pow7]
          have hp : 0 < 2 ^ (7 * i) := Nat.two_pow_pos _
          omega
        have hU := Nat.or_lt_two_pow hu2 hV
        have h64 : 2 ^ (7 * (i + 1)) ≤ 34359738368 := by
          have h7 : (2 : Nat) ^ (7 * (i + 1)) ≤ 2 ^ 35 := Nat.pow_le_pow_right (by omega) (by omega)
          exact h7
        have hor := bits_or_u64_nat u (C % 128 * 2 ^ (7 * i)) (by omega) (by omega)
        have HU := hid hU
        have HUl := hid (Nat.lt_of_lt_of_le hU h64)
        clear hU hu2 h64
        have HGl : Hid (C < 128 → Z = endS (u ||| C % 128 * 2 ^ (7 * i)) bound (decide (0 < i ∧ C = 0)) (L.drop (i + 1))) := fun h => by
          have h1 := HG.out
          rw [hdr, HE.out, numG_lo h] at h1
          exact h1.symm
        have HGh : Hid (¬ C < 128 → numG bound (5 - (i + 1)) (i + 1) (u ||| C % 128 * 2 ^ (7 * i)) (L.drop (i + 1)) = Z) := fun h => by
          have h1 := HG.out
          rw [hdr, HE.out, numG_hi h] at h1
          rw [show 5 - (i + 1) = 4 - i by omega]
          exact h1
        obtain ⟨V, hVe⟩ : ∃ V, V = C % 128 * 2 ^ (7 * i) := ⟨_, rfl⟩
        rw [← hVe] at hor HU HUl HGl HGh hV
        obtain ⟨U, hUe⟩ : ∃ U, U = u ||| V := ⟨_, rfl⟩
        rw [← hUe] at hor HU HUl HGl HGh
        have HVe := hid hVe
        clear hVe hUe hat hCe hdr
        by_cases hlt : C < 128
        · have eA := and128lo C hlt
          have HGl := hid (HGl.out hlt)
          have HEn : Hid (∀ b : Bool, decide (C = 0) = b → Calls Tryz.prog 120 #[.int .u64 U, .int .i64 ((i : Int) + 1), .int .i64 bound, .bool b] w fun x w' => (∃ v, x = .returned v ∧ v = endV U bound (i + 1) (decide (0 < i ∧ C = 0))) ∧ w' = w) := fun b hb2 => by
            have h1 := numEnded_any w U bound (i + 1) b HUl.out hb (by omega)
            rw [show (((i + 1 : Nat)) : Int) = (i : Int) + 1 by omega] at h1
            refine h1.mono fun x w' ⟨h2, h3⟩ => ⟨⟨_, h2, ?_⟩, h3⟩
            congr 1
            rw [← hb2]
            by_cases h0 : C = 0
            · simp [h0]
            · simp [h0]
          have key : Hid (LeadP bound L (.returned (endV U bound (i + 1) (decide (0 < i ∧ C = 0))))) := endS_lead HZ.out HGl.out rfl (by rw [← HNe.out]; omega)
          have HKq : Hid (∃ a b c : Int, endV U bound (i + 1) (decide (0 < i ∧ C = 0)) = .tuple #[.int .i64 a, .int .i64 b, .int .i64 c]) := by
            unfold endV
            show ∃ a b c : Int, _
            split
            · exact ⟨0, 0, 41, rfl⟩
            · split
              · exact ⟨0, 0, 43, rfl⟩
              · exact ⟨U, ((i + 1 : Nat) : Int), 0, rfl⟩
          have hiI : (i : Int) + 1 ≤ 5 := by omega
          clear HGh HG HZ hlt HGl HU
          have hi4 : i ≤ 4 := by omega
          have h32 : (u : Int) < 34359738368 := by
            have h7 : (2 : Nat) ^ (7 * i) ≤ 2 ^ 35 := Nat.pow_le_pow_right (by omega) (by omega)
            have h8 := Nat.lt_of_lt_of_le hu h7
            omega
          obtain ⟨ev, hev⟩ : ∃ ev, ev = endV U bound (i + 1) (decide (0 < i ∧ C = 0)) := ⟨_, rfl⟩
          rw [← hev] at key HKq HEn
          clear hev
          obtain ⟨va, vb, vc, hvv⟩ := HKq.out
          subst hvv
          by_cases hC0 : C = 0
          · have HEn := hid (HEn.out true (by simp [hC0]))
            have hC0' : ((C : Int) == 0) = true := by rw [hC0]; rfl
            clear hC0
            by_cases hi0 : i = 0
            · subst hi0
              simp only [Nat.add_zero] at y0
              have e0 : (C : Int) % 128 = (V : Int) := by have := HVe.out; omega
              go_wp2_with fail
              refine HEn.out.mono ?_
              rintro x w' ⟨⟨v, rfl, rfl⟩, hw⟩
              subst w'
              go_wp2
              exact bodyPost_ret (v := .tuple #[.int .i64 va, .int .i64 vb, .int .i64 vc]) (by simp [results, Tryz.results108, go_sem]) rfl ⟨key.out, rfl⟩
            · have h1' : (0 : Int) < (i : Int) := by omega
              have e0 : IntKind.u64.wrap ((C : Int) % 128 * 2 ^ (7 * i)) = (V : Int) := by
                have h2 : (C : Int) % 128 * 2 ^ (7 * i) = (V : Int) := by rw [HVe.out]; simp
                have h7 : (2 : Nat) ^ (7 * (i + 1)) ≤ 2 ^ 35 := Nat.pow_le_pow_right (by omega) (by omega)
                have h8 := Nat.lt_of_lt_of_le hV h7
                rw [h2, wrap_u64]; omega
              go_wp2_with fail
              refine HEn.out.mono ?_
              rintro x w' ⟨⟨v, rfl, rfl⟩, hw⟩
              subst w'
              go_wp2
              exact bodyPost_ret (v := .tuple #[.int .i64 va, .int .i64 vb, .int .i64 vc]) (by simp [results, Tryz.results108, go_sem]) rfl ⟨key.out, rfl⟩
          · have HEn := hid (HEn.out false (by simp [hC0]))
            have hC0' : ((C : Int) == 0) = false := by simpa using hC0
            by_cases hi0 : i = 0
            · subst hi0
              simp only [Nat.add_zero] at y0
              have e0 : (C : Int) % 128 = (V : Int) := by have := HVe.out; omega
              go_wp2_with fail
              refine HEn.out.mono ?_
              rintro x w' ⟨⟨v, rfl, rfl⟩, hw⟩
              subst w'
              go_wp2
              exact bodyPost_ret (v := .tuple #[.int .i64 va, .int .i64 vb, .int .i64 vc]) (by simp [results, Tryz.results108, go_sem]) rfl ⟨key.out, rfl⟩
            · have h1' : (0 : Int) < (i : Int) := by omega
              have e0 : IntKind.u64.wrap ((C : Int) % 128 * 2 ^ (7 * i)) = (V : Int) := by
                have h2 : (C : Int) % 128 * 2 ^ (7 * i) = (V : Int) := by rw [HVe.out]; simp
                have h7 : (2 : Nat) ^ (7 * (i + 1)) ≤ 2 ^ 35 := Nat.pow_le_pow_right (by omega) (by omega)
                have h8 := Nat.lt_of_lt_of_le hV h7
                rw [h2, wrap_u64]; omega
              go_wp2_with fail
              refine HEn.out.mono ?_
              rintro x w' ⟨⟨v, rfl, rfl⟩, hw⟩
              subst w'
              go_wp2
              exact bodyPost_ret (v := .tuple #[.int .i64 va, .int .i64 vb, .int .i64 vc]) (by simp [results, Tryz.results108, go_sem]) rfl ⟨key.out, rfl⟩
        · have eA := and128hi C hC2 hlt
          have HGh := hid (HGh.out hlt)
          clear HGl HG HZ hlt
          by_cases hi0 : i = 0
          · subst hi0
            simp only [Nat.add_zero] at y0
            have e0 : (C : Int) % 128 = (V : Int) := by have := HVe.out; omega
            go_wp2
            go_roundw
            case rel => exact ⟨0 + 1, U, by omega, rfl, rfl, HU.out, by first | rfl | trivial, HGh.out⟩
            case measure => first | (simp [intOf]; done) | (simp [intOf]; omega)
          · have e0 : IntKind.u64.wrap ((C : Int) % 128 * 2 ^ (7 * i)) = (V : Int) := by
              have h2 : (C : Int) % 128 * 2 ^ (7 * i) = (V : Int) := by rw [HVe.out]; simp
              have h7 : (2 : Nat) ^ (7 * (i + 1)) ≤ 2 ^ 35 := Nat.pow_le_pow_right (by omega) (by omega)
              have h8 := Nat.lt_of_lt_of_le hV h7
              rw [h2, wrap_u64]; omega
            go_wp2
            go_roundw
            case rel => exact ⟨i + 1, U, by omega, rfl, by go_num, HU.out, by first | rfl | trivial, HGh.out⟩
            case measure => first | (simp [intOf]; done) | (simp [intOf]; omega)
      · have hie : i = 5 := by omega
        have him' : ¬ (i : Int) < (5 : Int) := by omega
        by_cases h5 : nn < 5
        · have h5' : (nn : Int) < 5 := by omega
          have HF : Hid (LeadP bound L (.returned (.tuple #[.int .i64 0, .int .i64 0, .int .i64 40]))) := by
            have h1 := HG.out
            rw [List.drop_of_length_le (by rw [← HNe.out]; omega), show 5 - i = (4 - i) + 1 by omega, numG_nil] at h1
            exact ⟨0, 0, 40, rfl, .inr ⟨by omega, rfl, rfl, by show numG bound 5 0 0 L = _; rw [← HZ.out, ← h1]⟩⟩
          clear hie
          go_wp2
          exact bodyPost_ret (v := .tuple #[.int .i64 0, .int .i64 0, .int .i64 40]) (by simp [results, Tryz.results108, go_sem]) rfl ⟨HF.out, rfl⟩
        · have h5' : ¬ (nn : Int) < 5 := by omega
          have HF : Hid (LeadP bound L (.returned (.tuple #[.int .i64 0, .int .i64 0, .int .i64 41]))) := by
            have h1 := HG.out
            rw [show 5 - i = 0 by omega] at h1
            exact ⟨0, 0, 41, rfl, .inr ⟨by omega, rfl, rfl, by show numG bound 5 0 0 L = _; rw [← HZ.out, ← h1]; rfl⟩⟩
          clear hie
          go_wp2
          exact bodyPost_ret (v := .tuple #[.int .i64 0, .int .i64 0, .int .i64 41]) (by simp [results, Tryz.results108, go_sem]) rfl ⟨HF.out, rfl⟩
  case neg =>
    have h5n' : ¬ (5 : Int) < (nn : Int) := by omega
    go_enter Tryz.func108, Tryz.ntmps108
    go_wp2_with fail
    go_loopw [7, 16] (fun y x wr => ∃ (i u : Nat), i ≤ nn ∧ y = .int .u64 (u : Int) ∧ x = .int .i64 (i : Int) ∧ u < 2 ^ (7 * i) ∧ wr = w ∧ numG bound (5 - i) i u (L.drop i) = Z) (fun _ x _ => nn - (intOf x).toNat)
    case atStart => exact ⟨0, 0, by omega, rfl, rfl, by decide, rfl, HZ.out.symm⟩
    case round =>
      obtain ⟨i, u, hi, rfl, rfl, hu, hw, hg⟩ := hrel
      subst wr
      have HG := hid hg
      clear hg
      by_cases him : i < nn
      · have him' : (i : Int) < (nn : Int) := by omega
        obtain ⟨C, hC⟩ : ∃ C : Nat, L.getD i 0 = (C : Int) ∧ C < 256 := by
          obtain ⟨f1, f2⟩ := HY.out.fit i (by rw [← HNe.out]; omega)
          exact ⟨(L.getD i 0).toNat, by omega, by omega⟩
        obtain ⟨hCe, hC2⟩ := hC
        obtain ⟨b0, o0, hp, _, _, hat⟩ := HY.out.at_ (by rw [← HNe.out]; omega)
        subst hp
        have y0 := hat i (by rw [← HNe.out]; omega)
        rw [hCe] at y0
        have hdr : L.drop i = (C : Int) :: L.drop (i + 1) := by
          have hl : i < L.length := by rw [← HNe.out]; omega
          rw [List.drop_eq_getElem_cons hl]
          congr 1
          rw [← hCe, List.getD_eq_getElem?_getD, List.getElem?_eq_getElem hl]
          rfl
        have HE : Hid (5 - i = (4 - i) + 1) := by unfold Hid; omega
        have e1 := andnot128 C hC2
        have hV : C % 128 * 2 ^ (7 * i) < 2 ^ (7 * (i + 1)) := by
          rw [pow7]
          have hp : 0 < 2 ^ (7 * i) := Nat.two_pow_pos _
          exact Nat.mul_lt_mul_of_pos_right (by omega) hp
        have hu2 : u < 2 ^ (7 * (i + 1)) := by
          rw [pow7]
          have hp : 0 < 2 ^ (7 * i) := Nat.two_pow_pos _
          omega
        have hU := Nat.or_lt_two_pow hu2 hV
        have h64 : 2 ^ (7 * (i + 1)) ≤ 34359738368 := by
          have h7 : (2 : Nat) ^ (7 * (i + 1)) ≤ 2 ^ 35 := Nat.pow_le_pow_right (by omega) (by omega)
          exact h7
        have hor := bits_or_u64_nat u (C % 128 * 2 ^ (7 * i)) (by omega) (by omega)
        have HU := hid hU
        have HUl := hid (Nat.lt_of_lt_of_le hU h64)
        clear hU hu2 h64
        have HGl : Hid (C < 128 → Z = endS (u ||| C % 128 * 2 ^ (7 * i)) bound (decide (0 < i ∧ C = 0)) (L.drop (i + 1))) := fun h => by
          have h1 := HG.out
          rw [hdr, HE.out, numG_lo h] at h1
          exact h1.symm
        have HGh : Hid (¬ C < 128 → numG bound (5 - (i + 1)) (i + 1) (u ||| C % 128 * 2 ^ (7 * i)) (L.drop (i + 1)) = Z) := fun h => by
          have h1 := HG.out
          rw [hdr, HE.out, numG_hi h] at h1
          rw [show 5 - (i + 1) = 4 - i by omega]
          exact h1
        obtain ⟨V, hVe⟩ : ∃ V, V = C % 128 * 2 ^ (7 * i) := ⟨_, rfl⟩
        rw [← hVe] at hor HU HUl HGl HGh hV
        obtain ⟨U, hUe⟩ : ∃ U, U = u ||| V := ⟨_, rfl⟩
        rw [← hUe] at hor HU HUl HGl HGh
        have HVe := hid hVe
        clear hVe hUe hat hCe hdr
        by_cases hlt : C < 128
        · have eA := and128lo C hlt
          have HGl := hid (HGl.out hlt)
          have HEn : Hid (∀ b : Bool, decide (C = 0) = b → Calls Tryz.prog 120 #[.int .u64 U, .int .i64 ((i : Int) + 1), .int .i64 bound, .bool b] w fun x w' => (∃ v, x = .returned v ∧ v = endV U bound (i + 1) (decide (0 < i ∧ C = 0))) ∧ w' = w) := fun b hb2 => by
            have h1 := numEnded_any w U bound (i + 1) b HUl.out hb (by omega)
            rw [show (((i + 1 : Nat)) : Int) = (i : Int) + 1 by omega] at h1
            refine h1.mono fun x w' ⟨h2, h3⟩ => ⟨⟨_, h2, ?_⟩, h3⟩
            congr 1
            rw [← hb2]
            by_cases h0 : C = 0
            · simp [h0]
            · simp [h0]
          have key : Hid (LeadP bound L (.returned (endV U bound (i + 1) (decide (0 < i ∧ C = 0))))) := endS_lead HZ.out HGl.out rfl (by rw [← HNe.out]; omega)
          have HKq : Hid (∃ a b c : Int, endV U bound (i + 1) (decide (0 < i ∧ C = 0)) = .tuple #[.int .i64 a, .int .i64 b, .int .i64 c]) := by
            unfold endV
            show ∃ a b c : Int, _
            split
            · exact ⟨0, 0, 41, rfl⟩
            · split
              · exact ⟨0, 0, 43, rfl⟩
              · exact ⟨U, ((i + 1 : Nat) : Int), 0, rfl⟩
          have hiI : (i : Int) + 1 ≤ 5 := by omega
          clear HGh HG HZ hlt HGl HU
          have hi4 : i ≤ 4 := by omega
          have h32 : (u : Int) < 34359738368 := by
            have h7 : (2 : Nat) ^ (7 * i) ≤ 2 ^ 35 := Nat.pow_le_pow_right (by omega) (by omega)
            have h8 := Nat.lt_of_lt_of_le hu h7
            omega
          obtain ⟨ev, hev⟩ : ∃ ev, ev = endV U bound (i + 1) (decide (0 < i ∧ C = 0)) := ⟨_, rfl⟩
          rw [← hev] at key HKq HEn
          clear hev
          obtain ⟨va, vb, vc, hvv⟩ := HKq.out
          subst hvv
          by_cases hC0 : C = 0
          · have HEn := hid (HEn.out true (by simp [hC0]))
            have hC0' : ((C : Int) == 0) = true := by rw [hC0]; rfl
            clear hC0
            by_cases hi0 : i = 0
            · subst hi0
              simp only [Nat.add_zero] at y0
              have e0 : (C : Int) % 128 = (V : Int) := by have := HVe.out; omega
              go_wp2_with fail
              refine HEn.out.mono ?_
              rintro x w' ⟨⟨v, rfl, rfl⟩, hw⟩
              subst w'
              go_wp2
              exact bodyPost_ret (v := .tuple #[.int .i64 va, .int .i64 vb, .int .i64 vc]) (by simp [results, Tryz.results108, go_sem]) rfl ⟨key.out, rfl⟩
            · have h1' : (0 : Int) < (i : Int) := by omega
              have e0 : IntKind.u64.wrap ((C : Int) % 128 * 2 ^ (7 * i)) = (V : Int) := by
                have h2 : (C : Int) % 128 * 2 ^ (7 * i) = (V : Int) := by rw [HVe.out]; simp
                have h7 : (2 : Nat) ^ (7 * (i + 1)) ≤ 2 ^ 35 := Nat.pow_le_pow_right (by omega) (by omega)
                have h8 := Nat.lt_of_lt_of_le hV h7
                rw [h2, wrap_u64]; omega
              go_wp2_with fail
              refine HEn.out.mono ?_
              rintro x w' ⟨⟨v, rfl, rfl⟩, hw⟩
              subst w'
              go_wp2
              exact bodyPost_ret (v := .tuple #[.int .i64 va, .int .i64 vb, .int .i64 vc]) (by simp [results, Tryz.results108, go_sem]) rfl ⟨key.out, rfl⟩
          · have HEn := hid (HEn.out false (by simp [hC0]))
            have hC0' : ((C : Int) == 0) = false := by simpa using hC0
            by_cases hi0 : i = 0
            · subst hi0
              simp only [Nat.add_zero] at y0
              have e0 : (C : Int) % 128 = (V : Int) := by have := HVe.out; omega
              go_wp2_with fail
              refine HEn.out.mono ?_
              rintro x w' ⟨⟨v, rfl, rfl⟩, hw⟩
              subst w'
              go_wp2
              exact bodyPost_ret (v := .tuple #[.int .i64 va, .int .i64 vb, .int .i64 vc]) (by simp [results, Tryz.results108, go_sem]) rfl ⟨key.out, rfl⟩
            · have h1' : (0 : Int) < (i : Int) := by omega
              have e0 : IntKind.u64.wrap ((C : Int) % 128 * 2 ^ (7 * i)) = (V : Int) := by
                have h2 : (C : Int) % 128 * 2 ^ (7 * i) = (V : Int) := by rw [HVe.out]; simp
                have h7 : (2 : Nat) ^ (7 * (i + 1)) ≤ 2 ^ 35 := Nat.pow_le_pow_right (by omega) (by omega)
                have h8 := Nat.lt_of_lt_of_le hV h7
                rw [h2, wrap_u64]; omega
              go_wp2_with fail
              refine HEn.out.mono ?_
              rintro x w' ⟨⟨v, rfl, rfl⟩, hw⟩
              subst w'
              go_wp2
              exact bodyPost_ret (v := .tuple #[.int .i64 va, .int .i64 vb, .int .i64 vc]) (by simp [results, Tryz.results108, go_sem]) rfl ⟨key.out, rfl⟩
        · have eA := and128hi C hC2 hlt
          have HGh := hid (HGh.out hlt)
          clear HGl HG HZ hlt
          by_cases hi0 : i = 0
          · subst hi0
            simp only [Nat.add_zero] at y0
            have e0 : (C : Int) % 128 = (V : Int) := by have := HVe.out; omega
            go_wp2
            go_roundw
            case rel => exact ⟨0 + 1, U, by omega, rfl, rfl, HU.out, by first | rfl | trivial, HGh.out⟩
            case measure => first | (simp [intOf]; done) | (simp [intOf]; omega)
          · have e0 : IntKind.u64.wrap ((C : Int) % 128 * 2 ^ (7 * i)) = (V : Int) := by
              have h2 : (C : Int) % 128 * 2 ^ (7 * i) = (V : Int) := by rw [HVe.out]; simp
              have h7 : (2 : Nat) ^ (7 * (i + 1)) ≤ 2 ^ 35 := Nat.pow_le_pow_right (by omega) (by omega)
              have h8 := Nat.lt_of_lt_of_le hV h7
              rw [h2, wrap_u64]; omega
            go_wp2
            go_roundw
            case rel => exact ⟨i + 1, U, by omega, rfl, by go_num, HU.out, by first | rfl | trivial, HGh.out⟩
            case measure => first | (simp [intOf]; done) | (simp [intOf]; omega)
      · have hie : i = nn := by omega
        have him' : ¬ (i : Int) < (nn : Int) := by omega
        by_cases h5 : nn < 5
        · have h5' : (nn : Int) < 5 := by omega
          have HF : Hid (LeadP bound L (.returned (.tuple #[.int .i64 0, .int .i64 0, .int .i64 40]))) := by
            have h1 := HG.out
            rw [List.drop_of_length_le (by rw [← HNe.out]; omega), show 5 - i = (4 - i) + 1 by omega, numG_nil] at h1
            exact ⟨0, 0, 40, rfl, .inr ⟨by omega, rfl, rfl, by show numG bound 5 0 0 L = _; rw [← HZ.out, ← h1]⟩⟩
          clear hie
          go_wp2
          exact bodyPost_ret (v := .tuple #[.int .i64 0, .int .i64 0, .int .i64 40]) (by simp [results, Tryz.results108, go_sem]) rfl ⟨HF.out, rfl⟩
        · have h5' : ¬ (nn : Int) < 5 := by omega
          have HF : Hid (LeadP bound L (.returned (.tuple #[.int .i64 0, .int .i64 0, .int .i64 41]))) := by
            have h1 := HG.out
            rw [show 5 - i = 0 by omega] at h1
            exact ⟨0, 0, 41, rfl, .inr ⟨by omega, rfl, rfl, by show numG bound 5 0 0 L = _; rw [← HZ.out, ← h1]; rfl⟩⟩
          clear hie
          go_wp2
          exact bodyPost_ret (v := .tuple #[.int .i64 0, .int .i64 0, .int .i64 41]) (by simp [results, Tryz.results108, go_sem]) rfl ⟨HF.out, rfl⟩
set_option maxHeartbeats 4000000 in
theorem wrNumber_any (w : World) (S : Nat → Prop) (rb : Nat) (L : List Int) (e : Int) (bound : Nat) (hb : bound < 34359738368) (h : Rdr w S rb L e) : Calls Tryz.prog 89 #[.pointer (some ⟨rb, 0, none⟩), .int .i64 bound] w fun x w' => NumP (numS bound) bound w S rb L e x w' := by
  have HH := hid h
  obtain ⟨⟨p, hx, hy⟩, ho⟩ := h
  have HLd := hid (numLead_any w S p L bound hb hy)
  have hnn := hy.nn
  have HNl : Hid (L.length ≤ 140737488355328) := hnn
  have x0 := hx.cell 0
  simp at x0
  have xl := hx.lt
  clear hx hy hnn
  obtain ⟨nn, hne⟩ : ∃ nn, nn = L.length := ⟨_, rfl⟩
  rw [← hne] at x0 HLd
  have HNe := hid hne
  clear hne
  go_enter Tryz.func89, Tryz.ntmps89
  go_wp2_with fail
  refine HLd.out.mono ?_
  rintro x w1 ⟨hP, hw⟩
  subst w1
  obtain ⟨n, sz, k, rfl, hP⟩ := hP
  clear HLd x0
  rcases hP with ⟨rfl, hsz, hok, hnb⟩ | ⟨hk0, rfl, rfl, herr⟩
  · have HOk := hid hok
    have HSz := hid hsz
    have HT := hid (wrTake_any w S rb L e sz (by have := HNl.out; omega) HH.out)
    clear hok hsz
    go_wp2_with fail
    refine HT.out.mono ?_
    rintro x w1 ⟨p1, T, R1, e1, rfl, hby, ⟨hrr, hrd, hkp⟩, hT0⟩
    obtain ⟨⟨p2, hx2, hy2⟩, _⟩ := id hrd
    have y1 := hx2.cell 1
    simp at y1
    have yl := hx2.lt
    have HRR := hid hrr
    have HRd := hid hrd
    have HKp := hid hkp
    clear hby hrr hrd hkp hT0 HT hx2 hy2
    by_cases he : e = 0
    · subst he
      obtain ⟨h1, h2, _⟩ := HRR.out.good rfl (L.take sz) (L.drop sz) (by unfold takeS; rw [if_pos HSz.out])
      subst h2
      have HF : Hid (NumP (numS bound) bound w S rb L 0 (.returned (.int .i64 (n : Int))) w1) := ⟨n, R1, 0, rfl, ⟨⟨fun h => absurd rfl h, fun _ y T2 hy => (by rw [HOk.out] at hy; cases hy; exact ⟨h1, rfl, rfl⟩), fun _ k2 hk => (by rw [HOk.out] at hk; cases hk)⟩, HRd.out, HKp.out⟩, hnb, fun h => absurd rfl h⟩
      clear h1
      go_wp2
      go_ret
      exact HF.out
    · have h1 := HRR.out.stay he
      subst h1
      have he' : (e1 == 0) = false := by simpa using he
      have he2 : (e1 != 0) = true := by simpa using he
      have HF : Hid (NumP (numS bound) bound w S rb L e1 (.returned (.int .i64 0)) w1) := ⟨0, R1, e1, rfl, ⟨⟨fun _ => rfl, fun h => absurd h he, fun h => absurd h he⟩, HRd.out, HKp.out⟩, Nat.zero_le _, fun _ => rfl⟩
      clear he
      go_wp2
      go_ret
      exact HF.out
  · have HEr := hid herr
    have HK0 := hid hk0
    have hk1 : ((k : Int) == 0) = false := by simpa using hk0
    have hk2 : ((k : Int) != 0) = true := by simpa using hk0
    have HFl := hid (wrFail_any w S rb L e k HH.out)
    clear herr hk0
    go_wp2_with fail
    refine HFl.out.mono ?_
    rintro x w1 ⟨rfl, hr1, hk3⟩
    obtain ⟨E, hE⟩ : ∃ E, E = (if e = 0 then (k : Int) else e) := ⟨_, rfl⟩
    rw [← hE] at hr1
    have hE0 : E ≠ 0 := by
      rw [hE]
      by_cases he : e = 0
      · rw [if_pos he]; have := HK0.out; omega
      · rw [if_neg he]; exact he
    have HEe := hid hE
    have HK3 := hid hk3
    have HT := hid (wrTake_any w1 S rb L E 0 (by omega) hr1)
    clear hr1 hk3 hE HFl
    go_wp2_with fail
    refine HT.out.mono ?_
    rintro x w2 ⟨p1, T, R1, e1, rfl, hby, ⟨hrr, hrd, hkp⟩, hT0⟩
    have h1 := hrr.stay hE0
    subst h1
    obtain ⟨⟨p2, hx2, hy2⟩, _⟩ := id hrd
    have y1 := hx2.cell 1
    simp at y1
    have yl := hx2.lt
    have he' : (e1 == 0) = false := by simpa using hE0
    have he2 : (e1 != 0) = true := by simpa using hE0
    have HF : Hid (NumP (numS bound) bound w S rb L e (.returned (.int .i64 0)) w2) := by
      refine ⟨0, R1, e1, rfl, ⟨⟨fun he => ?_, fun he y T2 hy => ?_, fun he k2 hk => ?_⟩, hrd, HK3.out.trans hkp⟩, Nat.zero_le _, fun _ => rfl⟩
      · rw [HEe.out, if_neg he]
      · rw [HEr.out] at hy; cases hy
      · rw [HEr.out] at hk
        cases hk
        exact ⟨by rw [HEe.out, if_pos he], hE0⟩
    clear hby hrr hrd hkp hT0 HT hx2 hy2 hE0
    go_wp2
    go_ret
    exact HF.out
end Go.Proofs.YtfonicphdejdlaaGreat

namespace Go.Proofs.YtfonicphdejdlaaGreat
open Go.RowKit
set_option maxRecDepth 8000
theorem part_any (db : Nat) (p : Option Addr) (n c : Nat) (f : Nat → Int) : ∀ k d, d + k = 3 → ItemC db p n c f d (decS f n k d) := by
  intro k
  induction k with
  | zero => intro d h; exact part_step db p n c f d (by omega) _ (fun h2 => by omega) (fun _ _ _ _ _ h2 => by cases h2)
  | succ k ih => intro d h; exact part_step db p n c f d (by omega) _ (fun h2 => ih (d + 1) (by omega)) (fun a q v a' q' h2 => ⟨decS_le _ _ _ _ _ _ _ h2, decS_q _ _ _ _ _ _ _ h2⟩)
end Go.Proofs.YtfonicphdejdlaaGreat

namespace Go.Proofs.YtfonicphdejdlaaGreat
open Go.RowKit
set_option maxRecDepth 8000
theorem fault_yes (W : World) (v : Value) : (Instr.typeAssert (.iface 195 v) 20 195 true).run Tryz.prog W = .ok (.tuple #[v, .bool true]) W := by kernel_rfl
set_option maxHeartbeats 2000000 in
theorem asFault_any (a e : Int) (w : World) : Calls Tryz.prog 123 #[faultV a e] w fun x w' => x = .returned (.agg #[.int .i64 a, .int .i64 e]) ∧ Below w.heap.size w w' := by
  have HT := fault_yes
  unfold faultV
  go_enter Tryz.func123, Tryz.ntmps123
  go_wp2
  refine bodyPost_ret (v := .agg #[.int .i64 a, .int .i64 e]) (by simp [results, Tryz.results123, go_sem]) rfl ⟨rfl, ((Below.refl _ _).alloc (Nat.le_refl _) _).alloc (by simp) _⟩
theorem fault_err (W : World) (a e : Int) : (Instr.field 195 (.agg #[.int .i64 a, .int .i64 e]) 1).run Tryz.prog W = .ok (.int .i64 e) W := by kernel_rfl
set_option maxHeartbeats 2000000 in
theorem catch_idle (p0 p1 p2 : Addr) (w : World) :
    CallsD Tryz.prog 122 #[.pointer (some p0), .pointer (some p1), .pointer (some p2)] .returning w fun x u' w' => x = .returned (.tuple #[]) ∧ u' = .returning ∧ w' = w := by
  refine callsD_of_wpS Tryz.func122 rfl fun c₀ cs hu => ?_
  apply wpS_seq
  apply wpS_region
  simp [wpOpsS, go_sem, recoverD, hu, Tryz.ntmps122, Exit.thenS]
  simp only [Array.replicate, List.replicate]
  refine wpS_of_wp ?_
  go_wp2_with fail
  cases c₀
  simp_all [bodyPostS, results, Tryz.results122]
set_option maxHeartbeats 2000000 in
theorem catch_fault (b0 b1 b2 : Nat) (a e : Int) (older : List PanicEntry) (w : World) (x0 x1 x2 x3 y z : Value) (h0 : Box w b0 #[x0, x1, x2, x3] 24) (h1 : Box w b1 #[y] 3) (h2 : Box w b2 #[z] 60) (h01 : b0 ≠ b1) (h02 : b0 ≠ b2) (h12 : b1 ≠ b2) :
    CallsD Tryz.prog 122 #[.pointer (some ⟨b0, 0, none⟩), .pointer (some ⟨b1, 0, none⟩), .pointer (some ⟨b2, 0, none⟩)] (.panicking ({ v := faultV a e, recovered := false } :: older)) w fun x u' w' =>
      x = .returned (.tuple #[]) ∧ u' = .panicking ({ v := faultV a e, recovered := true } :: older) ∧ Box w' b0 #[.int .i64 0, .int .i64 0, .string ⟨#[]⟩, .slice none 0 0] 24 ∧ Box w' b1 #[.int .i64 0] 3 ∧ Box w' b2 #[.int .i64 e] 60 ∧ But (fun y => y = b0 ∨ y = b1 ∨ y = b2) w w' := by
  have HA := fun W => asFault_any a e W
  have HE := fun W => fault_err W a e
  unfold faultV at *
  refine callsD_of_wpS Tryz.func122 rfl fun c₀ cs hu => ?_
  apply wpS_seq
  apply wpS_region
  simp [wpOpsS, go_sem, recoverD, hu, Tryz.ntmps122, Exit.thenS]
  simp only [Array.replicate, List.replicate]
  refine wpS_of_wp ?_
  go_wp2_with fail
  refine (HA _).mono ?_
  rintro x5 w2 ⟨rfl, hb2⟩
  have g0 := h0.below hb2
  have g1 := h1.below hb2
  have g2 := h2.below hb2
  have c0 := g0.cell 0
  have c1 := g0.cell 1
  have c2 := g0.cell 2
  have c3 := g0.cell 3
  have d0 := g1.cell 0
  have e0 := g2.cell 0
  have f0 := g0.frozen 0
  have f1 := g0.frozen 1
  have f2 := g0.frozen 2
  have f3 := g0.frozen 3
  have fd := g1.frozen 0
  have fe := g2.frozen 0
  simp at c0 c1 c2 c3 d0 e0
  have h10 := h01.symm
  have h20 := h02.symm
  have h21 := h12.symm
  go_wp2
  have hk4 : But (fun y => y = b0) w2 ((((w2.setCell ⟨b0, 0, none⟩ (.int .i64 0)).setCell ⟨b0, 1, none⟩ (.int .i64 0)).setCell ⟨b0, 2, none⟩ (.string ⟨#[]⟩)).setCell ⟨b0, 3, none⟩ (.slice none 0 0)) := ((((But.one _ b0).setAt 0 _).setAt 1 _).setAt 2 _).setAt 3 _
  refine ⟨rfl, _, rfl, .tuple #[], by simp [results, Tryz.results122], rfl, rfl, ?_, ?_, ?_, ?_⟩
  · exact ((setV_box g0 _ _ _ _).kept (Below.heap_setCell _ _ _ _ (show b0 ≠ b1 by omega))).kept (Below.heap_setCell _ _ _ _ (show b0 ≠ b2 by omega))
  · exact ((g1.but hk4 h10).set 0 (.int .i64 0)).kept (Below.heap_setCell _ _ _ _ (show b1 ≠ b2 by omega))
  · exact ((g2.but hk4 h20).kept (Below.heap_setCell _ _ _ _ (show b2 ≠ b1 by omega))).set 0 (.int .i64 e)
  · exact (((((((But.ofBelow hb2).setCell (p := ⟨b0, 0, none⟩) (fun _ => Or.inl rfl) _).setCell (p := ⟨b0, 1, none⟩) (fun _ => Or.inl rfl) _).setCell (p := ⟨b0, 2, none⟩) (fun _ => Or.inl rfl) _).setCell (p := ⟨b0, 3, none⟩) (fun _ => Or.inl rfl) _).setCell (p := ⟨b1, 0, none⟩) (fun _ => Or.inr (Or.inl rfl)) _).setCell (p := ⟨b2, 0, none⟩) (fun _ => Or.inr (Or.inr rfl)) _)
/-- what value.Decode comes to -/
def DecPost (w : World) (r : DR) (x : Ending) (w' : World) : Prop :=
  (∀ t a' q', r = .ok (t, a', q') → ∃ u, x = .returned (.tuple #[u.val, .int .i64 (a' : Int), .int .i64 0]) ∧ VT.Alike t u ∧ VT.In w' (fun b => w.heap.size ≤ b) u ∧ Below w.heap.size w w') ∧ (∀ e : Nat, r = .error e → x = .returned (.tuple #[.agg #[.int .i64 0, .int .i64 0, .string ⟨#[]⟩, .slice none 0 0], .int .i64 0, .int .i64 (e : Int)]) ∧ Below w.heap.size w w')
theorem dec_start (w : World) (A B C D : Array Value) (ta tb tc td : TypeId) :
    Box ((((w.alloc (.cells A ta)).alloc (.cells B tb)).alloc (.cells C tc)).alloc (.cells D td)) w.heap.size A ta ∧
    Box ((((w.alloc (.cells A ta)).alloc (.cells B tb)).alloc (.cells C tc)).alloc (.cells D td)) (w.heap.size + 1) B tb ∧
    Box ((((w.alloc (.cells A ta)).alloc (.cells B tb)).alloc (.cells C tc)).alloc (.cells D td)) (w.heap.size + 1 + 1) C tc ∧
    Box ((((w.alloc (.cells A ta)).alloc (.cells B tb)).alloc (.cells C tc)).alloc (.cells D td)) (w.heap.size + 1 + 1 + 1) D td ∧
    Below w.heap.size w ((((w.alloc (.cells A ta)).alloc (.cells B tb)).alloc (.cells C tc)).alloc (.cells D td)) ∧ ((((w.alloc (.cells A ta)).alloc (.cells B tb)).alloc (.cells C tc)).alloc (.cells D td)).heap.size = w.heap.size + 4 := by
  have z1 : (w.alloc (.cells A ta)).heap.size = w.heap.size + 1 := by simp
  have z2 : ((w.alloc (.cells A ta)).alloc (.cells B tb)).heap.size = w.heap.size + 1 + 1 := by simp
  have z3 : (((w.alloc (.cells A ta)).alloc (.cells B tb)).alloc (.cells C tc)).heap.size = w.heap.size + 1 + 1 + 1 := by simp
  have b1 := Box.new w A ta
  have b2 := Box.new (w.alloc (.cells A ta)) B tb
  have b3 := Box.new ((w.alloc (.cells A ta)).alloc (.cells B tb)) C tc
  have b4 := Box.new (((w.alloc (.cells A ta)).alloc (.cells B tb)).alloc (.cells C tc)) D td
  rw [z1] at b2
  rw [z2] at b3
  rw [z3] at b4
  have l1 := fun (W : World) o => (Below.refl W.heap.size W).alloc (Nat.le_refl _) o
  refine ⟨((b1.below (l1 _ _)).below (l1 _ _)).below (l1 _ _), (b2.below (l1 _ _)).below (l1 _ _), b3.below (l1 _ _), b4, ?_, by simp⟩
  exact ((((Below.refl _ _).alloc (Nat.le_refl _) _).alloc (by omega) _).alloc (by omega) _).alloc (by omega) _
set_option maxHeartbeats 4000000 in
theorem decode_any (p : Option Addr) (n c : Nat) (f : Nat → Int) (S : Nat → Prop) (w : World) (hY : Byts w S p n c f) (hS : ∀ b, S b → b < w.heap.size) :
    Calls Tryz.prog 116 #[.slice p n c] w fun x w' => DecPost w (decS f n 3 0 0 0) x w' := by
  have hmf : ∀ (fn : Fn) (first cap : Array Value) (w : World), (Instr.makeFunc fn first cap).run Tryz.prog w = .ok (.func fn first cap) w := fun _ _ _ _ => rfl
  obtain ⟨R, hR⟩ : ∃ R, R = decS f n 3 0 0 0 := ⟨_, rfl⟩
  rw [← hR]
  have HY := hid hY
  clear hY
  go_enter_defers Tryz.func116, Tryz.ntmps116
  go_wp2_with fail
  obtain ⟨q0, q1, q2, q3, hbe, hsz⟩ := dec_start w #[.int .i64 0, .int .i64 0, .string ⟨#[]⟩, .slice none 0 0] #[.int .i64 0] #[.int .i64 0] #[.slice p n c, .int .i64 0, .int .i64 0] 24 3 60 198
  generalize hW0 : ((((w.alloc (.cells #[.int .i64 0, .int .i64 0, .string ⟨#[]⟩, .slice none 0 0] 24)).alloc (.cells #[.int .i64 0] 3)).alloc (.cells #[.int .i64 0] 60)).alloc (.cells #[.slice p n c, .int .i64 0, .int .i64 0] 198)) = W0 at *
  have hYW : Byts W0 S p n c f := HY.out.kept hbe.size fun b hb _ => hbe.block b (hS b hb)
  have hC := part_any (w.heap.size + 1 + 1 + 1) p n c f 3 0 rfl W0 S 0 0 hYW (fun h => by have := hS _ h; omega) q3 (by omega) (by omega)
  rw [← hR] at hC
  refine hC.mono ?_
  intro x5 w5 hP5
  have hnd : ∀ b, b ≠ w.heap.size + 1 + 1 + 1 → ¬ b = w.heap.size + 1 + 1 + 1 := fun _ h => h
  cases R with
  | error e =>
    obtain ⟨⟨c5, rfl⟩, hk5⟩ := hP5.2 e rfl
    have g0 := q0.but hk5 (show w.heap.size ≠ w.heap.size + 1 + 1 + 1 by omega)
    have g1 := q1.but hk5 (show w.heap.size + 1 ≠ w.heap.size + 1 + 1 + 1 by omega)
    have g2 := q2.but hk5 (show w.heap.size + 1 + 1 ≠ w.heap.size + 1 + 1 + 1 by omega)
    refine leaves_cons (f := 122) (args := #[.pointer (some ⟨w.heap.size, 0, none⟩), .pointer (some ⟨w.heap.size + 1, 0, none⟩), .pointer (some ⟨w.heap.size + 1 + 1, 0, none⟩)]) (by simp) (by simp [go_sem]) ?_
    refine (catch_fault w.heap.size (w.heap.size + 1) (w.heap.size + 1 + 1) c5 e [] w5 _ _ _ _ _ _ g0 g1 g2 (by omega) (by omega) (by omega)).mono ?_
    rintro x6 u6 w6 ⟨rfl, rfl, r0, r1, r2, hk6⟩
    have c0 := r0.cell 0
    have c1 := r0.cell 1
    have c2 := r0.cell 2
    have c3 := r0.cell 3
    have d0 := r1.cell 0
    have e0 := r2.cell 0
    simp at c0 c1 c2 c3 d0 e0
    simp [Leaves, settle, results, Tryz.results116, go_sem, c0, c1, c2, c3, d0, e0]
    exact ⟨fun _ _ _ h => (by cases h), fun e2 h => by cases h; exact ⟨rfl, (hbe.trans (hk5.below (by omega) fun k hk => by omega)).trans (hk6.below (by have := hk5.size; omega) fun k hk => by omega)⟩⟩
  | ok tt =>
    obtain ⟨t, a', q'⟩ := tt
    obtain ⟨u, rfl, hau, hiu, hb5, hk5⟩ := hP5.1 t a' q' rfl
    simp only [VT.val]
    have g0 := q0.but hk5 (show w.heap.size ≠ w.heap.size + 1 + 1 + 1 by omega)
    have g1 := q1.but hk5 (show w.heap.size + 1 ≠ w.heap.size + 1 + 1 + 1 by omega)
    have g2 := q2.but hk5 (show w.heap.size + 1 + 1 ≠ w.heap.size + 1 + 1 + 1 by omega)
    have c0 := g0.cell 0
    have c1 := g0.cell 1
    have c2 := g0.cell 2
    have c3 := g0.cell 3
    have f0 := g0.frozen 0
    have f1 := g0.frozen 1
    have f2 := g0.frozen 2
    have f3 := g0.frozen 3
    simp at c0 c1 c2 c3
    go_wp2_with fail
    have r0 := setV_box g0 (.int .i64 u.kind) (.int .i64 u.int) (.string u.text) (.slice u.p u.n u.c)
    have hk6 : But (fun y => y = w.heap.size) w5 ((((w5.setCell ⟨w.heap.size, 0, none⟩ (.int .i64 u.kind)).setCell ⟨w.heap.size, 1, none⟩ (.int .i64 u.int)).setCell ⟨w.heap.size, 2, none⟩ (.string u.text)).setCell ⟨w.heap.size, 3, none⟩ (.slice u.p u.n u.c)) := ((((But.one _ w.heap.size).setAt 0 _).setAt 1 _).setAt 2 _).setAt 3 _
    generalize hW6 : ((((w5.setCell ⟨w.heap.size, 0, none⟩ (.int .i64 u.kind)).setCell ⟨w.heap.size, 1, none⟩ (.int .i64 u.int)).setCell ⟨w.heap.size, 2, none⟩ (.string u.text)).setCell ⟨w.heap.size, 3, none⟩ (.slice u.p u.n u.c)) = w6 at r0 hk6 ⊢
    have r1 := g1.but hk6 (show w.heap.size + 1 ≠ w.heap.size by omega)
    have r2 := g2.but hk6 (show w.heap.size + 1 + 1 ≠ w.heap.size by omega)
    have r3 := hb5.but hk6 (show w.heap.size + 1 + 1 + 1 ≠ w.heap.size by omega)
    have hu6 := hiu.but hk6 (fun b hb _ => by omega)
    have hbe6 : Below w.heap.size w w6 := (hbe.trans (hk5.below (by omega) fun k hk => by omega)).trans (hk6.below (by have := hk5.size; omega) fun k hk => by omega)
    have HX := hid (And.intro r0 (And.intro r1 (And.intro r2 (And.intro hu6 (And.intro hau hbe6)))))
    clear hW6 hW0 c0 c1 c2 c3 f0 f1 f2 f3 hiu hb5 hk5 hk6 g0 g1 g2 hP5 hC q0 q1 q2 q3 hYW hbe hau hu6 hbe6 hR
    have c0 := r0.cell 0
    have c1 := r0.cell 1
    have c2 := r0.cell 2
    have c3 := r0.cell 3
    have f0 := r0.frozen 0
    have f1 := r0.frozen 1
    have f2 := r0.frozen 2
    have f3 := r0.frozen 3
    have d0 := r1.cell 0
    have e0 := r2.cell 0
    have fd := r1.frozen 0
    have fe := r2.frozen 0
    have m1 := r3.cell 1
    simp at c0 c1 c2 c3 d0 e0 m1
    clear r0 r1 r2 r3
    go_region
    all_goals
      go_wp2
      obtain ⟨r0, r1, r2, hu6, hau, hbe6⟩ := HX.out
      have s0 := setV_box r0 (.int .i64 u.kind) (.int .i64 u.int) (.string u.text) (.slice u.p u.n u.c)
      have hk7 : But (fun y => y = w.heap.size) w6 ((((w6.setCell ⟨w.heap.size, 0, none⟩ (.int .i64 u.kind)).setCell ⟨w.heap.size, 1, none⟩ (.int .i64 u.int)).setCell ⟨w.heap.size, 2, none⟩ (.string u.text)).setCell ⟨w.heap.size, 3, none⟩ (.slice u.p u.n u.c)) := ((((But.one _ w.heap.size).setAt 0 _).setAt 1 _).setAt 2 _).setAt 3 _
      have s1 := r1.but hk7 (show w.heap.size + 1 ≠ w.heap.size by omega)
      have s2 := r2.but hk7 (show w.heap.size + 1 + 1 ≠ w.heap.size by omega)
      have hk8 := ((hk7.mono (Y := fun y => y = w.heap.size ∨ y = w.heap.size + 1 ∨ y = w.heap.size + 1 + 1) fun b _ hb => Or.inl hb).setCell (p := ⟨w.heap.size + 1, 0, none⟩) (fun _ => Or.inr (Or.inl rfl)) (.int .i64 (a' : Int))).setCell (p := ⟨w.heap.size + 1 + 1, 0, none⟩) (fun _ => Or.inr (Or.inr rfl)) (.int .i64 0)
      have t0 := (s0.kept (Below.heap_setCell _ ⟨w.heap.size + 1, 0, none⟩ (.int .i64 (a' : Int)) _ (show w.heap.size ≠ w.heap.size + 1 by omega))).kept (Below.heap_setCell _ ⟨w.heap.size + 1 + 1, 0, none⟩ (.int .i64 0) _ (show w.heap.size ≠ w.heap.size + 1 + 1 by omega))
      have t1 := (s1.set 0 (.int .i64 (a' : Int))).kept (Below.heap_setCell _ ⟨w.heap.size + 1 + 1, 0, none⟩ (.int .i64 0) _ (show w.heap.size + 1 ≠ w.heap.size + 1 + 1 by omega))
      have t2 := (s2.kept (Below.heap_setCell _ ⟨w.heap.size + 1, 0, none⟩ (.int .i64 (a' : Int)) _ (show w.heap.size + 1 + 1 ≠ w.heap.size + 1 by omega))).set 0 (.int .i64 0)
      generalize ((((((w6.setCell ⟨w.heap.size, 0, none⟩ (.int .i64 u.kind)).setCell ⟨w.heap.size, 1, none⟩ (.int .i64 u.int)).setCell ⟨w.heap.size, 2, none⟩ (.string u.text)).setCell ⟨w.heap.size, 3, none⟩ (.slice u.p u.n u.c)).setCell ⟨w.heap.size + 1, 0, none⟩ (.int .i64 (a' : Int))).setCell ⟨w.heap.size + 1 + 1, 0, none⟩ (.int .i64 0)) = w7 at hk8 t0 t1 t2 ⊢
      clear c0 c1 c2 c3 d0 e0 m1
      have c0 := t0.cell 0
      have c1 := t0.cell 1
      have c2 := t0.cell 2
      have c3 := t0.cell 3
      have d0 := t1.cell 0
      have e0 := t2.cell 0
      simp at c0 c1 c2 c3 d0 e0
      refine leaves_cons (f := 122) (args := #[.pointer (some ⟨w.heap.size, 0, none⟩), .pointer (some ⟨w.heap.size + 1, 0, none⟩), .pointer (some ⟨w.heap.size + 1 + 1, 0, none⟩)]) (by simp) (by simp [go_sem]) ?_
      refine (catch_idle ⟨w.heap.size, 0, none⟩ ⟨w.heap.size + 1, 0, none⟩ ⟨w.heap.size + 1 + 1, 0, none⟩ _).mono ?_
      rintro x8 u8 w8 ⟨rfl, rfl, rfl⟩
      simp [Leaves, settle, results, Tryz.results116, go_sem, c0, c1, c2, c3, d0, e0]
      refine ⟨fun t2 a2 q2 h => ?_, fun e2 h => (by cases h)⟩
      cases h
      exact ⟨u, rfl, hau, ((hu6.but hk8 (fun b hb _ => by omega)).mono fun b hb _ => by omega).kept (Nat.le_refl _) (fun _ _ _ => rfl), (hbe6.trans (hk8.below hbe6.size fun k hk => by omega)).drew⟩
end Go.Proofs.YtfonicphdejdlaaGreat
