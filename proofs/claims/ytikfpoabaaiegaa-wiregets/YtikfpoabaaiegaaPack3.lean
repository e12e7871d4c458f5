import Derived.Test.YtikfpoabaaiegaaPack2
import Derived.Test.YtikfpoabaaiegaaPack1
namespace Go.Proofs.Ytikfpoabaaiegaa
open Go.RowKit
set_option maxRecDepth 8000

def NextPost (w : World) (db : Nat) (p : Option Addr) (n c a q : Nat) (f : Nat → Int) (x : Ending) (w' : World) : Prop :=
  (a < n → x = .returned (.int .u8 (f a)) ∧ Box w' db #[.slice p n c, .int .i64 ((a + 1 : Nat) : Int), .int .i64 q] 239 ∧ But (fun y => y = db) w w') ∧ (n ≤ a → Fails 28 x ∧ But (fun y => y = db) w w')

set_option maxHeartbeats 1000000 in
theorem next_any (db : Nat) (p : Option Addr) (n c a q : Nat) (w : World) (S : Nat → Prop) (f : Nat → Int) (hB : Byts w S p n c f) (hS : ¬ S db) (hb : Box w db #[.slice p n c, .int .i64 a, .int .i64 q] 239) (ha : a ≤ n) :
    Calls Try.prog 164 #[.pointer (some ⟨db, 0, none⟩)] w fun x w' => NextPost w db p n c a q f x w' := by
  have HT := take_any db p n c a q 1 w S f hB hb ha (by omega)
  have HY := hid hB
  clear hB hb
  go_enter Try.func164, Try.ntmps164
  go_wp2_with fail
  refine HT.mono ?_
  intro x w1 hP
  by_cases h : a < n
  · obtain ⟨⟨p', c', rfl, hp'⟩, hb1, hk1⟩ := hP.1 h
    obtain ⟨b, o, hp, hSb, hbl, hat⟩ := HY.out.at_ (by omega)
    have hp2 := hp' (by omega)
    rw [hp] at hp2
    have hp3 : p' = some ⟨b, o + a, none⟩ := by rw [hp2]; simp [from_, Addr.add]
    subst hp3
    have hne : b ≠ db := fun e => hS (e ▸ hSb)
    have y := (World.cell?_of_block (a := ⟨b, o + a, none⟩) (hk1.block b hbl hne)).trans (hat a h)
    have HF := hid (And.intro hb1 hk1)
    clear hP hb1 hk1 hat hp' hp2 HT
    go_wp2
    go_ret
    exact ⟨fun _ => ⟨rfl, HF.out.1, HF.out.2⟩, fun h2 => by omega⟩
  · obtain ⟨⟨a2, rfl⟩, hk1⟩ := hP.2 (by omega)
    have HF := hid hk1
    clear hP hk1 HT
    exact ⟨rfl, fun h2 => absurd h2 h, fun _ => ⟨⟨a2, rfl⟩, HF.out⟩⟩

def CountPost (w : World) (db : Nat) (p : Option Addr) (n c a q : Nat) (f : Nat → Int) (most e : Int) (x : Ending) (w' : World) : Prop :=
  (a < n → f a ≤ most → x = .returned (.int .i64 (f a)) ∧ Box w' db #[.slice p n c, .int .i64 ((a + 1 : Nat) : Int), .int .i64 q] 239 ∧ But (fun y => y = db) w w') ∧ (a < n → most < f a → Fails e x ∧ But (fun y => y = db) w w') ∧ (n ≤ a → Fails 28 x ∧ But (fun y => y = db) w w')

set_option maxHeartbeats 1000000 in
theorem count_any (db : Nat) (p : Option Addr) (n c a q : Nat) (w : World) (S : Nat → Prop) (f : Nat → Int) (most e : Int) (hB : Byts w S p n c f) (hS : ¬ S db) (hb : Box w db #[.slice p n c, .int .i64 a, .int .i64 q] 239) (ha : a ≤ n) :
    Calls Try.prog 168 #[.pointer (some ⟨db, 0, none⟩), .int .i64 most, .int .i64 e] w fun x w' => CountPost w db p n c a q f most e x w' := by
  have HN := next_any db p n c a q w S f hB hS hb ha
  have HFit := hid hB.fit
  clear hB hb
  go_enter Try.func168, Try.ntmps168
  go_wp2_with fail
  refine HN.mono ?_
  intro x w1 hP
  by_cases h : a < n
  · obtain ⟨rfl, hb1, hk1⟩ := hP.1 h
    have hf := HFit.out a h
    obtain ⟨hf1, hf2⟩ := hf
    have HF := hid (And.intro hb1 hk1)
    clear hP hb1 hk1 HN
    by_cases hm : f a ≤ most
    · have hm' : ¬ most < f a := by omega
      go_wp2
      go_ret
      exact ⟨fun _ _ => ⟨rfl, HF.out.1, HF.out.2⟩, fun _ h2 => by omega, fun h2 => by omega⟩
    · have hm' : most < f a := by omega
      have HFa := fail_any db (.slice p n c) ((a + 1 : Nat) : Int) q e w1 HF.out.1
      go_wp2_with fail
      refine HFa.mono ?_
      rintro x2 w2 ⟨⟨a2, rfl⟩, hw⟩
      subst w2
      exact ⟨rfl, fun _ h2 => by omega, fun _ _ => ⟨⟨a2, rfl⟩, HF.out.2⟩, fun h2 => by omega⟩
  · obtain ⟨⟨a2, rfl⟩, hk1⟩ := hP.2 (by omega)
    have HF := hid hk1
    clear hP hk1 HN
    exact ⟨rfl, fun h2 => absurd h2 h, fun h2 => absurd h2 h, fun _ => ⟨⟨a2, rfl⟩, HF.out⟩⟩
end Go.Proofs.Ytikfpoabaaiegaa

namespace Go.Proofs.Ytikfpoabaaiegaa
open Go.RowKit
set_option maxRecDepth 8000

def grpS (f : Nat → Int) (n : Nat) : Nat → Nat → Nat → Nat → Option (Nat × Nat)
  | 0, _, _, _ => none
  | k + 1, a, i, u => if n ≤ a then none else if (0 < i ∧ (f a).toNat = 0) ∨ (i = 9 ∧ 1 < (f a).toNat) then none
    else if (f a).toNat < 128 then some (u ||| ((f a).toNat % 128) * 2 ^ (7 * i), a + 1) else grpS f n k (a + 1) (i + 1) (u ||| ((f a).toNat % 128) * 2 ^ (7 * i))
def GrpPost (w : World) (db : Nat) (p : Option Addr) (n c q : Nat) (r : Option (Nat × Nat)) (x : Ending) (w' : World) : Prop :=
  (∀ u a', r = some (u, a') → x = .returned (.int .u64 (u : Int)) ∧ Box w' db #[.slice p n c, .int .i64 (a' : Int), .int .i64 q] 239 ∧ But (fun y => y = db) w w') ∧ (r = none → Fails 28 x ∧ But (fun y => y = db) w w')
theorem andnot128 (c : Nat) (h : c < 256) : bits BinOp.andNot IntKind.u8 (c : Int) 128 = ((c % 128 : Nat) : Int) := by
  have h2 : ∀ v : Nat, v < 256 → bits BinOp.andNot IntKind.u8 (v : Int) 128 = ((v % 128 : Nat) : Int) := by decide
  exact h2 c h
theorem grp_fits {c i : Nat} (hi : i ≤ 9) (h : i = 9 → c ≤ 1) : c % 128 * 2 ^ (7 * i) < 2 ^ 64 := by
  rcases (by omega : i = 9 ∨ i ≤ 8) with rfl | h8
  · have := h rfl
    have h1 : c % 128 ≤ 1 := by omega
    calc c % 128 * 2 ^ (7 * 9) ≤ 1 * 2 ^ 63 := Nat.mul_le_mul h1 (by decide)
      _ < 2 ^ 64 := by decide
  · have h1 : c % 128 < 128 := by omega
    calc c % 128 * 2 ^ (7 * i) ≤ 127 * 2 ^ (7 * i) := Nat.mul_le_mul (by omega) (Nat.le_refl _)
      _ ≤ 127 * 2 ^ 56 := Nat.mul_le_mul (Nat.le_refl _) (Nat.pow_le_pow_right (by omega) (by omega))
      _ < 2 ^ 64 := by decide

set_option maxHeartbeats 2000000 in
theorem groups_any (db : Nat) (p : Option Addr) (n c a q : Nat) (w : World) (S : Nat → Prop) (f : Nat → Int) (hB : Byts w S p n c f) (hS : ¬ S db) (hb : Box w db #[.slice p n c, .int .i64 a, .int .i64 q] 239) (ha : a ≤ n) :
    Calls Try.prog 167 #[.pointer (some ⟨db, 0, none⟩)] w fun x w' => GrpPost w db p n c q (grpS f n 10 a 0 0) x w' := by
  have HY := hid hB
  have HB := hid hb
  generalize hR : grpS f n 10 a 0 0 = R
  clear hB hb
  go_enter Try.func167, Try.ntmps167
  go_wp2_with fail
  go_loopw [3, 4] (fun y x wr => ∃ (i u a' : Nat), i ≤ 9 ∧ y = .int .u64 (u : Int) ∧ x = .int .i64 ((7 * i : Nat) : Int) ∧ u < 2 ^ 64 ∧ a' ≤ n ∧ grpS f n (10 - i) a' i u = R ∧ Box wr db #[.slice p n c, .int .i64 (a' : Int), .int .i64 q] 239 ∧ But (fun y => y = db) w wr) (fun _ x _ => 100 - (intOf x).toNat)
  case atStart => exact ⟨0, 0, a, by omega, rfl, rfl, by decide, ha, hR, HB.out, But.refl _ _⟩
  case round =>
    obtain ⟨i, u, a', hi, rfl, rfl, hu, ha', hg, hbx, hk⟩ := hrel
    have hB1 : Byts wr S p n c f := HY.out.kept hk.size fun b hb hl => hk.block b hl (fun e => hS (e ▸ hb))
    have HN := next_any db p n c a' q wr S f hB1 hS hbx ha'
    have HK := hid hk
    have HG := hid hg
    clear hk hbx hg hB1
    go_wp2_with fail
    refine HN.mono ?_
    intro x w1 hP
    have HE : Hid (10 - i = (9 - i) + 1) := by unfold Hid; omega
    by_cases h : a' < n
    · obtain ⟨rfl, hb1, hk1⟩ := hP.1 h
      obtain ⟨hf1, hf2⟩ := HY.out.fit a' h
      obtain ⟨C, hC⟩ := Int.eq_ofNat_of_zero_le hf1
      have hg2 := HG.out
      rw [HE.out, grpS, if_neg (by omega), hC] at hg2
      simp only [Int.toNat_natCast] at hg2
      have HG2 := hid hg2
      have HF := hid (And.intro hb1 (HK.out.trans hk1))
      clear hP hb1 hk1 HN hg2
      rw [hC]
      have hC2 : C < 256 := by omega
      have e1 := andnot128 C hC2
      have HFa := hid (fail_any db (.slice p n c) ((a' + 1 : Nat) : Int) q 28 w1 HF.out.1)
      by_cases hbad : (0 < i ∧ C = 0) ∨ (i = 9 ∧ 1 < C)
      · have hr : R = none := by have h2 := HG2.out; rw [if_pos hbad] at h2; exact h2.symm
        have HRn := hid hr
        clear hr
        rcases (by omega : (0 < i ∧ C = 0) ∨ (i = 9 ∧ 1 < C)) with ⟨h1, rfl⟩ | ⟨rfl, h1⟩
        · have h1' : (0 : Int) < 7 * (i : Int) := by omega
          go_wp2_with fail
          refine HFa.out.mono ?_
          rintro x2 w2 ⟨⟨a2, rfl⟩, hw⟩
          subst w2
          exact ⟨rfl, fun u2 a3 h2 => (by rw [HRn.out] at h2; cases h2), fun _ => ⟨⟨a2, rfl⟩, HF.out.2⟩⟩
        · have h1' : (1 : Int) < (C : Int) := by omega
          have h2' : ¬ (C : Int) = 0 := by omega
          go_wp2_with fail
          refine HFa.out.mono ?_
          rintro x2 w2 ⟨⟨a2, rfl⟩, hw⟩
          subst w2
          exact ⟨rfl, fun u2 a3 h2 => (by rw [HRn.out] at h2; cases h2), fun _ => ⟨⟨a2, rfl⟩, HF.out.2⟩⟩
      · have hg3 := HG2.out
        rw [if_neg hbad] at hg3
        have HG3 := hid hg3
        have hfit := grp_fits (c := C) hi (fun h9 => by omega)
        obtain ⟨V, hV⟩ : ∃ V, V = C % 128 * 2 ^ (7 * i) := ⟨_, rfl⟩
        rw [← hV] at hfit
        have hor := bits_or_u64_nat u V (by omega) (by omega)
        have HV := hid hV
        clear hg3 hV
        have hfit2 := hid hfit
        have HRs : C < 128 → R = some (u ||| V, a' + 1) := fun h2 => by have h3 := HG3.out; rw [if_pos h2, ← HV.out] at h3; exact h3.symm
        have HRr : ¬ C < 128 → grpS f n (10 - (i + 1)) (a' + 1) (i + 1) (u ||| V) = R := fun h2 => by have h3 := HG3.out; rw [if_neg h2, ← HV.out] at h3; rw [show 10 - (i + 1) = 9 - i by omega]; exact h3
        have HRs := hid HRs
        have HRr := hid HRr
        by_cases hi0 : i = 0
        · subst hi0
          have e0 : (C : Int) % 128 = (V : Int) := by have := HV.out; omega
          by_cases hlt : C < 128
          · have hlt' : (C : Int) < 128 := by omega
            have HRs := hid (HRs.out hlt)
            clear HRr HV hfit HG2 HG3
            go_wp2
            go_ret
            exact ⟨fun u2 a3 h2 => (by rw [HRs.out] at h2; cases h2; exact ⟨rfl, HF.out.1, HF.out.2⟩), fun h2 => (by rw [HRs.out] at h2; cases h2)⟩
          · have hlt' : ¬ (C : Int) < 128 := by omega
            have HRr := hid (HRr.out hlt)
            clear HRs HV hfit HG2 HG3
            go_wp2
            go_roundw
            case rel => exact ⟨0 + 1, u ||| V, a' + 1, by omega, rfl, by go_num, Nat.or_lt_two_pow hu hfit2.out, by omega, HRr.out, HF.out.1, HF.out.2⟩
            case measure => simp [intOf]
        · have h1' : (0 : Int) < 7 * (i : Int) := by omega
          have h2' : ¬ (C : Int) = 0 := by omega
          have h2b : ((C : Int) == 0) = false := by simpa using h2'
          by_cases hi9 : i = 9
          · subst hi9
            have h3' : ¬ (1 : Int) < (C : Int) := by omega
            have hlt : C < 128 := by omega
            have hlt' : (C : Int) < 128 := by omega
            have e0 : (C : Int) % 128 * 9223372036854775808 = (V : Int) := by
              have := HV.out
              rw [this]
              omega
            have HRs := hid (HRs.out hlt)
            clear HRr HV hfit HG2 HG3
            go_wp2
            go_ret
            exact ⟨fun u2 a3 h2 => (by rw [HRs.out] at h2; cases h2; exact ⟨rfl, HF.out.1, HF.out.2⟩), fun h2 => (by rw [HRs.out] at h2; cases h2)⟩
          · have h3' : ¬ 7 * (i : Int) = 63 := by omega
            have e0 : IntKind.u64.wrap ((C : Int) % 128 * 2 ^ (7 * i)) = (V : Int) := by
              have h2 : (C : Int) % 128 * 2 ^ (7 * i) = (V : Int) := by rw [HV.out]; simp
              rw [h2, wrap_u64]; omega
            by_cases hlt : C < 128
            · have hlt' : (C : Int) < 128 := by omega
              have HRs := hid (HRs.out hlt)
              clear HRr HV hfit HG2 HG3
              go_wp2
              go_ret
              exact ⟨fun u2 a3 h2 => (by rw [HRs.out] at h2; cases h2; exact ⟨rfl, HF.out.1, HF.out.2⟩), fun h2 => (by rw [HRs.out] at h2; cases h2)⟩
            · have hlt' : ¬ (C : Int) < 128 := by omega
              have HRr := hid (HRr.out hlt)
              clear HRs HV hfit HG2 HG3
              go_wp2
              go_roundw
              case rel => exact ⟨i + 1, u ||| V, a' + 1, by omega, rfl, by go_num, Nat.or_lt_two_pow hu hfit2.out, by omega, HRr.out, HF.out.1, HF.out.2⟩
              case measure => simp [intOf]; omega
    · obtain ⟨⟨a2, rfl⟩, hk1⟩ := hP.2 (by omega)
      have hr : R = none := by have h2 := HG.out; rw [HE.out, grpS, if_pos (by omega)] at h2; exact h2.symm
      have HF := hid (HK.out.trans hk1)
      have HRn := hid hr
      clear hP hk1 HN hr
      exact ⟨rfl, fun u2 a3 h2 => (by rw [HRn.out] at h2; cases h2), fun _ => ⟨⟨a2, rfl⟩, HF.out⟩⟩
end Go.Proofs.Ytikfpoabaaiegaa

namespace Go.Proofs.Ytikfpoabaaiegaa
open Go.RowKit
set_option maxRecDepth 8000

def unfoldI (u : Nat) : Int := if u % 2 = 1 then -1 - ((u / 2 : Nat) : Int) else ((u / 2 : Nat) : Int)
theorem and_one64 (u : Nat) (hu : u < 2 ^ 64) : bits BinOp.and IntKind.u64 (u : Int) 1 = ((u % 2 : Nat) : Int) := by
  have h := bits_and_u64_nat u 1 (by omega) (by omega)
  rw [Nat.and_one_is_mod] at h
  exact h
theorem compl_half (u : Nat) (hu : u < 2 ^ 64) : bits BinOp.xor IntKind.u64 IntKind.u64.max ((u / 2 : Nat) : Int) = ((18446744073709551616 - (u / 2 + 1) : Nat) : Int) := by
  have hm : IntKind.u64.max = ((18446744073709551615 : Nat) : Int) := by decide
  have h2 := bits_xor_u64_nat 18446744073709551615 (u / 2) (by omega) (by omega)
  have h3 : 18446744073709551615 ^^^ (u / 2) = 18446744073709551616 - (u / 2 + 1) := compl64 (u / 2) (by omega)
  rw [h3] at h2
  rw [hm, h2]

set_option maxHeartbeats 1000000 in
theorem unfold_any (u : Nat) (hu : u < 2 ^ 64) (w : World) : Calls Try.prog 166 #[.int .u64 (u : Int)] w fun e w' => e = .returned (.int .i64 (unfoldI u)) ∧ w' = w := by
  have h1 := and_one64 u hu
  by_cases h : u % 2 = 1
  · have hb : (((u % 2 : Nat) : Int) == 1) = true := by rw [h]; rfl
    have hc := compl_half u hu
    have hr : IntKind.i64.wrap ((18446744073709551616 - (u / 2 + 1) : Nat) : Int) = unfoldI u := by
      unfold unfoldI
      rw [if_pos h, IntKind.wrap_i64]
      omega
    rw [h] at h1
    go_enter Try.func166, Try.ntmps166
    go_wp2
    go_ret
    refine ⟨?_, rfl⟩
    have e : wrap64 (bits BinOp.xor IntKind.u64 IntKind.u64.max ((u : Int) / 2)) = unfoldI u := by
      rw [show (u : Int) / 2 = ((u / 2 : Nat) : Int) by omega, hc]
      rw [wrap64, ← IntKind.wrap_i64]
      exact hr
    first | exact congrArg (fun z => Ending.returned (Value.int .i64 z)) e | (rw [← e]; rfl)
  · have h0 : u % 2 = 0 := by omega
    rw [h0] at h1
    have hr : unfoldI u = (u : Int) / 2 := by unfold unfoldI; rw [if_neg h]; omega
    go_enter Try.func166, Try.ntmps166
    go_wp2
    go_ret
    exact ⟨by first | rfl | (rw [hr]; rfl), rfl⟩
end Go.Proofs.Ytikfpoabaaiegaa

namespace Go.Proofs.Ytikfpoabaaiegaa
open Go.RowKit
set_option maxRecDepth 8000
def strOf (zs : List Int) : ByteArray := zs.foldl (fun r n => r.push (UInt8.ofNat n.toNat)) ByteArray.empty
end Go.Proofs.Ytikfpoabaaiegaa

namespace Go.Proofs.Ytikfpoabaaiegaa
open Go.RowKit
set_option maxRecDepth 8000

def mkN : VT := .mk 0 0 ⟨#[]⟩ 0 none 0 (fun _ => .nil)
def mkI (i : Int) : VT := .mk 1 i ⟨#[]⟩ 0 none 0 (fun _ => .nil)
def mkT (s : ByteArray) : VT := .mk 2 0 s 0 none 0 (fun _ => .nil)
def mkL (l : List VT) : VT := .mk 3 0 ⟨#[]⟩ l.length none 0 (fun j => l.getD j .nil)
abbrev DR := Except Nat (VT × Nat × Nat)
def itemsS (g : Nat → Nat → DR) : Nat → Nat → Nat → Except Nat (List VT × Nat × Nat)
  | 0, a, q => .ok ([], a, q)
  | m + 1, a, q =>
    match itemsS g m a q with
    | .error e => .error e
    | .ok (l, a', q') =>
      match g a' q' with
      | .error e => .error e
      | .ok (v, a2, q2) => .ok (l ++ [v], a2, q2)
def bytesAt (f : Nat → Int) (a m : Nat) : List Int := (List.range m).map fun j => f (a + j)
def partS (f : Nat → Int) (n : Nat) (g : Nat → Nat → DR) (d a q : Nat) : DR :=
  if n ≤ a then .error 28 else if 12 < q + 1 then .error 22 else if 3 < (f a).toNat then .error 28 else if (f a).toNat = 3 ∧ 3 ≤ d then .error 23
  else if (f a).toNat = 0 then .ok (mkN, a + 1, q + 1)
  else if (f a).toNat = 1 then (match grpS f n 10 (a + 1) 0 0 with | none => .error 28 | some (u, a') => .ok (mkI (unfoldI u), a', q + 1))
  else if n ≤ a + 1 then .error 28
  else if (f a).toNat = 2 then (if 24 < (f (a + 1)).toNat then .error 21 else if n < a + 2 + (f (a + 1)).toNat then .error 28 else .ok (mkT (strOf (bytesAt f (a + 2) (f (a + 1)).toNat)), a + 2 + (f (a + 1)).toNat, q + 1))
  else if 6 < (f (a + 1)).toNat then .error 22
  else (match itemsS g (f (a + 1)).toNat (a + 2) (q + 1) with | .error e => .error e | .ok (l, a', q') => .ok (mkL l, a', q'))
def decS (f : Nat → Int) (n : Nat) : Nat → Nat → Nat → Nat → DR
  | 0, d, a, q => partS f n (fun _ _ => .error 23) d a q
  | k + 1, d, a, q => partS f n (decS f n k (d + 1)) d a q

theorem grpS_le (f : Nat → Int) (n : Nat) : ∀ k a i u r, grpS f n k a i u = some r → r.2 ≤ n ∧ (u < 2 ^ 64 → i ≤ 9 → k ≤ 10 - i → r.1 < 2 ^ 64) := by
  intro k
  induction k with
  | zero => intro a i u r h; cases h
  | succ k ih =>
    intro a i u r h
    rw [grpS] at h
    split at h
    · cases h
    · split at h
      · cases h
      · rename_i h1 h2
        have key : u < 2 ^ 64 → i ≤ 9 → (u ||| (f a).toNat % 128 * 2 ^ (7 * i)) < 2 ^ 64 := fun hu hi => Nat.or_lt_two_pow hu (grp_fits hi (fun h9 => by omega))
        split at h
        · cases h
          exact ⟨by omega, fun hu hi _ => key hu hi⟩
        · have h3 := ih _ _ _ _ h
          refine ⟨h3.1, fun hu hi hk => ?_⟩
          by_cases h9 : i = 9
          · omega
          · exact h3.2 (key hu hi) (by omega) (by omega)
theorem itemsS_le {g : Nat → Nat → DR} {n : Nat} (hg : ∀ a q v a' q', g a q = .ok (v, a', q') → a ≤ n → a' ≤ n) : ∀ m a q l a' q', itemsS g m a q = .ok (l, a', q') → a ≤ n → a' ≤ n ∧ l.length = m := by
  intro m
  induction m with
  | zero => intro a q l a' q' h ha; simp only [itemsS, Except.ok.injEq, Prod.mk.injEq] at h; obtain ⟨rfl, rfl, rfl⟩ := h; exact ⟨ha, rfl⟩
  | succ m ih =>
    intro a q l a' q' h ha
    rw [itemsS] at h
    split at h
    · cases h
    · rename_i l1 a1 q1 h1
      split at h
      · cases h
      · rename_i v a2 q2 h2
        simp only [Except.ok.injEq, Prod.mk.injEq] at h
        obtain ⟨rfl, rfl, rfl⟩ := h
        have h3 := ih _ _ _ _ _ h1 ha
        exact ⟨hg _ _ _ _ _ h2 h3.1, by simp [h3.2]⟩
theorem partS_le {f : Nat → Int} {n : Nat} {g : Nat → Nat → DR} (hg : ∀ a q v a' q', g a q = .ok (v, a', q') → a ≤ n → a' ≤ n) {d a q a' q' : Nat} {v : VT} (h : partS f n g d a q = .ok (v, a', q')) : a' ≤ n := by
  unfold partS at h
  split at h
  · cases h
  split at h
  · cases h
  split at h
  · cases h
  split at h
  · cases h
  split at h
  · simp only [Except.ok.injEq, Prod.mk.injEq] at h; omega
  split at h
  · split at h
    · cases h
    · rename_i u a2 h2
      simp only [Except.ok.injEq, Prod.mk.injEq] at h
      have := (grpS_le _ _ _ _ _ _ _ h2).1
      simp only at this
      omega
  split at h
  · cases h
  split at h
  · split at h
    · cases h
    split at h
    · cases h
    · simp only [Except.ok.injEq, Prod.mk.injEq] at h; omega
  split at h
  · cases h
  split at h
  · cases h
  · rename_i l a2 q2 h2
    simp only [Except.ok.injEq, Prod.mk.injEq] at h
    have := (itemsS_le hg _ _ _ _ _ _ h2 (by omega)).1
    omega
theorem decS_le {f : Nat → Int} {n : Nat} : ∀ (k d a q : Nat) (v : VT) (a' q' : Nat), decS f n k d a q = .ok (v, a', q') → a' ≤ n := by
  intro k
  induction k with
  | zero => intro d a q v a' q' h; exact partS_le (fun _ _ _ _ _ h => by cases h) h
  | succ k ih => intro d a q v a' q' h; exact partS_le (fun a q v a' q' h _ => ih _ _ _ _ _ _ h) h
theorem itemsS_stuck {g : Nat → Nat → DR} {a q j e a' q' : Nat} {l : List VT} (h : itemsS g j a q = .ok (l, a', q')) (hg : g a' q' = .error e) : ∀ {m : Nat}, j < m → itemsS g m a q = .error e := by
  intro m
  induction m with
  | zero => intro h2; omega
  | succ m ih =>
    intro h2
    by_cases hj : j = m
    · subst hj
      rw [itemsS, h]
      simp only [hg]
    · rw [itemsS, ih (by omega)]
theorem itemsS_next {g : Nat → Nat → DR} {a q j a' q' a2 q2 : Nat} {l : List VT} {v : VT} (h : itemsS g j a q = .ok (l, a', q')) (hg : g a' q' = .ok (v, a2, q2)) : itemsS g (j + 1) a q = .ok (l ++ [v], a2, q2) := by
  rw [itemsS, h]
  simp only [hg]
theorem itemsS_q {g : Nat → Nat → DR} (hg : ∀ a q v a' q', g a q = .ok (v, a', q') → q' ≤ 12) : ∀ m a q l a' q', itemsS g m a q = .ok (l, a', q') → q ≤ 12 → q' ≤ 12 := by
  intro m
  induction m with
  | zero => intro a q l a' q' h ha; simp only [itemsS, Except.ok.injEq, Prod.mk.injEq] at h; omega
  | succ m ih =>
    intro a q l a' q' h ha
    rw [itemsS] at h
    split at h
    · cases h
    · split at h
      · cases h
      · rename_i v a2 q2 h2
        simp only [Except.ok.injEq, Prod.mk.injEq] at h
        obtain ⟨rfl, rfl, rfl⟩ := h
        exact hg _ _ _ _ _ h2
theorem partS_q {f : Nat → Int} {n : Nat} {g : Nat → Nat → DR} (hg : ∀ a q v a' q', g a q = .ok (v, a', q') → q' ≤ 12) {d a q a' q' : Nat} {v : VT} (h : partS f n g d a q = .ok (v, a', q')) : q' ≤ 12 := by
  unfold partS at h
  split at h
  · cases h
  split at h
  · cases h
  split at h
  · cases h
  split at h
  · cases h
  split at h
  · simp only [Except.ok.injEq, Prod.mk.injEq] at h; omega
  split at h
  · split at h
    · cases h
    · simp only [Except.ok.injEq, Prod.mk.injEq] at h; omega
  split at h
  · cases h
  split at h
  · split at h
    · cases h
    split at h
    · cases h
    · simp only [Except.ok.injEq, Prod.mk.injEq] at h; omega
  split at h
  · cases h
  split at h
  · cases h
  · rename_i l a2 q2 h2
    simp only [Except.ok.injEq, Prod.mk.injEq] at h
    have := itemsS_q hg _ _ _ _ _ _ h2 (by omega)
    omega
theorem decS_q {f : Nat → Int} {n : Nat} : ∀ (k d a q : Nat) (v : VT) (a' q' : Nat), decS f n k d a q = .ok (v, a', q') → q' ≤ 12 := by
  intro k
  induction k with
  | zero => intro d a q v a' q' h; exact partS_q (fun _ _ _ _ _ h => by cases h) h
  | succ k ih => intro d a q v a' q' h; exact partS_q (fun a q v a' q' h => ih _ _ _ _ _ _ h) h
def DPost (w : World) (db : Nat) (p : Option Addr) (n c : Nat) (r : DR) (x : Ending) (w' : World) : Prop :=
  (∀ t a' q', r = .ok (t, a', q') → ∃ u, x = .returned u.val ∧ VT.Alike t u ∧ VT.In w' (fun b => w.heap.size ≤ b) u ∧ Box w' db #[.slice p n c, .int .i64 (a' : Int), .int .i64 (q' : Int)] 239 ∧ But (fun y => y = db) w w') ∧ (∀ e : Nat, r = .error e → Fails e x ∧ But (fun y => y = db) w w')
end Go.Proofs.Ytikfpoabaaiegaa
