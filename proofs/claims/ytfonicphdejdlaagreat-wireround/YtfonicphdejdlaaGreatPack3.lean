import Derived.Test.YtfonicphdejdlaaGreatPack0
import Derived.Test.YtfonicphdejdlaaGreatPack2
import Derived.Test.YtfonicphdejdlaaGreatPack1
namespace Go.Proofs.YtfonicphdejdlaaGreat
open Go.RowKit
set_option maxRecDepth 8000

/-- what a reading function panics with -/
def faultV (a e : Int) : Value := .iface 195 (.agg #[.int .i64 a, .int .i64 e])
def Fails (e : Int) (x : Ending) : Prop := ∃ a : Int, x = .panicked [{ v := faultV a e, recovered := false }]

set_option maxHeartbeats 1000000 in
theorem giveUp_any (a e : Int) (w : World) : Calls Tryz.prog 133 #[.int .i64 a, .int .i64 e] w fun x w' => x = .panicked [{ v := faultV a e, recovered := false }] ∧ w' = w := by
  unfold faultV
  go_enter Tryz.func133, Tryz.ntmps133
  go_wp2
  exact ⟨rfl, rfl, rfl⟩
set_option maxHeartbeats 1000000 in
theorem fail_any (db : Nat) (s : Value) (a q : Int) (e : Int) (w : World) (hb : Box w db #[s, .int .i64 a, .int .i64 q] 198) : Calls Tryz.prog 128 #[.pointer (some ⟨db, 0, none⟩), .int .i64 e] w fun x w' => Fails e x ∧ w' = w := by
  have x1 := hb.cell 1
  simp at x1
  have HG := fun W => giveUp_any a e W
  go_enter Tryz.func128, Tryz.ntmps128
  go_wp2_with fail
  refine (HG _).mono ?_
  rintro e2 w2 ⟨rfl, hw⟩
  subst w2
  exact ⟨rfl, ⟨a, rfl⟩, rfl⟩

/-- the piece of a list from a place on -/
def from_ (p : Option Addr) (k : Nat) : Option Addr := p.map fun a => a.add k

/-- what taking k bytes comes to -/
def TakePost (w : World) (db : Nat) (p : Option Addr) (n c a q k : Nat) (x : Ending) (w' : World) : Prop :=
  (a + k ≤ n → (∃ p' c', x = .returned (.slice p' k c') ∧ (0 < k → p' = from_ p a)) ∧ Box w' db #[.slice p n c, .int .i64 ((a + k : Nat) : Int), .int .i64 q] 198 ∧ But (fun y => y = db) w w') ∧ (n < a + k → Fails 28 x ∧ But (fun y => y = db) w w')

set_option maxHeartbeats 2000000 in
theorem take_any (db : Nat) (p : Option Addr) (n c a q k : Nat) (w : World) (S : Nat → Prop) (f : Nat → Int) (hB : Byts w S p n c f) (hb : Box w db #[.slice p n c, .int .i64 a, .int .i64 q] 198) (ha : a ≤ n) (hk : k ≤ 1000) :
    Calls Tryz.prog 132 #[.pointer (some ⟨db, 0, none⟩), .int .i64 k] w fun x w' => TakePost w db p n c a q k x w' := by
  have x0 := hb.cell 0
  have x1 := hb.cell 1
  have f1 := hb.frozen 1
  have hbl := hb.lt
  simp at x0 x1
  have HB := hid hb
  have hnn := hB.nn
  have hcn := hB.nc
  have HY := hid hB
  clear hb hB
  by_cases h : a + k ≤ n
  · have h1 : ¬ ((n : Int) - (a : Int) < (k : Int)) := by omega
    have h2 : IntKind.i64.wrap ((a : Int) + (k : Int)) = (a : Int) + (k : Int) := by rw [IntKind.wrap_i64]; omega
    have h3 : (a : Int) + (k : Int) - (k : Int) = (a : Int) := by omega
    have h4 : (a : Int) ≤ (a : Int) + (k : Int) := by omega
    have h5 : (a : Int) + (k : Int) ≤ (c : Int) := by omega
    have h6 : (0 : Int) ≤ (a : Int) + (k : Int) := by omega
    have h7 : ((a : Int) + (k : Int)).toNat = a + k := by omega
    have hbx : Box (w.setCell ⟨db, 1, none⟩ (.int .i64 ((a : Int) + (k : Int)))) db #[.slice p n c, .int .i64 ((a + k : Nat) : Int), .int .i64 q] 198 := by
      have h := HB.out.set 1 (.int .i64 ((a : Int) + (k : Int)))
      simpa using h
    have HB2 := hid hbx
    have HK2 := hid ((But.one w db).setAt 1 (.int .i64 ((a : Int) + (k : Int))))
    clear hbx
    cases p with
    | none =>
      obtain ⟨rfl, rfl⟩ := HY.out.nil rfl
      obtain rfl : a = 0 := by omega
      obtain rfl : k = 0 := by omega
      go_enter Tryz.func132, Tryz.ntmps132
      go_wp2_with fail
      go_region
      go_wp2_with fail
      go_region
      go_wp2
      go_ret
      exact ⟨fun _ => ⟨⟨none, 0, rfl, fun h => by omega⟩, HB2.out.below (Below.refl _ _).drew.drew, HK2.out.drew.drew⟩, fun h => by omega⟩
    | some ad =>
      by_cases hca : c = a
      · subst hca
        obtain rfl : k = 0 := by omega
        go_enter Tryz.func132, Tryz.ntmps132
        go_wp2_with fail
        go_region
        go_wp2_with fail
        go_region
        go_wp2
        go_ret
        exact ⟨fun _ => ⟨⟨_, _, rfl, fun h => by omega⟩, HB2.out.below (Below.refl _ _).drew.drew, HK2.out.drew.drew⟩, fun h => by omega⟩
      · go_enter Tryz.func132, Tryz.ntmps132
        go_wp2_with fail
        go_region
        go_wp2_with fail
        go_region
        go_wp2
        go_ret
        exact ⟨fun _ => ⟨⟨_, _, rfl, fun _ => rfl⟩, HB2.out.below (Below.refl _ _).drew.drew, HK2.out.drew.drew⟩, fun h => by omega⟩
  · have h1 : (n : Int) - (a : Int) < (k : Int) := by omega
    have HF := fun W hb => fail_any db (.slice p n c) a q 28 W hb
    go_enter Tryz.func132, Tryz.ntmps132
    go_wp2_with fail
    go_region
    go_wp2_with fail
    refine (HF _ ?_).mono ?_
    · exact HB.out.below (Below.refl _ _).drew
    · rintro e w2 ⟨⟨a2, rfl⟩, hw⟩
      subst w2
      exact ⟨rfl, fun h2 => absurd h2 h, fun _ => ⟨⟨a2, rfl⟩, (But.refl _ _).drew⟩⟩
end Go.Proofs.YtfonicphdejdlaaGreat

namespace Go.Proofs.YtfonicphdejdlaaGreat
open Go.RowKit
set_option maxRecDepth 8000

/-- what reading a byte comes to -/
def NextPost (w : World) (db : Nat) (p : Option Addr) (n c a q : Nat) (f : Nat → Int) (x : Ending) (w' : World) : Prop :=
  (a < n → x = .returned (.int .u8 (f a)) ∧ Box w' db #[.slice p n c, .int .i64 ((a + 1 : Nat) : Int), .int .i64 q] 198 ∧ But (fun y => y = db) w w') ∧ (n ≤ a → Fails 28 x ∧ But (fun y => y = db) w w')

set_option maxHeartbeats 1000000 in
theorem next_any (db : Nat) (p : Option Addr) (n c a q : Nat) (w : World) (S : Nat → Prop) (f : Nat → Int) (hB : Byts w S p n c f) (hS : ¬ S db) (hb : Box w db #[.slice p n c, .int .i64 a, .int .i64 q] 198) (ha : a ≤ n) :
    Calls Tryz.prog 127 #[.pointer (some ⟨db, 0, none⟩)] w fun x w' => NextPost w db p n c a q f x w' := by
  have HT := take_any db p n c a q 1 w S f hB hb ha (by omega)
  have HY := hid hB
  clear hB hb
  go_enter Tryz.func127, Tryz.ntmps127
  go_wp2_with fail
  refine HT.mono ?_
  intro x w1 hP
  by_cases h : a < n
  · obtain ⟨⟨p', c', rfl, hp'⟩, hb1, hk1⟩ := hP.1 h
    obtain ⟨b, o, hp, hSb, hbl, hat⟩ := HY.out.at_ (by omega)
    have hp2 := hp' (by omega)
    rw [hp] at hp2
    have hp3 : p' = some ⟨b, o + a, none⟩ := by rw [hp2]; simp [from_, Addr.add]
    subst hp3
    have hne : b ≠ db := fun e => hS (e ▸ hSb)
    have y := (World.cell?_of_block (a := ⟨b, o + a, none⟩) (hk1.block b hbl hne)).trans (hat a h)
    have HF := hid (And.intro hb1 hk1)
    clear hP hb1 hk1 hat hp' hp2 HT
    go_wp2
    go_ret
    exact ⟨fun _ => ⟨rfl, HF.out.1, HF.out.2⟩, fun h2 => by omega⟩
  · obtain ⟨⟨a2, rfl⟩, hk1⟩ := hP.2 (by omega)
    have HF := hid hk1
    clear hP hk1 HT
    exact ⟨rfl, fun h2 => absurd h2 h, fun _ => ⟨⟨a2, rfl⟩, HF.out⟩⟩

/-- what reading a count comes to -/
def CountPost (w : World) (db : Nat) (p : Option Addr) (n c a q : Nat) (f : Nat → Int) (most e : Int) (x : Ending) (w' : World) : Prop :=
  (a < n → f a ≤ most → x = .returned (.int .i64 (f a)) ∧ Box w' db #[.slice p n c, .int .i64 ((a + 1 : Nat) : Int), .int .i64 q] 198 ∧ But (fun y => y = db) w w') ∧ (a < n → most < f a → Fails e x ∧ But (fun y => y = db) w w') ∧ (n ≤ a → Fails 28 x ∧ But (fun y => y = db) w w')

set_option maxHeartbeats 1000000 in
theorem count_any (db : Nat) (p : Option Addr) (n c a q : Nat) (w : World) (S : Nat → Prop) (f : Nat → Int) (most e : Int) (hB : Byts w S p n c f) (hS : ¬ S db) (hb : Box w db #[.slice p n c, .int .i64 a, .int .i64 q] 198) (ha : a ≤ n) :
    Calls Tryz.prog 131 #[.pointer (some ⟨db, 0, none⟩), .int .i64 most, .int .i64 e] w fun x w' => CountPost w db p n c a q f most e x w' := by
  have HN := next_any db p n c a q w S f hB hS hb ha
  have HFit := hid hB.fit
  clear hB hb
  go_enter Tryz.func131, Tryz.ntmps131
  go_wp2_with fail
  refine HN.mono ?_
  intro x w1 hP
  by_cases h : a < n
  · obtain ⟨rfl, hb1, hk1⟩ := hP.1 h
    have hf := HFit.out a h
    obtain ⟨hf1, hf2⟩ := hf
    have HF := hid (And.intro hb1 hk1)
    clear hP hb1 hk1 HN
    by_cases hm : f a ≤ most
    · have hm' : ¬ most < f a := by omega
      go_wp2
      go_ret
      exact ⟨fun _ _ => ⟨rfl, HF.out.1, HF.out.2⟩, fun _ h2 => by omega, fun h2 => by omega⟩
    · have hm' : most < f a := by omega
      have HFa := fail_any db (.slice p n c) ((a + 1 : Nat) : Int) q e w1 HF.out.1
      go_wp2_with fail
      refine HFa.mono ?_
      rintro x2 w2 ⟨⟨a2, rfl⟩, hw⟩
      subst w2
      exact ⟨rfl, fun _ h2 => by omega, fun _ _ => ⟨⟨a2, rfl⟩, HF.out.2⟩, fun h2 => by omega⟩
  · obtain ⟨⟨a2, rfl⟩, hk1⟩ := hP.2 (by omega)
    have HF := hid hk1
    clear hP hk1 HN
    exact ⟨rfl, fun h2 => absurd h2 h, fun h2 => absurd h2 h, fun _ => ⟨⟨a2, rfl⟩, HF.out⟩⟩
end Go.Proofs.YtfonicphdejdlaaGreat

namespace Go.Proofs.YtfonicphdejdlaaGreat
open Go.RowKit
set_option maxRecDepth 8000

/-- the number whose groups begin at a: the number, and where it ends; none: it is none -/
def grpS (f : Nat → Int) (n : Nat) : Nat → Nat → Nat → Nat → Option (Nat × Nat)
  | 0, _, _, _ => none
  | k + 1, a, i, u => if n ≤ a then none else if (0 < i ∧ (f a).toNat = 0) ∨ (i = 9 ∧ 1 < (f a).toNat) then none
    else if (f a).toNat < 128 then some (u ||| ((f a).toNat % 128) * 2 ^ (7 * i), a + 1) else grpS f n k (a + 1) (i + 1) (u ||| ((f a).toNat % 128) * 2 ^ (7 * i))
def GrpPost (w : World) (db : Nat) (p : Option Addr) (n c q : Nat) (r : Option (Nat × Nat)) (x : Ending) (w' : World) : Prop :=
  (∀ u a', r = some (u, a') → x = .returned (.int .u64 (u : Int)) ∧ Box w' db #[.slice p n c, .int .i64 (a' : Int), .int .i64 q] 198 ∧ But (fun y => y = db) w w') ∧ (r = none → Fails 28 x ∧ But (fun y => y = db) w w')
theorem andnot128 (c : Nat) (h : c < 256) : bits BinOp.andNot IntKind.u8 (c : Int) 128 = ((c % 128 : Nat) : Int) := by
  have h2 : ∀ v : Nat, v < 256 → bits BinOp.andNot IntKind.u8 (v : Int) 128 = ((v % 128 : Nat) : Int) := by decide
  exact h2 c h
theorem grp_fits {c i : Nat} (hi : i ≤ 9) (h : i = 9 → c ≤ 1) : c % 128 * 2 ^ (7 * i) < 2 ^ 64 := by
  rcases (by omega : i = 9 ∨ i ≤ 8) with rfl | h8
  · have := h rfl
    have h1 : c % 128 ≤ 1 := by omega
    calc c % 128 * 2 ^ (7 * 9) ≤ 1 * 2 ^ 63 := Nat.mul_le_mul h1 (by decide)
      _ < 2 ^ 64 := by decide
  · have h1 : c % 128 < 128 := by omega
    calc c % 128 * 2 ^ (7 * i) ≤ 127 * 2 ^ (7 * i) := Nat.mul_le_mul (by omega) (Nat.le_refl _)
      _ ≤ 127 * 2 ^ 56 := Nat.mul_le_mul (Nat.le_refl _) (Nat.pow_le_pow_right (by omega) (by omega))
      _ < 2 ^ 64 := by decide

set_option maxHeartbeats 2000000 in
theorem groups_any (db : Nat) (p : Option Addr) (n c a q : Nat) (w : World) (S : Nat → Prop) (f : Nat → Int) (hB : Byts w S p n c f) (hS : ¬ S db) (hb : Box w db #[.slice p n c, .int .i64 a, .int .i64 q] 198) (ha : a ≤ n) :
    Calls Tryz.prog 130 #[.pointer (some ⟨db, 0, none⟩)] w fun x w' => GrpPost w db p n c q (grpS f n 10 a 0 0) x w' := by
  have HY := hid hB
  have HB := hid hb
  generalize hR : grpS f n 10 a 0 0 = R
  clear hB hb
  go_enter Tryz.func130, Tryz.ntmps130
  go_wp2_with fail
  go_loopw [3, 4] (fun y x wr => ∃ (i u a' : Nat), i ≤ 9 ∧ y = .int .u64 (u : Int) ∧ x = .int .i64 ((7 * i : Nat) : Int) ∧ u < 2 ^ 64 ∧ a' ≤ n ∧ grpS f n (10 - i) a' i u = R ∧ Box wr db #[.slice p n c, .int .i64 (a' : Int), .int .i64 q] 198 ∧ But (fun y => y = db) w wr) (fun _ x _ => 100 - (intOf x).toNat)
  case atStart => exact ⟨0, 0, a, by omega, rfl, rfl, by decide, ha, hR, HB.out, But.refl _ _⟩
  case round =>
    obtain ⟨i, u, a', hi, rfl, rfl, hu, ha', hg, hbx, hk⟩ := hrel
    have hB1 : Byts wr S p n c f := HY.out.kept hk.size fun b hb hl => hk.block b hl (fun e => hS (e ▸ hb))
    have HN := next_any db p n c a' q wr S f hB1 hS hbx ha'
    have HK := hid hk
    have HG := hid hg
    clear hk hbx hg hB1
    go_wp2_with fail
    refine HN.mono ?_
    intro x w1 hP
    have HE : Hid (10 - i = (9 - i) + 1) := by unfold Hid; omega
    by_cases h : a' < n
    · obtain ⟨rfl, hb1, hk1⟩ := hP.1 h
      obtain ⟨hf1, hf2⟩ := HY.out.fit a' h
      obtain ⟨C, hC⟩ := Int.eq_ofNat_of_zero_le hf1
      have hg2 := HG.out
      rw [HE.out, grpS, if_neg (by omega), hC] at hg2
      simp only [Int.toNat_natCast] at hg2
      have HG2 := hid hg2
      have HF := hid (And.intro hb1 (HK.out.trans hk1))
      clear hP hb1 hk1 HN hg2
      rw [hC]
      have hC2 : C < 256 := by omega
      have e1 := andnot128 C hC2
      have HFa := hid (fail_any db (.slice p n c) ((a' + 1 : Nat) : Int) q 28 w1 HF.out.1)
      by_cases hbad : (0 < i ∧ C = 0) ∨ (i = 9 ∧ 1 < C)
      · have hr : R = none := by have h2 := HG2.out; rw [if_pos hbad] at h2; exact h2.symm
        have HRn := hid hr
        clear hr
        rcases (by omega : (0 < i ∧ C = 0) ∨ (i = 9 ∧ 1 < C)) with ⟨h1, rfl⟩ | ⟨rfl, h1⟩
        · have h1' : (0 : Int) < 7 * (i : Int) := by omega
          go_wp2_with fail
          refine HFa.out.mono ?_
          rintro x2 w2 ⟨⟨a2, rfl⟩, hw⟩
          subst w2
          exact ⟨rfl, fun u2 a3 h2 => (by rw [HRn.out] at h2; cases h2), fun _ => ⟨⟨a2, rfl⟩, HF.out.2⟩⟩
        · have h1' : (1 : Int) < (C : Int) := by omega
          have h2' : ¬ (C : Int) = 0 := by omega
          go_wp2_with fail
          refine HFa.out.mono ?_
          rintro x2 w2 ⟨⟨a2, rfl⟩, hw⟩
          subst w2
          exact ⟨rfl, fun u2 a3 h2 => (by rw [HRn.out] at h2; cases h2), fun _ => ⟨⟨a2, rfl⟩, HF.out.2⟩⟩
      · have hg3 := HG2.out
        rw [if_neg hbad] at hg3
        have HG3 := hid hg3
        have hfit := grp_fits (c := C) hi (fun h9 => by omega)
        obtain ⟨V, hV⟩ : ∃ V, V = C % 128 * 2 ^ (7 * i) := ⟨_, rfl⟩
        rw [← hV] at hfit
        have hor := bits_or_u64_nat u V (by omega) (by omega)
        have HV := hid hV
        clear hg3 hV
        have hfit2 := hid hfit
        have HRs : C < 128 → R = some (u ||| V, a' + 1) := fun h2 => by have h3 := HG3.out; rw [if_pos h2, ← HV.out] at h3; exact h3.symm
        have HRr : ¬ C < 128 → grpS f n (10 - (i + 1)) (a' + 1) (i + 1) (u ||| V) = R := fun h2 => by have h3 := HG3.out; rw [if_neg h2, ← HV.out] at h3; rw [show 10 - (i + 1) = 9 - i by omega]; exact h3
        have HRs := hid HRs
        have HRr := hid HRr
        by_cases hi0 : i = 0
        · subst hi0
          have e0 : (C : Int) % 128 = (V : Int) := by have := HV.out; omega
          by_cases hlt : C < 128
          · have hlt' : (C : Int) < 128 := by omega
            have HRs := hid (HRs.out hlt)
            clear HRr HV hfit HG2 HG3
            go_wp2
            go_ret
            exact ⟨fun u2 a3 h2 => (by rw [HRs.out] at h2; cases h2; exact ⟨rfl, HF.out.1, HF.out.2⟩), fun h2 => (by rw [HRs.out] at h2; cases h2)⟩
          · have hlt' : ¬ (C : Int) < 128 := by omega
            have HRr := hid (HRr.out hlt)
            clear HRs HV hfit HG2 HG3
            go_wp2
            go_roundw
            case rel => exact ⟨0 + 1, u ||| V, a' + 1, by omega, rfl, by go_num, Nat.or_lt_two_pow hu hfit2.out, by omega, HRr.out, HF.out.1, HF.out.2⟩
            case measure => simp [intOf]
        · have h1' : (0 : Int) < 7 * (i : Int) := by omega
          have h2' : ¬ (C : Int) = 0 := by omega
          have h2b : ((C : Int) == 0) = false := by simpa using h2'
          by_cases hi9 : i = 9
          · subst hi9
            have h3' : ¬ (1 : Int) < (C : Int) := by omega
            have hlt : C < 128 := by omega
            have hlt' : (C : Int) < 128 := by omega
            have e0 : (C : Int) % 128 * 9223372036854775808 = (V : Int) := by
              have := HV.out
              rw [this]
              omega
            have HRs := hid (HRs.out hlt)
            clear HRr HV hfit HG2 HG3
            go_wp2
            go_ret
            exact ⟨fun u2 a3 h2 => (by rw [HRs.out] at h2; cases h2; exact ⟨rfl, HF.out.1, HF.out.2⟩), fun h2 => (by rw [HRs.out] at h2; cases h2)⟩
          · have h3' : ¬ 7 * (i : Int) = 63 := by omega
            have e0 : IntKind.u64.wrap ((C : Int) % 128 * 2 ^ (7 * i)) = (V : Int) := by
              have h2 : (C : Int) % 128 * 2 ^ (7 * i) = (V : Int) := by rw [HV.out]; simp
              rw [h2, wrap_u64]; omega
            by_cases hlt : C < 128
            · have hlt' : (C : Int) < 128 := by omega
              have HRs := hid (HRs.out hlt)
              clear HRr HV hfit HG2 HG3
              go_wp2
              go_ret
              exact ⟨fun u2 a3 h2 => (by rw [HRs.out] at h2; cases h2; exact ⟨rfl, HF.out.1, HF.out.2⟩), fun h2 => (by rw [HRs.out] at h2; cases h2)⟩
            · have hlt' : ¬ (C : Int) < 128 := by omega
              have HRr := hid (HRr.out hlt)
              clear HRs HV hfit HG2 HG3
              go_wp2
              go_roundw
              case rel => exact ⟨i + 1, u ||| V, a' + 1, by omega, rfl, by go_num, Nat.or_lt_two_pow hu hfit2.out, by omega, HRr.out, HF.out.1, HF.out.2⟩
              case measure => simp [intOf]; omega
    · obtain ⟨⟨a2, rfl⟩, hk1⟩ := hP.2 (by omega)
      have hr : R = none := by have h2 := HG.out; rw [HE.out, grpS, if_pos (by omega)] at h2; exact h2.symm
      have HF := hid (HK.out.trans hk1)
      have HRn := hid hr
      clear hP hk1 HN hr
      exact ⟨rfl, fun u2 a3 h2 => (by rw [HRn.out] at h2; cases h2), fun _ => ⟨⟨a2, rfl⟩, HF.out⟩⟩
end Go.Proofs.YtfonicphdejdlaaGreat

namespace Go.Proofs.YtfonicphdejdlaaGreat
open Go.RowKit
set_option maxRecDepth 8000

/-- the int of a folded number -/
def unfoldI (u : Nat) : Int := if u % 2 = 1 then -1 - ((u / 2 : Nat) : Int) else ((u / 2 : Nat) : Int)
theorem and_one64 (u : Nat) (hu : u < 2 ^ 64) : bits BinOp.and IntKind.u64 (u : Int) 1 = ((u % 2 : Nat) : Int) := by
  have h := bits_and_u64_nat u 1 (by omega) (by omega)
  rw [Nat.and_one_is_mod] at h
  exact h
theorem compl_half (u : Nat) (hu : u < 2 ^ 64) : bits BinOp.xor IntKind.u64 IntKind.u64.max ((u / 2 : Nat) : Int) = ((18446744073709551616 - (u / 2 + 1) : Nat) : Int) := by
  have hm : IntKind.u64.max = ((18446744073709551615 : Nat) : Int) := by decide
  have h2 := bits_xor_u64_nat 18446744073709551615 (u / 2) (by omega) (by omega)
  have h3 : 18446744073709551615 ^^^ (u / 2) = 18446744073709551616 - (u / 2 + 1) := compl64 (u / 2) (by omega)
  rw [h3] at h2
  rw [hm, h2]

set_option maxHeartbeats 1000000 in
theorem unfold_any (u : Nat) (hu : u < 2 ^ 64) (w : World) : Calls Tryz.prog 129 #[.int .u64 (u : Int)] w fun e w' => e = .returned (.int .i64 (unfoldI u)) ∧ w' = w := by
  have h1 := and_one64 u hu
  by_cases h : u % 2 = 1
  · have hb : (((u % 2 : Nat) : Int) == 1) = true := by rw [h]; rfl
    have hc := compl_half u hu
    have hr : IntKind.i64.wrap ((18446744073709551616 - (u / 2 + 1) : Nat) : Int) = unfoldI u := by
      unfold unfoldI
      rw [if_pos h, IntKind.wrap_i64]
      omega
    rw [h] at h1
    go_enter Tryz.func129, Tryz.ntmps129
    go_wp2
    go_ret
    refine ⟨?_, rfl⟩
    have e : wrap64 (bits BinOp.xor IntKind.u64 IntKind.u64.max ((u : Int) / 2)) = unfoldI u := by
      rw [show (u : Int) / 2 = ((u / 2 : Nat) : Int) by omega, hc]
      rw [wrap64, ← IntKind.wrap_i64]
      exact hr
    first | exact congrArg (fun z => Ending.returned (Value.int .i64 z)) e | (rw [← e]; rfl)
  · have h0 : u % 2 = 0 := by omega
    rw [h0] at h1
    have hr : unfoldI u = (u : Int) / 2 := by unfold unfoldI; rw [if_neg h]; omega
    go_enter Tryz.func129, Tryz.ntmps129
    go_wp2
    go_ret
    exact ⟨by first | rfl | (rw [hr]; rfl), rfl⟩
end Go.Proofs.YtfonicphdejdlaaGreat

namespace Go.Proofs.YtfonicphdejdlaaGreat
open Go.RowKit
set_option maxRecDepth 8000
theorem clean_len {t : VT} : (flatP (cleanT t)).length ≤ 12 := by
  unfold cleanT
  split
  · rename_i h
    have h1 := chk_len t 0 0 h
    have h2 := (chk_le t 0 0 (by omega)).2 h
    omega
  · simp [zeroT, flatP]
/-- bytes as a text -/
def strOf (zs : List Int) : ByteArray := zs.foldl (fun r n => r.push (UInt8.ofNat n.toNat)) ByteArray.empty
theorem conv_any {w : World} {base b c : Nat} {zs : List Int} (h : OwnBy base w (.slice (some ⟨b, 0, none⟩) zs.length c) zs) : (convert 49 9 (.slice (some ⟨b, 0, none⟩) zs.length c)).run Tryz.prog w = .ok (.string (strOf zs)) w := by
  rw [run_convert_bytes_string (P := Tryz.prog) w 49 9 5 _ _ _ Tryz.underlying49 Tryz.underlying5 Tryz.underlying9]
  have hl := run_loadCells_list (P := Tryz.prog) (w := w) ⟨b, 0, none⟩ (zs.map (Value.int .u8)) (World.ownsRow.cells h rfl)
  rw [List.length_map] at hl
  exact run_bytesToString w ⟨b, 0, none⟩ zs.length c zs hl
end Go.Proofs.YtfonicphdejdlaaGreat
