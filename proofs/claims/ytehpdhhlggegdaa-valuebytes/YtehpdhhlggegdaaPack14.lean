import Derived.Test.YtehpdhhlggegdaaHoldY
import Derived.Test.YtehpdhhlggegdaaHoldF
import Derived.Test.YtehpdhhlggegdaaHoldD
import Derived.Test.YtehpdhhlggegdaaPack10
namespace Go.Proofs.Ytehpdhhlggegdaa
open Go.RowKit
set_option maxRecDepth 8000

set_option maxHeartbeats 1000000 in
theorem holdY_any (base : Nat) (w : World) (R : RS) (hR : Rm base w R) (hp : R.plainY) :
    Calls Try.prog 13 #[.pointer (some ⟨R.rb, 0, none⟩)] w fun e w' => e = .returned (.bool true) ∧ Below w.heap.size w w' := by
  have H1 : Hid (Calls Try.prog 39 #[.pointer (some ⟨R.rb, 0, none⟩)] w fun e w' => e = .returned (.bool true) ∧ Below w.heap.size w w') := plainY_any base w R hR hp
  have H2 : Hid (∀ W, Below w.heap.size w W → Calls Try.prog 40 #[.pointer (some ⟨R.rb, 0, none⟩)] W fun e w' => e = .returned (.bool true) ∧ Below W.heap.size W w') := fun W hW => flow_of base W R (hR.below hW) (hp 5 (by omega) (by omega) (by omega) (by omega)) (hp 6 (by omega) (by omega) (by omega) (by omega)) (hp 8 (by omega) (by omega) (by omega) (by omega))
  have H3 : Hid (∀ W, Below w.heap.size w W → Calls Try.prog 41 #[.pointer (some ⟨R.rb, 0, none⟩)] W fun e w' => e = .returned (.bool true) ∧ Below W.heap.size W w') := fun W hW => lists_any base W R (hR.below hW) (hp 7 (by omega) (by omega) (by omega) (by omega))
  have H4 : Hid (∀ W, Below w.heap.size w W → Calls Try.prog 42 #[.pointer (some ⟨R.rb, 0, none⟩)] W fun e w' => e = .returned (.bool true) ∧ Below W.heap.size W w') := fun W hW => deepHold_any base W R (hR.below hW) (hp 4 (by omega) (by omega) (by omega) (by omega))
  clear hR hp
  go_enter Try.func13, Try.ntmps13
  go_wp2_with fail
  refine H1.out.mono ?_
  rintro e w1 ⟨rfl, hb1⟩
  go_wp2_with fail
  refine (H2.out _ hb1).mono ?_
  rintro e w2 ⟨rfl, hb2⟩
  have hb12 := hb1.trans (hb2.mono hb1.size)
  go_wp2_with fail
  refine (H3.out _ hb12).mono ?_
  rintro e w3 ⟨rfl, hb3⟩
  have hb13 := hb12.trans (hb3.mono hb12.size)
  go_wp2_with fail
  refine (H4.out _ hb13).mono ?_
  rintro e w4 ⟨rfl, hb4⟩
  have hb14 := hb13.trans (hb4.mono hb13.size)
  go_wp2
  go_ret
  exact ⟨rfl, hb14⟩
end Go.Proofs.Ytehpdhhlggegdaa

namespace Go.Proofs.Ytehpdhhlggegdaa
open Go.RowKit
set_option maxRecDepth 8000

/-- what a reading function panics with -/
def faultV (a e : Int) : Value := .iface 97 (.agg #[.int .i64 a, .int .i64 e])
def Fails (e : Int) (x : Ending) : Prop := ∃ a : Int, x = .panicked [{ v := faultV a e, recovered := false }]

set_option maxHeartbeats 1000000 in
theorem giveUp_any (a e : Int) (w : World) : Calls Try.prog 83 #[.int .i64 a, .int .i64 e] w fun x w' => x = .panicked [{ v := faultV a e, recovered := false }] ∧ w' = w := by
  unfold faultV
  go_enter Try.func83, Try.ntmps83
  go_wp2
  exact ⟨rfl, rfl, rfl⟩
set_option maxHeartbeats 1000000 in
theorem fail_any (db : Nat) (s : Value) (a q : Int) (e : Int) (w : World) (hb : Box w db #[s, .int .i64 a, .int .i64 q] 100) : Calls Try.prog 74 #[.pointer (some ⟨db, 0, none⟩), .int .i64 e] w fun x w' => Fails e x ∧ w' = w := by
  have x1 := hb.cell 1
  simp at x1
  have HG := fun W => giveUp_any a e W
  go_enter Try.func74, Try.ntmps74
  go_wp2_with fail
  refine (HG _).mono ?_
  rintro e2 w2 ⟨rfl, hw⟩
  subst w2
  exact ⟨rfl, ⟨a, rfl⟩, rfl⟩

/-- the piece of a list from a place on -/
def from_ (p : Option Addr) (k : Nat) : Option Addr := p.map fun a => a.add k

/-- what taking k bytes comes to -/
def TakePost (w : World) (db : Nat) (p : Option Addr) (n c a q k : Nat) (x : Ending) (w' : World) : Prop :=
  (a + k ≤ n → (∃ p' c', x = .returned (.slice p' k c') ∧ (0 < k → p' = from_ p a)) ∧ Box w' db #[.slice p n c, .int .i64 ((a + k : Nat) : Int), .int .i64 q] 100 ∧ But (fun y => y = db) w w') ∧ (n < a + k → Fails 28 x ∧ But (fun y => y = db) w w')

set_option maxHeartbeats 2000000 in
theorem take_any (db : Nat) (p : Option Addr) (n c a q k : Nat) (w : World) (S : Nat → Prop) (f : Nat → Int) (hB : Byts w S p n c f) (hb : Box w db #[.slice p n c, .int .i64 a, .int .i64 q] 100) (ha : a ≤ n) (hk : k ≤ 1000) :
    Calls Try.prog 78 #[.pointer (some ⟨db, 0, none⟩), .int .i64 k] w fun x w' => TakePost w db p n c a q k x w' := by
  have x0 := hb.cell 0
  have x1 := hb.cell 1
  have f1 := hb.frozen 1
  have hbl := hb.lt
  simp at x0 x1
  have HB := hid hb
  have hnn := hB.nn
  have hcn := hB.nc
  have HY := hid hB
  clear hb hB
  by_cases h : a + k ≤ n
  · have h1 : ¬ ((n : Int) - (a : Int) < (k : Int)) := by omega
    have h2 : IntKind.i64.wrap ((a : Int) + (k : Int)) = (a : Int) + (k : Int) := by rw [IntKind.wrap_i64]; omega
    have h3 : (a : Int) + (k : Int) - (k : Int) = (a : Int) := by omega
    have h4 : (a : Int) ≤ (a : Int) + (k : Int) := by omega
    have h5 : (a : Int) + (k : Int) ≤ (c : Int) := by omega
    have h6 : (0 : Int) ≤ (a : Int) + (k : Int) := by omega
    have h7 : ((a : Int) + (k : Int)).toNat = a + k := by omega
    have hbx : Box (w.setCell ⟨db, 1, none⟩ (.int .i64 ((a : Int) + (k : Int)))) db #[.slice p n c, .int .i64 ((a + k : Nat) : Int), .int .i64 q] 100 := by
      have h := HB.out.set 1 (.int .i64 ((a : Int) + (k : Int)))
      simpa using h
    have HB2 := hid hbx
    have HK2 := hid ((But.one w db).setAt 1 (.int .i64 ((a : Int) + (k : Int))))
    clear hbx
    cases p with
    | none =>
      obtain ⟨rfl, rfl⟩ := HY.out.nil rfl
      obtain rfl : a = 0 := by omega
      obtain rfl : k = 0 := by omega
      go_enter Try.func78, Try.ntmps78
      go_wp2_with fail
      go_region
      go_wp2_with fail
      go_region
      go_wp2
      go_ret
      exact ⟨fun _ => ⟨⟨none, 0, rfl, fun h => by omega⟩, HB2.out.below (Below.refl _ _).drew.drew, HK2.out.drew.drew⟩, fun h => by omega⟩
    | some ad =>
      by_cases hca : c = a
      · subst hca
        obtain rfl : k = 0 := by omega
        go_enter Try.func78, Try.ntmps78
        go_wp2_with fail
        go_region
        go_wp2_with fail
        go_region
        go_wp2
        go_ret
        exact ⟨fun _ => ⟨⟨_, _, rfl, fun h => by omega⟩, HB2.out.below (Below.refl _ _).drew.drew, HK2.out.drew.drew⟩, fun h => by omega⟩
      · go_enter Try.func78, Try.ntmps78
        go_wp2_with fail
        go_region
        go_wp2_with fail
        go_region
        go_wp2
        go_ret
        exact ⟨fun _ => ⟨⟨_, _, rfl, fun _ => rfl⟩, HB2.out.below (Below.refl _ _).drew.drew, HK2.out.drew.drew⟩, fun h => by omega⟩
  · have h1 : (n : Int) - (a : Int) < (k : Int) := by omega
    have HF := fun W hb => fail_any db (.slice p n c) a q 28 W hb
    go_enter Try.func78, Try.ntmps78
    go_wp2_with fail
    go_region
    go_wp2_with fail
    refine (HF _ ?_).mono ?_
    · exact HB.out.below (Below.refl _ _).drew
    · rintro e w2 ⟨⟨a2, rfl⟩, hw⟩
      subst w2
      exact ⟨rfl, fun h2 => absurd h2 h, fun _ => ⟨⟨a2, rfl⟩, (But.refl _ _).drew⟩⟩
end Go.Proofs.Ytehpdhhlggegdaa

namespace Go.Proofs.Ytehpdhhlggegdaa
open Go.RowKit
set_option maxRecDepth 8000

/-- what reading a byte comes to -/
def NextPost (w : World) (db : Nat) (p : Option Addr) (n c a q : Nat) (f : Nat → Int) (x : Ending) (w' : World) : Prop :=
  (a < n → x = .returned (.int .u8 (f a)) ∧ Box w' db #[.slice p n c, .int .i64 ((a + 1 : Nat) : Int), .int .i64 q] 100 ∧ But (fun y => y = db) w w') ∧ (n ≤ a → Fails 28 x ∧ But (fun y => y = db) w w')

set_option maxHeartbeats 1000000 in
theorem next_any (db : Nat) (p : Option Addr) (n c a q : Nat) (w : World) (S : Nat → Prop) (f : Nat → Int) (hB : Byts w S p n c f) (hS : ¬ S db) (hb : Box w db #[.slice p n c, .int .i64 a, .int .i64 q] 100) (ha : a ≤ n) :
    Calls Try.prog 73 #[.pointer (some ⟨db, 0, none⟩)] w fun x w' => NextPost w db p n c a q f x w' := by
  have HT := take_any db p n c a q 1 w S f hB hb ha (by omega)
  have HY := hid hB
  clear hB hb
  go_enter Try.func73, Try.ntmps73
  go_wp2_with fail
  refine HT.mono ?_
  intro x w1 hP
  by_cases h : a < n
  · obtain ⟨⟨p', c', rfl, hp'⟩, hb1, hk1⟩ := hP.1 h
    obtain ⟨b, o, hp, hSb, hbl, hat⟩ := HY.out.at_ (by omega)
    have hp2 := hp' (by omega)
    rw [hp] at hp2
    have hp3 : p' = some ⟨b, o + a, none⟩ := by rw [hp2]; simp [from_, Addr.add]
    subst hp3
    have hne : b ≠ db := fun e => hS (e ▸ hSb)
    have y := (World.cell?_of_block (a := ⟨b, o + a, none⟩) (hk1.block b hbl hne)).trans (hat a h)
    have HF := hid (And.intro hb1 hk1)
    clear hP hb1 hk1 hat hp' hp2 HT
    go_wp2
    go_ret
    exact ⟨fun _ => ⟨rfl, HF.out.1, HF.out.2⟩, fun h2 => by omega⟩
  · obtain ⟨⟨a2, rfl⟩, hk1⟩ := hP.2 (by omega)
    have HF := hid hk1
    clear hP hk1 HT
    exact ⟨rfl, fun h2 => absurd h2 h, fun _ => ⟨⟨a2, rfl⟩, HF.out⟩⟩

/-- what reading a count comes to -/
def CountPost (w : World) (db : Nat) (p : Option Addr) (n c a q : Nat) (f : Nat → Int) (most e : Int) (x : Ending) (w' : World) : Prop :=
  (a < n → f a ≤ most → x = .returned (.int .i64 (f a)) ∧ Box w' db #[.slice p n c, .int .i64 ((a + 1 : Nat) : Int), .int .i64 q] 100 ∧ But (fun y => y = db) w w') ∧ (a < n → most < f a → Fails e x ∧ But (fun y => y = db) w w') ∧ (n ≤ a → Fails 28 x ∧ But (fun y => y = db) w w')

set_option maxHeartbeats 1000000 in
theorem count_any (db : Nat) (p : Option Addr) (n c a q : Nat) (w : World) (S : Nat → Prop) (f : Nat → Int) (most e : Int) (hB : Byts w S p n c f) (hS : ¬ S db) (hb : Box w db #[.slice p n c, .int .i64 a, .int .i64 q] 100) (ha : a ≤ n) :
    Calls Try.prog 77 #[.pointer (some ⟨db, 0, none⟩), .int .i64 most, .int .i64 e] w fun x w' => CountPost w db p n c a q f most e x w' := by
  have HN := next_any db p n c a q w S f hB hS hb ha
  have HFit := hid hB.fit
  clear hB hb
  go_enter Try.func77, Try.ntmps77
  go_wp2_with fail
  refine HN.mono ?_
  intro x w1 hP
  by_cases h : a < n
  · obtain ⟨rfl, hb1, hk1⟩ := hP.1 h
    have hf := HFit.out a h
    obtain ⟨hf1, hf2⟩ := hf
    have HF := hid (And.intro hb1 hk1)
    clear hP hb1 hk1 HN
    by_cases hm : f a ≤ most
    · have hm' : ¬ most < f a := by omega
      go_wp2
      go_ret
      exact ⟨fun _ _ => ⟨rfl, HF.out.1, HF.out.2⟩, fun _ h2 => by omega, fun h2 => by omega⟩
    · have hm' : most < f a := by omega
      have HFa := fail_any db (.slice p n c) ((a + 1 : Nat) : Int) q e w1 HF.out.1
      go_wp2_with fail
      refine HFa.mono ?_
      rintro x2 w2 ⟨⟨a2, rfl⟩, hw⟩
      subst w2
      exact ⟨rfl, fun _ h2 => by omega, fun _ _ => ⟨⟨a2, rfl⟩, HF.out.2⟩, fun h2 => by omega⟩
  · obtain ⟨⟨a2, rfl⟩, hk1⟩ := hP.2 (by omega)
    have HF := hid hk1
    clear hP hk1 HN
    exact ⟨rfl, fun h2 => absurd h2 h, fun h2 => absurd h2 h, fun _ => ⟨⟨a2, rfl⟩, HF.out⟩⟩
end Go.Proofs.Ytehpdhhlggegdaa
