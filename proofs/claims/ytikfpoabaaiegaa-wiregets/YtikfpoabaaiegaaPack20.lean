import Derived.Test.YtikfpoabaaiegaaPack19
import Derived.Test.YtikfpoabaaiegaaPack6
import Derived.Test.YtikfpoabaaiegaaPack4
import Derived.Deep.DeepCutAuto
namespace Go.Proofs.Ytikfpoabaaiegaa
open Go.RowKit
set_option maxRecDepth 8000
structure GB (w0 : World) (rb : Nat) (S : Nat → Prop) (bp : Option Addr) (bc : Nat) (B : List Int) : Prop where
  byts : Byts w0 S bp B.length bc (fun j => B.getD j 0)
  hS : ∀ q, S q → q < rb
  len : B.length ≤ 1000000
theorem GB.cell {w0 : World} {rb : Nat} {S : Nat → Prop} {bp : Option Addr} {bc : Nat} {B : List Int} (h : GB w0 rb S bp bc B) {w : World} (hb : Below rb w0 w) {j : Nat} (hj : j < B.length) : ∃ b o, bp = some ⟨b, o, none⟩ ∧ w.cell? ⟨b, o + j, none⟩ = some (.int .u8 (B.getD j 0)) ∧ 0 ≤ B.getD j 0 ∧ B.getD j 0 < 256 ∧ b < rb := by
  obtain ⟨b, o, hp, hSb, hl, ha⟩ := h.byts.at_ (by omega)
  have hf := h.byts.fit j hj
  exact ⟨b, o, hp, (World.cell?_of_block (a := ⟨b, o + j, none⟩) (hb.block b (h.hS b hSb))).trans (ha j hj), hf.1, hf.2, h.hS b hSb⟩
def StP {α : Type} (s : RS α) (B : List Int) (p : Nat) (ok : α → Nat → World → Prop) (bad : Nat → World → Prop) (w' : World) : Prop :=
  (∀ y R, s (B.drop p) = .ok (y, R) → ∃ p', p' ≤ B.length ∧ R = B.drop p' ∧ ok y p' w') ∧ (∀ k, s (B.drop p) = .error k → k ≠ 0 ∧ bad k w')
def NmP (s : RS Nat) (w0 : World) (rb : Nat) (bv : Value) (a b c : Value) (N : List Int) (K : List ByteArray) (V : List VT) (B : List Int) (p : Nat) (x : Ending) (w' : World) : Prop :=
  StP s B p (fun n p' w' => p < p' ∧ n < 34359738368 ∧ x = .returned (.int .i64 (n : Int)) ∧ GM w0 rb w' bv (p' : Int) 0 a b c N K V) (fun k w' => ∃ (n : Nat) (pa : Int), n < 34359738368 ∧ -10 ≤ pa ∧ pa ≤ 1000010 ∧ x = .returned (.int .i64 (n : Int)) ∧ GM w0 rb w' bv pa (k : Int) a b c N K V) w'
theorem drop_getD {B : List Int} {p : Nat} (h : p < B.length) : B.drop p = B.getD p 0 :: B.drop (p + 1) := by
  rw [List.drop_eq_getElem_cons h]
  congr 1
  simp [List.getD_eq_getElem?_getD, List.getElem?_eq_getElem h]
set_option maxHeartbeats 8000000 in
theorem refNumber_any {w0 : World} {rb : Nat} {w : World} {bp : Option Addr} {bc : Nat} {a b c : Value} {N : List Int} {K : List ByteArray} {V : List VT} {S : Nat → Prop} {B : List Int} {p : Nat} (hB : GB w0 rb S bp bc B) (h : GM w0 rb w (.slice bp B.length bc) (p : Int) 0 a b c N K V) (hp : p ≤ B.length) (most : Nat) :
    Calls Try.prog 139 #[.pointer (some ⟨rb, 0, none⟩), .int .i64 (most : Int)] w fun x w' => NmP (numS most) w0 rb (.slice bp B.length bc) a b c N K V B p x w' := by
  have hlen := hB.len
  have HBB := hid hB
  have HH := hid h
  generalize hZ : numS most (B.drop p) = Z
  have HZ := hid hZ
  clear hB h hZ
  go_enter Try.func139, Try.ntmps139
  go_wp2_with fail
  go_loopw [5, 6, 7] (fun x y z wr => ∃ (k u U : Nat), k ≤ 5 ∧ x = .int .i64 (u : Int) ∧ y = .int .i64 (U : Int) ∧ z = .int .i64 (k : Int) ∧ U = 2 ^ (7 * k) ∧ u < U ∧ p + k ≤ B.length ∧ numG most (5 - k) k u (B.drop (p + k)) = Z ∧ GM w0 rb wr (.slice bp B.length bc) (p : Int) 0 a b c N K V) (fun _ _ z _ => 5 - (intOf z).toNat)
  case atStart => exact ⟨0, 0, 1, by omega, rfl, rfl, rfl, rfl, by omega, hp, HZ.out, HH.out⟩
  case round =>
    obtain ⟨k, u, U, hk, rfl, rfl, rfl, hU, hu, hpk, hg, hM⟩ := hrel
    clear HH
    have HM := hid hM
    have HG := hid hg
    have HU := hid hU
    have hws := hM.box.lt
    have d0 := hM.box.cell 0
    have d1 := hM.box.cell 1
    have g1 := hM.box.frozen 1
    have g2 := hM.box.frozen 2
    have d2 := hM.box.cell 2
    simp at d0 d1 d2
    clear hM hg hU
    by_cases h5 : k < 5
    · have h5' : (k : Int) < 5 := by omega
      have hadd : IntKind.i64.wrap ((p : Int) + (k : Int)) = (p : Int) + (k : Int) := by rw [IntKind.wrap_i64]; omega
      have HE : Hid (5 - k = (4 - k) + 1) := by unfold Hid; omega
      by_cases hin : p + k < B.length
      · have hin' : ¬ (B.length : Int) ≤ (p : Int) + (k : Int) := by omega
        have hin2 : (p : Int) + (k : Int) < (B.length : Int) := by omega
        have htn : ((p : Int) + (k : Int)).toNat = p + k := by omega
        obtain ⟨gb, go, hbp, hc, hf0, hf1, hgb⟩ := HBB.out.cell HM.out.below hin
        obtain ⟨C, hC⟩ := Int.eq_ofNat_of_zero_le hf0
        have hC2 : C < 256 := by omega
        rw [hC] at hc
        subst hbp
        have hg2 := HG.out
        rw [HE.out, drop_getD hin, hC] at hg2
        have HG2 := hid hg2
        obtain ⟨X, hX⟩ : ∃ X, X = C % 128 * 2 ^ (7 * k) := ⟨_, rfl⟩
        have hUk := HU.out
        have hU5 : 2 ^ (7 * k) ≤ 268435456 := by
          have : 2 ^ (7 * k) ≤ 2 ^ 28 := Nat.pow_le_pow_right (by decide) (by omega)
          omega
        have hX2 : X ≤ 127 * U := by rw [hX, ← hUk]; exact Nat.mul_le_mul_right _ (by omega)
        have hmul : (U : Int) * ((C : Int) % 128) = (X : Int) := by rw [hX, ← hUk, Nat.mul_comm]; simp
        obtain ⟨U2, hU2⟩ : ∃ U2, U2 = U * 128 := ⟨_, rfl⟩
        have hmu2 : (U : Int) * 128 = (U2 : Int) := by omega
        obtain ⟨Y, hY⟩ : ∃ Y, Y = u + X := ⟨_, rfl⟩
        have hsum : (u : Int) + (X : Int) = (Y : Int) := by omega
        have HOr : Hid (u ||| C % 128 * 2 ^ (7 * k) = Y) := by unfold Hid; rw [or_plus (by omega), ← hX, hY]
        have HU2 : Hid (U2 = 2 ^ (7 * (k + 1))) := by unfold Hid; rw [hU2, hUk, show 7 * (k + 1) = 7 * k + 7 by omega, Nat.pow_add]
        have HYU : Hid (Y < U2) := by unfold Hid; omega
        have hYb : Y < 34359738368 := by omega
        have hU2b : U2 ≤ 34359738368 := by omega
        have HY2 := hid hYb
        have hXb : X < 34359738368 := by omega
        clear hg2 hX hf0 hf1 hC hX2 hU5 hUk hY hU2
        go_wp2_with fail
        refine wp_region_calm 30 (fun wx => Below wr.heap.size wr wx) [(0, true), (1, true), (2, true), (3, false), (4, true), (5, true), (6, true), (7, true), (8, true), (9, false), (10, true), (11, true)] [] (by kernel_rfl) (by kernel_rfl) (Below.refl _ _).drew ?_
        refine wpPre_e rfl rfl (fun K1 hK1 => ?_)
        apply Exists.intro
        refine And.intro (fun wx hx => ?_) ?_
        · go_simp
          try rfl
        go_simp
        refine hK1 _ ?_
        clear hK1 K1
        refine wpPre_e rfl rfl (fun K1 hK1 => ?_)
        apply Exists.intro
        refine And.intro (fun wx hx => ?_) ?_
        · go_simp
          try rfl
        go_simp
        refine hK1 _ ?_
        clear hK1 K1
        refine wpPre_e rfl rfl (fun K1 hK1 => ?_)
        apply Exists.intro
        refine And.intro (fun wx hx => ?_) ?_
        · go_simp
          try rfl
        go_simp
        refine hK1 _ ?_
        clear hK1 K1
        refine wpPre_e rfl rfl (fun K1 hK1 => ?_)
        apply Exists.intro
        refine And.intro (fun wx hx => ?_) ?_
        · have e0 := below_fact hx rfl d0; have e1 := below_fact hx rfl d1
          go_simp
          try rfl
        go_simp
        refine hK1 _ ?_
        clear hK1 K1
        refine wpPre_e rfl rfl (fun K1 hK1 => ?_)
        apply Exists.intro
        refine And.intro (fun wx hx => ?_) ?_
        · go_simp
          try rfl
        go_simp
        refine hK1 _ ?_
        clear hK1 K1
        refine wpPre_e rfl rfl (fun K1 hK1 => ?_)
        apply Exists.intro
        refine And.intro (fun wx hx => ?_) ?_
        · go_simp
          try rfl
        go_simp
        refine hK1 _ ?_
        clear hK1 K1
        refine wpPre_e rfl rfl (fun K1 hK1 => ?_)
        apply Exists.intro
        refine And.intro (fun wx hx => ?_) ?_
        · go_simp
          try rfl
        go_simp
        refine hK1 _ ?_
        clear hK1 K1
        refine wpPre_e rfl rfl (fun K1 hK1 => ?_)
        apply Exists.intro
        refine And.intro (fun wx hx => ?_) ?_
        · go_simp
          try rfl
        go_simp
        refine hK1 _ ?_
        clear hK1 K1
        refine wpPre_e rfl rfl (fun K1 hK1 => ?_)
        apply Exists.intro
        refine And.intro (fun wx hx => ?_) ?_
        · go_simp
          try rfl
        go_simp
        refine hK1 _ ?_
        clear hK1 K1
        refine wpPre_e rfl rfl (fun K1 hK1 => ?_)
        apply Exists.intro
        refine And.intro (fun wx hx => ?_) ?_
        · have e0 := below_fact hx rfl d0; have e1 := below_fact hx rfl d1
          go_simp
          try rfl
        go_simp
        refine hK1 _ ?_
        clear hK1 K1
        refine wpPre_e rfl rfl (fun K1 hK1 => ?_)
        apply Exists.intro
        refine And.intro (fun wx hx => ?_) ?_
        · go_simp
          try rfl
        go_simp
        refine hK1 _ ?_
        clear hK1 K1
        refine wpPre_e rfl rfl (fun K1 hK1 => ?_)
        apply Exists.intro
        refine And.intro (fun wx hx => ?_) ?_
        · go_simp
          try rfl
        go_simp
        refine hK1 _ ?_
        clear hK1 K1
        refine wpPre_nil ?_
        refine wpSeq_nil ?_
        go_wp2_with fail
        refine wp_region_calm 30 (fun wx => Below wr.heap.size wr wx) [(0, true), (1, true), (2, true), (3, false), (4, true), (5, true), (6, true), (7, false), (8, true), (9, true), (10, true), (11, false), (12, true), (13, true)] [] (by kernel_rfl) (by kernel_rfl) (Below.refl _ _).drew.drew ?_
        refine wpPre_e rfl rfl (fun K1 hK1 => ?_)
        apply Exists.intro
        refine And.intro (fun wx hx => ?_) ?_
        · go_simp
          try rfl
        go_simp
        refine hK1 _ ?_
        clear hK1 K1
        refine wpPre_e rfl rfl (fun K1 hK1 => ?_)
        apply Exists.intro
        refine And.intro (fun wx hx => ?_) ?_
        · go_simp
          try rfl
        go_simp
        refine hK1 _ ?_
        clear hK1 K1
        refine wpPre_e rfl rfl (fun K1 hK1 => ?_)
        apply Exists.intro
        refine And.intro (fun wx hx => ?_) ?_
        · go_simp
          try rfl
        go_simp
        refine hK1 _ ?_
        clear hK1 K1
        refine wpPre_e rfl rfl (fun K1 hK1 => ?_)
        apply Exists.intro
        refine And.intro (fun wx hx => ?_) ?_
        · have e0 := below_fact hx rfl d0; have e1 := below_fact hx rfl d1; have e2 := below_fact hx rfl hc
          go_simp
          try rfl
        go_simp
        refine hK1 _ ?_
        clear hK1 K1
        refine wpPre_e rfl rfl (fun K1 hK1 => ?_)
        apply Exists.intro
        refine And.intro (fun wx hx => ?_) ?_
        · go_simp
          try rfl
        go_simp
        refine hK1 _ ?_
        clear hK1 K1
        refine wpPre_e rfl rfl (fun K1 hK1 => ?_)
        apply Exists.intro
        refine And.intro (fun wx hx => ?_) ?_
        · go_simp
          try rfl
        go_simp
        refine hK1 _ ?_
        clear hK1 K1
        refine wpPre_e rfl rfl (fun K1 hK1 => ?_)
        apply Exists.intro
        refine And.intro (fun wx hx => ?_) ?_
        · go_simp
          try rfl
        go_simp
        refine hK1 _ ?_
        clear hK1 K1
        refine wpPre_e rfl rfl (fun K1 hK1 => ?_)
        apply Exists.intro
        refine And.intro (fun wx hx => ?_) ?_
        · have e0 := below_fact hx rfl d0; have e1 := below_fact hx rfl d1; have e2 := below_fact hx rfl hc
          go_simp
          try rfl
        go_simp
        refine hK1 _ ?_
        clear hK1 K1
        refine wpPre_e rfl rfl (fun K1 hK1 => ?_)
        apply Exists.intro
        refine And.intro (fun wx hx => ?_) ?_
        · go_simp
          try rfl
        go_simp
        refine hK1 _ ?_
        clear hK1 K1
        refine wpPre_e rfl rfl (fun K1 hK1 => ?_)
        apply Exists.intro
        refine And.intro (fun wx hx => ?_) ?_
        · go_simp
          try rfl
        go_simp
        refine hK1 _ ?_
        clear hK1 K1
        refine wpPre_e rfl rfl (fun K1 hK1 => ?_)
        apply Exists.intro
        refine And.intro (fun wx hx => ?_) ?_
        · go_simp
          try rfl
        go_simp
        refine hK1 _ ?_
        clear hK1 K1
        refine wpPre_e rfl rfl (fun K1 hK1 => ?_)
        apply Exists.intro
        refine And.intro (fun wx hx => ?_) ?_
        · have e0 := below_fact hx rfl d0; have e1 := below_fact hx rfl d1; have e2 := below_fact hx rfl hc
          go_simp
          try rfl
        go_simp
        refine hK1 _ ?_
        clear hK1 K1
        refine wpPre_e rfl rfl (fun K1 hK1 => ?_)
        apply Exists.intro
        refine And.intro (fun wx hx => ?_) ?_
        · go_simp
          try rfl
        go_simp
        refine hK1 _ ?_
        clear hK1 K1
        refine wpPre_e rfl rfl (fun K1 hK1 => ?_)
        apply Exists.intro
        refine And.intro (fun wx hx => ?_) ?_
        · go_simp
          try rfl
        go_simp
        refine hK1 _ ?_
        clear hK1 K1
        refine wpPre_nil ?_
        refine wpSeq_nil ?_
        by_cases hlo : C < 128
        · have hlo' : (C : Int) < 128 := by omega
          have HR := hid (HG2.out.symm.trans (numG_lo hlo))
          rw [HOr.out] at HR
          by_cases hz : 0 < k ∧ C = 0
          · have hz1 : (0 : Int) < (k : Int) := by omega
            have hz2 : ((C : Int) == 0) = true := by simp [hz.2]
            have HF := hid (((HM.out.setE 41).setP ((p : Int) + (k : Int) + 1)).drew.drew)
            have HZk : Hid (Z = .error 41) := by unfold Hid; rw [HR.out, show decide (0 < k ∧ C = 0) = true from decide_eq_true hz]; rfl
            have c2 := (HM.out.setE 41).box.cell 1
            have g2 := (HM.out.setE 41).box.frozen 1
            simp at c2
            clear hz HR HM HG HG2
            go_wp2
            go_ret
            refine ⟨fun y R hy => (by rw [HZ.out, HZk.out] at hy; cases hy), fun e he => (by rw [HZ.out, HZk.out] at he; cases he; exact ⟨by decide, Y, _, HY2.out, by omega, by omega, by first | rfl | go_num, HF.out⟩)⟩
          · have hbd : decide (0 < k ∧ C = 0) = false := decide_eq_false hz
            rw [hbd] at HR
            clear hbd
            by_cases hmo : most < Y
            · have hmo' : (most : Int) < (Y : Int) := by omega
              have HF := hid (((HM.out.setE 43).setP ((p : Int) + (k : Int) + 1)).drew.drew)
              have HZk : Hid (Z = .error 43) := by unfold Hid; rw [HR.out]; unfold endS; rw [if_neg (by decide), if_pos hmo]; rfl
              have c2 := (HM.out.setE 43).box.cell 1
              have g2 := (HM.out.setE 43).box.frozen 1
              simp at c2
              clear HR HM HG HG2 hmo
              by_cases hC0 : C = 0
              · have hz2 : ((C : Int) == 0) = true := by simp [hC0]
                have hz1 : (k : Int) ≤ 0 := by omega
                clear hz hC0
                go_wp2
                all_goals first | (exfalso; omega) | skip
                go_ret
                refine ⟨fun y R hy => (by rw [HZ.out, HZk.out] at hy; cases hy), fun e he => (by rw [HZ.out, HZk.out] at he; cases he; exact ⟨by decide, Y, _, HY2.out, by omega, by omega, by first | rfl | go_num, HF.out⟩)⟩
              · have hz2 : ((C : Int) == 0) = false := by simpa using hC0
                clear hz hC0
                go_wp2
                go_ret
                refine ⟨fun y R hy => (by rw [HZ.out, HZk.out] at hy; cases hy), fun e he => (by rw [HZ.out, HZk.out] at he; cases he; exact ⟨by decide, Y, _, HY2.out, by omega, by omega, by first | rfl | go_num, HF.out⟩)⟩
            · have hmo' : ¬ (most : Int) < (Y : Int) := by omega
              have HF := hid ((HM.out.setP ((p : Int) + (k : Int) + 1)).drew.drew)
              have HZk : Hid (Z = .ok (Y, B.drop (p + k + 1))) := by unfold Hid; rw [HR.out]; unfold endS; rw [if_neg (by decide), if_neg hmo]; rfl
              have HPk : Hid ((p : Int) + (k : Int) + 1 = ((p + k + 1 : Nat) : Int)) := by unfold Hid; omega
              clear HR HM HG HG2 hmo
              by_cases hC0 : C = 0
              · have hz2 : ((C : Int) == 0) = true := by simp [hC0]
                have hz1 : (k : Int) ≤ 0 := by omega
                clear hz hC0
                go_wp2
                all_goals first | (exfalso; omega) | skip
                go_ret
                refine ⟨fun y R hy => (by rw [HZ.out, HZk.out] at hy; cases hy; exact ⟨p + k + 1, by omega, rfl, by omega, HY2.out, by first | rfl | go_num, by rw [← HPk.out]; exact HF.out⟩), fun e he => (by rw [HZ.out, HZk.out] at he; cases he)⟩
              · have hz2 : ((C : Int) == 0) = false := by simpa using hC0
                clear hz hC0
                go_wp2
                go_ret
                refine ⟨fun y R hy => (by rw [HZ.out, HZk.out] at hy; cases hy; exact ⟨p + k + 1, by omega, rfl, by omega, HY2.out, by first | rfl | go_num, by rw [← HPk.out]; exact HF.out⟩), fun e he => (by rw [HZ.out, HZk.out] at he; cases he)⟩
        · have hlo' : ¬ (C : Int) < 128 := by omega
          have HR := hid ((numG_hi (bound := most) (k := 4 - k) (i := k) (u := u) (R := B.drop (p + k + 1)) hlo).symm.trans HG2.out)
          rw [HOr.out] at HR
          have HF := hid (HM.out.drew.drew)
          clear HM HG HG2
          go_wp2
          go_roundw
          case rel => exact ⟨k + 1, Y, U2, by omega, by go_num, by go_num, by go_num, HU2.out, HYU.out, by omega, (by rw [show 5 - (k + 1) = 4 - k by omega, ← Nat.add_assoc]; exact HR.out), HF.out⟩
          case measure => simp [intOf]; omega
      · have hin' : (B.length : Int) ≤ (p : Int) + (k : Int) := by omega
        have HF := hid ((HM.out.setE 40).drew)
        have HZk : Hid (Z = .error 40) := by
          unfold Hid
          have h2 := HG.out
          rw [HE.out, List.drop_eq_nil_of_le (by omega)] at h2
          exact h2.symm
        clear HM HG
        go_wp2_with fail
        refine wp_region_calm 30 (fun wx => Below wr.heap.size wr wx) [(0, true), (1, true), (2, true), (3, false), (4, true), (5, true), (6, true), (7, true), (8, true), (9, false), (10, true), (11, true)] [] (by kernel_rfl) (by kernel_rfl) (Below.refl _ _).drew ?_
        refine wpPre_e rfl rfl (fun K1 hK1 => ?_)
        apply Exists.intro
        refine And.intro (fun wx hx => ?_) ?_
        · go_simp
          try rfl
        go_simp
        refine hK1 _ ?_
        clear hK1 K1
        refine wpPre_e rfl rfl (fun K1 hK1 => ?_)
        apply Exists.intro
        refine And.intro (fun wx hx => ?_) ?_
        · go_simp
          try rfl
        go_simp
        refine hK1 _ ?_
        clear hK1 K1
        refine wpPre_e rfl rfl (fun K1 hK1 => ?_)
        apply Exists.intro
        refine And.intro (fun wx hx => ?_) ?_
        · go_simp
          try rfl
        go_simp
        refine hK1 _ ?_
        clear hK1 K1
        refine wpPre_e rfl rfl (fun K1 hK1 => ?_)
        apply Exists.intro
        refine And.intro (fun wx hx => ?_) ?_
        · have e0 := below_fact hx rfl d0; have e1 := below_fact hx rfl d1
          go_simp
          try rfl
        go_simp
        refine hK1 _ ?_
        clear hK1 K1
        refine wpPre_e rfl rfl (fun K1 hK1 => ?_)
        apply Exists.intro
        refine And.intro (fun wx hx => ?_) ?_
        · go_simp
          try rfl
        go_simp
        refine hK1 _ ?_
        clear hK1 K1
        refine wpPre_e rfl rfl (fun K1 hK1 => ?_)
        apply Exists.intro
        refine And.intro (fun wx hx => ?_) ?_
        · go_simp
          try rfl
        go_simp
        refine hK1 _ ?_
        clear hK1 K1
        refine wpPre_e rfl rfl (fun K1 hK1 => ?_)
        apply Exists.intro
        refine And.intro (fun wx hx => ?_) ?_
        · go_simp
          try rfl
        go_simp
        refine hK1 _ ?_
        clear hK1 K1
        refine wpPre_e rfl rfl (fun K1 hK1 => ?_)
        apply Exists.intro
        refine And.intro (fun wx hx => ?_) ?_
        · go_simp
          try rfl
        go_simp
        refine hK1 _ ?_
        clear hK1 K1
        refine wpPre_e rfl rfl (fun K1 hK1 => ?_)
        apply Exists.intro
        refine And.intro (fun wx hx => ?_) ?_
        · go_simp
          try rfl
        go_simp
        refine hK1 _ ?_
        clear hK1 K1
        refine wpPre_e rfl rfl (fun K1 hK1 => ?_)
        apply Exists.intro
        refine And.intro (fun wx hx => ?_) ?_
        · have e0 := below_fact hx rfl d0; have e1 := below_fact hx rfl d1
          go_simp
          try rfl
        go_simp
        refine hK1 _ ?_
        clear hK1 K1
        refine wpPre_e rfl rfl (fun K1 hK1 => ?_)
        apply Exists.intro
        refine And.intro (fun wx hx => ?_) ?_
        · go_simp
          try rfl
        go_simp
        refine hK1 _ ?_
        clear hK1 K1
        refine wpPre_e rfl rfl (fun K1 hK1 => ?_)
        apply Exists.intro
        refine And.intro (fun wx hx => ?_) ?_
        · go_simp
          try rfl
        go_simp
        refine hK1 _ ?_
        clear hK1 K1
        refine wpPre_nil ?_
        refine wpSeq_nil ?_
        go_wp2
        go_ret
        refine ⟨fun y R hy => (by rw [HZ.out, HZk.out] at hy; cases hy), fun e he => (by rw [HZ.out, HZk.out] at he; cases he; exact ⟨by decide, 0, _, by omega, by omega, by omega, rfl, HF.out⟩)⟩
    · have h5' : ¬ (k : Int) < 5 := by omega
      have HF := hid (HM.out.setE 41)
      have HZk : Hid (Z = .error 41) := by
        unfold Hid
        have h2 := HG.out
        rw [show 5 - k = 0 by omega] at h2
        exact h2.symm
      clear HM HG
      go_wp2
      go_ret
      refine ⟨fun y R hy => (by rw [HZ.out, HZk.out] at hy; cases hy), fun e he => (by rw [HZ.out, HZk.out] at he; cases he; exact ⟨by decide, 0, _, by omega, by omega, by omega, rfl, HF.out⟩)⟩
end Go.Proofs.Ytikfpoabaaiegaa

namespace Go.Proofs.Ytikfpoabaaiegaa
open Go.RowKit
set_option maxRecDepth 8000
def bndOf (c : Nat) : Nat := if c = 97 then 3 else if c = 98 then 6 else if c = 99 then 64 else if c = 104 then 9 else if c = 105 then 9999 else if c = 107 then 12 else if c = 108 then 256 else if c = 110 then 1073741824 else if c = 112 then 4 else if c = 114 then 12 else if c = 116 then 11 else 65536
def pieceR (c : Nat) (g : Bg) : RS Bg :=
  if 65 ≤ c ∧ c ≤ 90 then bindS (firstS (c : Int)) fun _ => retS g
  else if c = 107 then bindS keyS fun k => retS ⟨g.N, g.K ++ [k], g.V⟩
  else if c = 118 then bindS valS fun v => retS ⟨g.N, g.K, g.V ++ [v]⟩
  else if c = 119 then bindS wordS fun n => retS ⟨g.N ++ [(n : Int)], g.K, g.V⟩
  else bindS (numS (bndOf c)) fun n => retS ⟨g.N ++ [(n : Int)], g.K, g.V⟩
def VAl (V V' : List VT) : Prop := V'.length = V.length ∧ ∀ (j : Nat) (x x' : VT), V[j]? = some x → V'[j]? = some x' → VT.Alike x x'
theorem VAl.nil : VAl [] [] := ⟨rfl, fun j x x' h => by simp at h⟩
theorem VAl.snoc {V V' : List VT} {x x' : VT} (h : VAl V V') (hx : VT.Alike x x') : VAl (V ++ [x]) (V' ++ [x']) := by
  refine ⟨by simp [h.1], fun j y y' hy hy' => ?_⟩
  rcases Nat.lt_or_ge j V.length with hj | hj
  · rw [List.getElem?_append_left hj] at hy
    rw [List.getElem?_append_left (by rw [h.1]; exact hj)] at hy'
    exact h.2 j y y' hy hy'
  · rw [List.getElem?_append_right hj] at hy
    rw [List.getElem?_append_right (by rw [h.1]; exact hj)] at hy'
    rw [h.1] at hy'
    cases hk : j - V.length with
    | zero =>
      rw [hk] at hy hy'
      simp at hy hy'
      rw [← hy, ← hy']
      exact hx
    | succ n => rw [hk] at hy; simp at hy
def GMv (w0 : World) (rb : Nat) (w : World) (bv : Value) (pa ea : Int) (g : Bg) : Prop := ∃ a b c V', GM w0 rb w bv pa ea a b c g.N g.K V' ∧ VAl g.V V'
structure Few_ (g : Bg) (p : Nat) : Prop where
  N : g.N.length ≤ p
  K : g.K.length ≤ p
  V : g.V.length ≤ p
def PcP (s : RS Bg) (w0 : World) (rb : Nat) (bv : Value) (B : List Int) (p : Nat) (x : Ending) (w' : World) : Prop :=
  x = .returned (.tuple #[]) ∧ StP s B p (fun g p' w' => p < p' ∧ GMv w0 rb w' bv (p' : Int) 0 g) (fun k w' => ∃ pa g, GMv w0 rb w' bv pa (k : Int) g) w'
end Go.Proofs.Ytikfpoabaaiegaa

namespace Go.Proofs.Ytikfpoabaaiegaa
open Go.RowKit
set_option maxRecDepth 8000
set_option maxHeartbeats 4000000 in
theorem refBound_any (c : Nat) (w : World) : Calls Try.prog 141 #[.int .u8 (c : Int)] w fun x w' => x = .returned (.int .i64 (bndOf c : Int)) ∧ w' = w := by
  by_cases h97 : c = 97
  · subst h97
    go_enter Try.func141, Try.ntmps141
    go_wp2
    go_ret
    exact ⟨rfl, rfl⟩
  by_cases h98 : c = 98
  · subst h98
    go_enter Try.func141, Try.ntmps141
    go_wp2
    go_ret
    exact ⟨rfl, rfl⟩
  by_cases h99 : c = 99
  · subst h99
    go_enter Try.func141, Try.ntmps141
    go_wp2
    go_ret
    exact ⟨rfl, rfl⟩
  by_cases h104 : c = 104
  · subst h104
    go_enter Try.func141, Try.ntmps141
    go_wp2
    go_ret
    exact ⟨rfl, rfl⟩
  by_cases h105 : c = 105
  · subst h105
    go_enter Try.func141, Try.ntmps141
    go_wp2
    go_ret
    exact ⟨rfl, rfl⟩
  by_cases h107 : c = 107
  · subst h107
    go_enter Try.func141, Try.ntmps141
    go_wp2
    go_ret
    exact ⟨rfl, rfl⟩
  by_cases h108 : c = 108
  · subst h108
    go_enter Try.func141, Try.ntmps141
    go_wp2
    go_ret
    exact ⟨rfl, rfl⟩
  by_cases h110 : c = 110
  · subst h110
    go_enter Try.func141, Try.ntmps141
    go_wp2
    go_ret
    exact ⟨rfl, rfl⟩
  by_cases h112 : c = 112
  · subst h112
    go_enter Try.func141, Try.ntmps141
    go_wp2
    go_ret
    exact ⟨rfl, rfl⟩
  by_cases h114 : c = 114
  · subst h114
    go_enter Try.func141, Try.ntmps141
    go_wp2
    go_ret
    exact ⟨rfl, rfl⟩
  by_cases h116 : c = 116
  · subst h116
    go_enter Try.func141, Try.ntmps141
    go_wp2
    go_ret
    exact ⟨rfl, rfl⟩
  have e : Hid (bndOf c = 65536) := by unfold Hid bndOf; simp [*]
  have k97 : ((c : Int) == 97) = false := by simp; omega
  have k98 : ((c : Int) == 98) = false := by simp; omega
  have k99 : ((c : Int) == 99) = false := by simp; omega
  have k104 : ((c : Int) == 104) = false := by simp; omega
  have k105 : ((c : Int) == 105) = false := by simp; omega
  have k107 : ((c : Int) == 107) = false := by simp; omega
  have k108 : ((c : Int) == 108) = false := by simp; omega
  have k110 : ((c : Int) == 110) = false := by simp; omega
  have k112 : ((c : Int) == 112) = false := by simp; omega
  have k114 : ((c : Int) == 114) = false := by simp; omega
  have k116 : ((c : Int) == 116) = false := by simp; omega
  clear h97 h98 h99 h104 h105 h107 h108 h110 h112 h114 h116
  go_enter Try.func141, Try.ntmps141
  go_wp2
  go_ret
  exact ⟨by rw [e.out]; rfl, rfl⟩
theorem bndOf_le (c : Nat) : bndOf c ≤ 1073741824 := by
  unfold bndOf
  repeat' split
  all_goals omega
end Go.Proofs.Ytikfpoabaaiegaa

namespace Go.Proofs.Ytikfpoabaaiegaa
open Go.RowKit
set_option maxRecDepth 8000

abbrev Stg := Nat × Bool × List (Nat × Bool)
def stIdx (st : List Stg) : List Nat := st.flatMap fun s => s.1 :: s.2.2.map (·.1)
def stPre (st : List Stg) : List (Nat × Bool) := st.flatMap fun s => s.2.2
def wpStg (P : Program) (ops : Array Oper) (Q : Exit → Act → World → Prop) (C : World → Prop) : List Stg → Act → World → Prop
  | [], a, w => Q .normal a w
  | (m, b, p) :: r, a, w => wpOp P ops (Qn Q) m (fun a w => (b = true → C w) ∧ wpPre P ops C p (fun a => wpStg P ops Q C r a w) a) a w
def stB (ops : Array Oper) (f : Nat) : List (Nat × Bool) → List Stg → Bool
  | _, [] => true
  | pre, (m, b, p) :: r => pre.all (fun x => (apB ops x.1 m && (x.2 || b)) || reachB ops f m x.1) && (p.map (·.1) ++ stIdx r).all (fun z => reachB ops f z m) && p.all (fun x => x.2 || b) && stB ops f (pre ++ p) r
def calmD (ops : Array Oper) (f : Nat) (pre : List (Nat × Bool)) (st : List Stg) : Bool :=
  Region.noSelect ops && acB ops && pairsB (fun i j => i != j) (pre.map (·.1) ++ stIdx st) &&
  (List.range ops.size).all (fun j => (pre.map (·.1) ++ stIdx st).contains j) && (pre.map (·.1) ++ stIdx st).all (fun j => decide (j < ops.size)) &&
  pairsB (fun i j => apB ops i j || reachB ops f j i) ((pre ++ stPre st).map (·.1)) && stB ops f pre st

section
variable {P : Program} {ops : Array Oper} {Q : Exit → Act → World → Prop} {C : World → Prop}
theorem wpPre_app (K : Act → Prop) : ∀ (p q : List (Nat × Bool)) (a : Act), wpPre P ops C p (fun a => wpPre P ops C q K a) a → wpPre P ops C (p ++ q) K a
  | [], _, _, h => h
  | _ :: p, q, _, ⟨o, v, ho, hy, h⟩ => ⟨o, v, ho, hy, wpPre_app K p q _ h⟩
theorem wpPre_and {A : Prop} (K : Act → Prop) : ∀ (p : List (Nat × Bool)) (a : Act), wpPre P ops C p (fun a => A ∧ K a) a → A ∧ wpPre P ops C p K a
  | [], _, h => h
  | _ :: p, _, ⟨o, v, ho, hy, h⟩ => ⟨(wpPre_and K p _ h).1, o, v, ho, hy, (wpPre_and K p _ h).2⟩

structure CalmD (P : Program) (ops : Array Oper) (Q : Exit → Act → World → Prop) (C : World → Prop) (f : Nat) (T : List (Nat × Bool)) (D : Nat → Prop) (a : Act) (w : World) (pre' : List (Nat × Bool)) (st' : List Stg) (P' : List (Nat × Bool)) : Prop where
  tot : P' ++ stPre st' = T
  sp : pre'.Sublist P'
  sb : stB ops f P' st' = true
  nd : (pre'.map (·.1) ++ stIdx st').Pairwise (fun i j => (i != j) = true)
  mem : ∀ j, (j ∈ pre'.map (·.1) ∨ j ∈ stIdx st') ↔ (j < ops.size ∧ ¬ D j)
  wc : C w ∨ ∀ x ∈ pre', x.2 = true
  cl : ∀ (j : Nat) (o : Oper), ops[j]? = some o → D j → ∀ e ∈ o.after, Region.binds .any e = true → D e.on
  wp : wpPre P ops C pre' (fun a => wpStg P ops Q C st' a w) a

theorem wp_region_calmD {rid : Nat} {a : Act} {w : World} (f : Nat) (C : World → Prop) (pre : List (Nat × Bool)) (st : List Stg) (hm : P.follows .mixedOrders = true) (hB : calmD ops f pre st = true) (hC : C w.drew)
    (h : wpPre P ops C pre (fun a => wpStg P ops Q C st a w.drew) a) : (Code.region rid ops true).wp P Q a w := by
  simp only [calmD, Bool.and_eq_true] at hB
  obtain ⟨⟨⟨⟨⟨⟨hsel, hac⟩, hnd⟩, hcov⟩, hlt⟩, hpp⟩, hsb⟩ := hB
  have hnd := pairsB_spec hnd
  have hpp := pairsB_spec hpp
  simp only [List.all_eq_true] at hcov hlt
  refine wp_region_inv hm (fun D a w => ∃ pre' st' P', CalmD P ops Q C f (pre ++ stPre st) D a w pre' st' P') ?_ hac ?_ ?_ ?_
  · rintro D D' a w hD ⟨p, s, r, hk⟩
    have e : D = D' := funext fun j => propext (hD j)
    subst e
    exact ⟨p, s, r, hk⟩
  · intro D hD
    refine ⟨pre, st, pre, rfl, .refl _, hsb, hnd, fun j => ⟨fun hj => ⟨?_, hD j⟩, fun hj => ?_⟩, .inl hC, fun j o _ hj => absurd hj (hD j), h⟩
    · exact of_decide_eq_true (hlt j (List.mem_append.2 hj))
    · exact List.mem_append.1 (List.contains_iff_mem.1 (hcov j (List.mem_range.2 hj.1)))
  · rintro D a w ⟨p, s, P', hk⟩ i o ho hnD hdep
    have hil : i < ops.size := (Array.getElem?_eq_some_iff.1 ho).1
    have hnot : ∀ x, (x ∈ p.map (·.1) ∨ x ∈ stIdx s) → reachB ops f i x = true → False := fun x hx hr =>
      ((hk.mem x).1 hx).2 (reach_done hk.cl f i x hr (fun o' ho' => by obtain rfl := Option.some.inj (ho.symm.trans ho'); exact hdep))
    have hcl' : ∀ (j : Nat) (o : Oper), ops[j]? = some o → (D j ∨ j = i) → ∀ e ∈ o.after, Region.binds .any e = true → (D e.on ∨ e.on = i) := by
      intro j o' ho' hj e he hb
      rcases hj with hj | rfl
      · exact .inl (hk.cl j o' ho' hj e he hb)
      · obtain rfl := Option.some.inj (ho.symm.trans ho')
        exact .inl (hdep e he hb)
    rcases (hk.mem i).2 ⟨hil, hnD⟩ with hi | hi
    · obtain ⟨⟨i0, b⟩, hx, hx0⟩ := List.mem_map.1 hi
      obtain rfl : i0 = i := hx0
      obtain ⟨l1, l2, rfl⟩ := List.append_of_mem hx
      have hap : ∀ x ∈ l1, apB ops x.1 i0 = true := by
        intro x hx
        have hT : (l1 ++ (i0, b) :: l2).Sublist (pre ++ stPre st) := by rw [← hk.tot]; exact hk.sp.trans (List.sublist_append_left _ _)
        have h1 := hpp.sublist (hT.map (·.1))
        rw [List.map_append, List.map_cons, List.pairwise_append] at h1
        have h2 := h1.2.2 x.1 (List.mem_map_of_mem hx) i0 (by simp)
        simp only [Bool.or_eq_true] at h2
        rcases h2 with h2 | h2
        · exact h2
        · exact (hnot x.1 (.inl (by rw [List.map_append, List.mem_append]; exact .inl (List.mem_map_of_mem hx))) h2).elim
      obtain ⟨oi, v, hoi, hy, h'⟩ := wpPre_move hsel i0 b l2 _ l1 a hap hk.wp
      obtain rfl := Option.some.inj (ho.symm.trans hoi)
      have hcw : cls C b w := by
        rcases hk.wc with h1 | h1
        · exact .inr h1
        · exact .inl (h1 (i0, b) (by simp))
      have hsub : (l1 ++ l2).Sublist (l1 ++ (i0, b) :: l2) := List.Sublist.append_left (List.sublist_cons_self _ _) l1
      have hni : ∀ j, j ∈ (l1 ++ l2).map (·.1) ∨ j ∈ stIdx s → j ≠ i0 := by
        intro j hj
        have hnd' := hk.nd
        rw [List.map_append, List.map_cons, List.append_assoc, List.pairwise_append] at hnd'
        obtain ⟨-, h2, h3⟩ := hnd'
        rw [List.cons_append, List.pairwise_cons] at h2
        rw [List.map_append, List.mem_append] at hj
        rcases hj with (hj | hj) | hj
        · have := h3 j hj i0 (by simp); simpa using this
        · have := h2.1 j (List.mem_append.2 (.inl hj)); exact fun e => by subst e; simp at this
        · have := h2.1 j (List.mem_append.2 (.inr hj)); exact fun e => by subst e; simp at this
      have hnew : CalmD P ops Q C f (pre ++ stPre st) (fun j => D j ∨ j = i0) (a.put o.dst v) w (l1 ++ l2) s P' := by
        refine ⟨hk.tot, hsub.trans hk.sp, hk.sb, hk.nd.sublist ((hsub.map _).append (.refl _)), fun j => ?_, hk.wc.imp id (fun h1 x hx => h1 x (hsub.subset hx)), hcl', h'⟩
        constructor
        · intro hj
          have h1 := (hk.mem j).1 (by rcases hj with hj | hj
                                      · left; exact (hsub.map _).subset hj
                                      · exact .inr hj)
          exact ⟨h1.1, fun h2 => h2.elim h1.2 (hni j hj)⟩
        · rintro ⟨h1, h2⟩
          have h3 := (hk.mem j).2 ⟨h1, fun h4 => h2 (.inl h4)⟩
          rcases h3 with h3 | h3
          · left
            rw [List.map_append, List.mem_append] at h3 ⊢
            rw [List.map_cons, List.mem_cons] at h3
            rcases h3 with h3 | h3 | h3
            · exact .inl h3
            · exact absurd (.inr h3) h2
            · exact .inr h3
          · exact .inr h3
      unfold wpOp
      simp only [ho]
      rcases hy with ⟨hw, hv⟩ | ⟨hw, rfl⟩
      · rw [if_pos hw]
        left
        unfold Oper.wp
        rw [hv w hcw]
        exact ⟨_, _, _, hnew⟩
      · rw [if_neg (by rw [hw]; simp)]
        exact ⟨_, _, _, hnew⟩
    · cases s with
      | nil => cases hi
      | cons y r =>
        obtain ⟨m, b, q⟩ := y
        have hsb' := hk.sb
        simp only [stB, Bool.and_eq_true, List.all_eq_true] at hsb'
        obtain ⟨⟨⟨hb1, hb2⟩, hb4⟩, hb3⟩ := hsb'
        have hmem : stIdx ((m, b, q) :: r) = m :: (q.map (·.1) ++ stIdx r) := by simp [stIdx]
        rw [hmem, List.mem_cons] at hi
        have him : i = m := by
          rcases hi with h1 | h1
          · exact h1
          · exact (hnot m (.inr (by rw [hmem]; simp)) (hb2 i h1)).elim
        subst him
        have hboth : ∀ x ∈ p, apB ops x.1 i = true ∧ (x.2 = true ∨ b = true) := by
          intro x hx
          have h1 := hb1 x (hk.sp.subset hx)
          simp only [Bool.or_eq_true, Bool.and_eq_true] at h1
          rcases h1 with h1 | h1
          · exact h1
          · exact (hnot x.1 (.inl (List.mem_map_of_mem hx)) h1).elim
        have h1 := wpOp_Qn (wpPre_past (w := w) (Q := Q) hsel ho _ p a (fun x hx => (hboth x hx).1) hk.wp)
        refine wpOp_mono (fun a' w' h2 => ?_) h1
        obtain ⟨h3, h4⟩ := wpPre_and _ p a' h2
        have hnd' := hk.nd
        rw [hmem] at hnd'
        have hni : ∀ j, j ∈ (p ++ q).map (·.1) ∨ j ∈ stIdx r → j ≠ i := by
          intro j hj
          rw [List.pairwise_append] at hnd'
          obtain ⟨-, h5, h6⟩ := hnd'
          rw [List.pairwise_cons] at h5
          rw [List.map_append, List.mem_append] at hj
          rcases hj with (hj | hj) | hj
          · have := h6 j hj i (by simp); simpa using this
          · have := h5.1 j (List.mem_append.2 (.inl hj)); exact fun e => by subst e; simp at this
          · have := h5.1 j (List.mem_append.2 (.inr hj)); exact fun e => by subst e; simp at this
        refine ⟨p ++ q, r, P' ++ q, ?_, hk.sp.append (.refl _), hb3, ?_, fun j => ?_, ?_, hcl', wpPre_app _ p q a' h4⟩
        · rw [← hk.tot]; simp [stPre]
        · rw [List.map_append, List.append_assoc]
          exact hnd'.sublist ((List.Sublist.refl _).append (List.sublist_cons_self _ _))
        · constructor
          · intro hj
            have h5 := (hk.mem j).1 (by
              rw [hmem]
              rw [List.map_append, List.mem_append] at hj
              rcases hj with (hj | hj) | hj
              · exact .inl hj
              · exact .inr (List.mem_cons_of_mem _ (List.mem_append.2 (.inl hj)))
              · exact .inr (List.mem_cons_of_mem _ (List.mem_append.2 (.inr hj))))
            exact ⟨h5.1, fun h6 => h6.elim h5.2 (hni j hj)⟩
          · rintro ⟨h5, h6⟩
            have h7 := (hk.mem j).2 ⟨h5, fun h8 => h6 (.inl h8)⟩
            rw [hmem] at h7
            rw [List.map_append, List.mem_append]
            rcases h7 with h7 | h7
            · exact .inl (.inl h7)
            · rcases List.mem_cons.1 h7 with h7 | h7
              · exact absurd (.inr h7) h6
              · rcases List.mem_append.1 h7 with h7 | h7
                · exact .inl (.inr h7)
                · exact .inr h7
        · by_cases hb : b = true
          · exact .inl (h3 hb)
          · right
            intro x hx
            rcases List.mem_append.1 hx with hx | hx
            · exact (hboth x hx).2.resolve_right hb
            · have h9 := hb4 x hx
              simp only [Bool.or_eq_true] at h9
              exact h9.resolve_right hb
  · rintro D a w ⟨p, s, P', hk⟩ hall
    have hp : p = [] := by
      cases p with
      | nil => rfl
      | cons x p => have h1 := (hk.mem x.1).1 (.inl (by simp)); exact absurd (hall _ h1.1) h1.2
    have hs : s = [] := by
      cases s with
      | nil => rfl
      | cons x s => have h1 := (hk.mem x.1).1 (.inr (by simp [stIdx])); exact absurd (hall _ h1.1) h1.2
    subst hp
    subst hs
    exact hk.wp
theorem wpPre_i {i : Nat} {b : Bool} {r : List (Nat × Bool)} {K : Act → Prop} {a : Act} {o : Oper} (ho : ops[i]? = some o)
    (h : ∀ K' : Act → Prop, (∀ a, wpPre P ops C r K a → K' a) → if Region.wanted o (yielded ops a.tmps) = true then ∃ v, (∀ w, cls C b w → (execOp a.eval o).run P w = .ok (.value v) w) ∧ K' (a.put o.dst v) else K' (a.put o.dst undef)) : wpPre P ops C ((i, b) :: r) K a := by
  have h1 := h _ (fun _ h => h)
  by_cases hw : Region.wanted o (yielded ops a.tmps) = true
  · rw [if_pos hw] at h1
    obtain ⟨v, hy, hk⟩ := h1
    exact ⟨o, v, ho, .inl ⟨hw, hy⟩, hk⟩
  · rw [if_neg hw] at h1
    exact ⟨o, undef, ho, .inr ⟨by simpa using hw, rfl⟩, h1⟩
theorem wpStg_nil {a : Act} {w : World} (h : Q .normal a w) : wpStg P ops Q C [] a w := h
theorem wpStg_e {m : Nat} {b : Bool} {p : List (Nat × Bool)} {r : List Stg} {a : Act} {w : World} {o : Oper} (ho : ops[m]? = some o)
    (h : ∀ K' : Act → World → Prop, (∀ a w, (b = true → C w) → wpPre P ops C p (fun a => wpStg P ops Q C r a w) a → K' a w) → if Region.wanted o (yielded ops a.tmps) = true then Oper.wp P o a w K' (Qn Q) else K' (a.put o.dst undef) w) : wpStg P ops Q C ((m, b, p) :: r) a w := by
  have h1 := h (fun a w => (b = true → C w) ∧ wpPre P ops C p (fun a => wpStg P ops Q C r a w) a) (fun _ _ h1 h2 => ⟨h1, h2⟩)
  show wpOp P ops (Qn Q) m _ a w
  unfold wpOp
  simp only [ho]
  split
  · rename_i hw
    rw [if_pos hw] at h1
    exact .inl h1
  · rename_i hw
    rw [if_neg hw] at h1
    exact h1
end
end Go.Proofs.Ytikfpoabaaiegaa

namespace Go.Proofs.Ytikfpoabaaiegaa
open Go.RowKit
set_option maxRecDepth 8000
theorem first_at {B : List Int} {p : Nat} (h : p < B.length) (c : Int) : firstS c (B.drop p) = if B.getD p 0 = c then .ok ((), B.drop (p + 1)) else .error 41 := by
  rw [drop_getD h]
  generalize B.getD p 0 = y
  generalize B.drop (p + 1) = R
  by_cases hq : y = c
  · subst hq; simp [firstS, bindS, takeS, retS]
  · simp [firstS, bindS, takeS, hq, failS]
theorem first_end {B : List Int} {p : Nat} (h : B.length ≤ p) (c : Int) : firstS c (B.drop p) = .error 40 := by
  rw [List.drop_eq_nil_of_le h]
  rfl
set_option maxHeartbeats 8000000 in
theorem refPiece_cap {w0 : World} {rb : Nat} {w : World} {bp : Option Addr} {bc : Nat} {S : Nat → Prop} {B : List Int} {p : Nat} {g : Bg} (hB : GB w0 rb S bp bc B) (h : GMv w0 rb w (.slice bp B.length bc) (p : Int) 0 g) (hp : p ≤ B.length) (hf : Few_ g p) {c : Nat} (c1 : 65 ≤ c) (c2 : c ≤ 90) : Calls Try.prog 116 #[.pointer (some ⟨rb, 0, none⟩), .int .u8 (c : Int)] w fun x w' => PcP (pieceR c g) w0 rb (.slice bp B.length bc) B p x w' := by
  obtain ⟨a, b, cc, V', h, hv⟩ := h
  have hlen := hB.len
  have HBB := hid hB
  have HM := hid h
  have HV := hid hv
  have HP := hid (And.intro hp hf)
  have hws := h.box.lt
  have d0 := h.box.cell 0
  have d1 := h.box.cell 1
  have d2 := h.box.cell 2
  have g1 := h.box.frozen 1
  have g2 := h.box.frozen 2
  simp at d0 d1 d2
  have hpb : (p : Int) ≤ 1000000 := by omega
  have hsub : IntKind.i64.wrap ((B.length : Int) - (p : Int)) = (B.length : Int) - (p : Int) := by rw [IntKind.wrap_i64]; omega
  have k1 : (65 : Int) ≤ (c : Int) := by omega
  have k2 : (c : Int) ≤ 90 := by omega
  have HPc : Hid (pieceR c g (B.drop p) = bindS (firstS (c : Int)) (fun _ => retS g) (B.drop p)) := by unfold Hid pieceR; rw [if_pos ⟨c1, c2⟩]
  by_cases hin : p < B.length
  · have hin' : ¬ (B.length : Int) - (p : Int) < 1 := by omega
    have hin2 : (p : Int) < (B.length : Int) := by omega
    obtain ⟨gb, go, hbp, hc, hf0, hf1, hgb⟩ := hB.cell h.below hin
    obtain ⟨C, hC⟩ := Int.eq_ofNat_of_zero_le hf0
    rw [hC] at hc
    subst hbp
    have HC := hid hC
    have HFi := hid (first_at hin (c : Int))
    clear hB h hv hp hf hC hf0 hf1
    go_enter Try.func116, Try.ntmps116
    go_wp2_with fail
    refine wp_region_calmD 30 (fun wx => Below w.heap.size w wx) [(0, true), (1, true), (2, true), (3, false), (4, true), (5, true), (6, true), (7, true), (8, false), (9, true), (10, true)] [] (by kernel_rfl) (by kernel_rfl) (Below.refl _ _).drew ?_
    refine wpPre_e rfl rfl (fun K1 hK1 => ?_)
    apply Exists.intro
    refine And.intro (fun wx hx => ?_) ?_
    · go_simp
      try rfl
    go_simp
    refine hK1 _ ?_
    clear hK1 K1
    refine wpPre_e rfl rfl (fun K1 hK1 => ?_)
    apply Exists.intro
    refine And.intro (fun wx hx => ?_) ?_
    · go_simp
      try rfl
    go_simp
    refine hK1 _ ?_
    clear hK1 K1
    refine wpPre_e rfl rfl (fun K1 hK1 => ?_)
    apply Exists.intro
    refine And.intro (fun wx hx => ?_) ?_
    · go_simp
      try rfl
    go_simp
    refine hK1 _ ?_
    clear hK1 K1
    refine wpPre_e rfl rfl (fun K1 hK1 => ?_)
    apply Exists.intro
    refine And.intro (fun wx hx => ?_) ?_
    · have e0 := below_fact hx rfl d0
      have e1 := below_fact hx rfl d1
      go_simp
      try rfl
    go_simp
    refine hK1 _ ?_
    clear hK1 K1
    refine wpPre_e rfl rfl (fun K1 hK1 => ?_)
    apply Exists.intro
    refine And.intro (fun wx hx => ?_) ?_
    · go_simp
      try rfl
    go_simp
    refine hK1 _ ?_
    clear hK1 K1
    refine wpPre_e rfl rfl (fun K1 hK1 => ?_)
    apply Exists.intro
    refine And.intro (fun wx hx => ?_) ?_
    · go_simp
      try rfl
    go_simp
    refine hK1 _ ?_
    clear hK1 K1
    refine wpPre_e rfl rfl (fun K1 hK1 => ?_)
    apply Exists.intro
    refine And.intro (fun wx hx => ?_) ?_
    · go_simp
      try rfl
    go_simp
    refine hK1 _ ?_
    clear hK1 K1
    refine wpPre_e rfl rfl (fun K1 hK1 => ?_)
    apply Exists.intro
    refine And.intro (fun wx hx => ?_) ?_
    · go_simp
      try rfl
    go_simp
    refine hK1 _ ?_
    clear hK1 K1
    refine wpPre_e rfl rfl (fun K1 hK1 => ?_)
    apply Exists.intro
    refine And.intro (fun wx hx => ?_) ?_
    · have e0 := below_fact hx rfl d0
      have e1 := below_fact hx rfl d1
      go_simp
      try rfl
    go_simp
    refine hK1 _ ?_
    clear hK1 K1
    refine wpPre_e rfl rfl (fun K1 hK1 => ?_)
    apply Exists.intro
    refine And.intro (fun wx hx => ?_) ?_
    · go_simp
      try rfl
    go_simp
    refine hK1 _ ?_
    clear hK1 K1
    refine wpPre_e rfl rfl (fun K1 hK1 => ?_)
    apply Exists.intro
    refine And.intro (fun wx hx => ?_) ?_
    · go_simp
      try rfl
    go_simp
    refine hK1 _ ?_
    clear hK1 K1
    refine wpPre_nil ?_
    refine wpStg_nil ?_
    go_wp2_with fail
    refine wp_region_calmD 30 (fun wx => Below w.heap.size w wx) [(0, true), (1, true), (2, true), (3, false), (4, true), (5, true), (6, true), (7, false), (8, true), (9, false), (10, true), (11, true)] [] (by kernel_rfl) (by kernel_rfl) (Below.refl _ _).drew.drew ?_
    refine wpPre_e rfl rfl (fun K1 hK1 => ?_)
    apply Exists.intro
    refine And.intro (fun wx hx => ?_) ?_
    · go_simp
      try rfl
    go_simp
    refine hK1 _ ?_
    clear hK1 K1
    refine wpPre_e rfl rfl (fun K1 hK1 => ?_)
    apply Exists.intro
    refine And.intro (fun wx hx => ?_) ?_
    · go_simp
      try rfl
    go_simp
    refine hK1 _ ?_
    clear hK1 K1
    refine wpPre_e rfl rfl (fun K1 hK1 => ?_)
    apply Exists.intro
    refine And.intro (fun wx hx => ?_) ?_
    · go_simp
      try rfl
    go_simp
    refine hK1 _ ?_
    clear hK1 K1
    refine wpPre_e rfl rfl (fun K1 hK1 => ?_)
    apply Exists.intro
    refine And.intro (fun wx hx => ?_) ?_
    · have e0 := below_fact hx rfl d0
      have e1 := below_fact hx rfl d1
      have e2 := below_fact hx rfl hc
      go_simp
      try rfl
    go_simp
    refine hK1 _ ?_
    clear hK1 K1
    refine wpPre_e rfl rfl (fun K1 hK1 => ?_)
    apply Exists.intro
    refine And.intro (fun wx hx => ?_) ?_
    · go_simp
      try rfl
    go_simp
    refine hK1 _ ?_
    clear hK1 K1
    refine wpPre_e rfl rfl (fun K1 hK1 => ?_)
    apply Exists.intro
    refine And.intro (fun wx hx => ?_) ?_
    · go_simp
      try rfl
    go_simp
    refine hK1 _ ?_
    clear hK1 K1
    refine wpPre_e rfl rfl (fun K1 hK1 => ?_)
    apply Exists.intro
    refine And.intro (fun wx hx => ?_) ?_
    · go_simp
      try rfl
    go_simp
    refine hK1 _ ?_
    clear hK1 K1
    refine wpPre_e rfl rfl (fun K1 hK1 => ?_)
    apply Exists.intro
    refine And.intro (fun wx hx => ?_) ?_
    · have e0 := below_fact hx rfl d0
      have e1 := below_fact hx rfl d1
      have e2 := below_fact hx rfl hc
      go_simp
      try rfl
    go_simp
    refine hK1 _ ?_
    clear hK1 K1
    refine wpPre_e rfl rfl (fun K1 hK1 => ?_)
    apply Exists.intro
    refine And.intro (fun wx hx => ?_) ?_
    · go_simp
      try rfl
    go_simp
    refine hK1 _ ?_
    clear hK1 K1
    refine wpPre_e rfl rfl (fun K1 hK1 => ?_)
    apply Exists.intro
    refine And.intro (fun wx hx => ?_) ?_
    · have e0 := below_fact hx rfl d0
      have e1 := below_fact hx rfl d1
      have e2 := below_fact hx rfl hc
      go_simp
      try rfl
    go_simp
    refine hK1 _ ?_
    clear hK1 K1
    refine wpPre_e rfl rfl (fun K1 hK1 => ?_)
    apply Exists.intro
    refine And.intro (fun wx hx => ?_) ?_
    · go_simp
      try rfl
    go_simp
    refine hK1 _ ?_
    clear hK1 K1
    refine wpPre_e rfl rfl (fun K1 hK1 => ?_)
    apply Exists.intro
    refine And.intro (fun wx hx => ?_) ?_
    · go_simp
      try rfl
    go_simp
    refine hK1 _ ?_
    clear hK1 K1
    refine wpPre_nil ?_
    refine wpStg_nil ?_
    by_cases he : C = c
    · have he' : ((C : Int) != (c : Int)) = false := by simp [he]
      have HF := hid ((HM.out.setP ((p : Int) + 1)).drew.drew)
      have HS : Hid (pieceR c g (B.drop p) = .ok (g, B.drop (p + 1))) := by
        unfold Hid
        rw [HPc.out]
        unfold bindS
        rw [HFi.out, if_pos (by rw [HC.out, he])]
        rfl
      have HPk : Hid ((p : Int) + 1 = ((p + 1 : Nat) : Int)) := by unfold Hid; omega
      clear he HM HPc HFi
      go_wp2
      refine bodyPost_end (results_none rfl _ _ _) rfl ?_
      refine ⟨rfl, fun y R hy => (by rw [HS.out] at hy; cases hy; exact ⟨p + 1, by omega, rfl, by omega, a, b, cc, V', by rw [← HPk.out]; exact HF.out, HV.out⟩), fun e he => (by rw [HS.out] at he; cases he)⟩
    · have he' : ((C : Int) != (c : Int)) = true := by simp; omega
      have HF := hid (((HM.out.setE 41).setP ((p : Int) + 1)).drew.drew)
      have HS : Hid (pieceR c g (B.drop p) = .error 41) := by
        unfold Hid
        rw [HPc.out]
        unfold bindS
        rw [HFi.out, if_neg (by rw [HC.out]; omega)]
      have c3 := (HM.out.setE 41).box.cell 1
      have g3 := (HM.out.setE 41).box.frozen 1
      simp at c3
      clear he HM HPc HFi
      go_wp2
      refine bodyPost_end (results_none rfl _ _ _) rfl ?_
      refine ⟨rfl, fun y R hy => (by rw [HS.out] at hy; cases hy), fun e he => (by rw [HS.out] at he; cases he; exact ⟨by decide, _, g, a, b, cc, V', HF.out, HV.out⟩)⟩
  · have hin' : (B.length : Int) - (p : Int) < 1 := by omega
    have HF := hid (((HM.out.setE 40).setP ((p : Int) + 1)).drew)
    have HS : Hid (pieceR c g (B.drop p) = .error 40) := by
      unfold Hid
      rw [HPc.out]
      unfold bindS
      rw [first_end (by omega)]
    have c3 := (HM.out.setE 40).box.cell 1
    have g3 := (HM.out.setE 40).box.frozen 1
    simp at c3
    clear hB h hv hp hf HM HPc
    go_enter Try.func116, Try.ntmps116
    go_wp2_with fail
    refine wp_region_calmD 30 (fun wx => Below w.heap.size w wx) [(0, true), (1, true), (2, true), (3, false), (4, true), (5, true), (6, true), (7, true), (8, false), (9, true), (10, true)] [] (by kernel_rfl) (by kernel_rfl) (Below.refl _ _).drew ?_
    refine wpPre_e rfl rfl (fun K1 hK1 => ?_)
    apply Exists.intro
    refine And.intro (fun wx hx => ?_) ?_
    · go_simp
      try rfl
    go_simp
    refine hK1 _ ?_
    clear hK1 K1
    refine wpPre_e rfl rfl (fun K1 hK1 => ?_)
    apply Exists.intro
    refine And.intro (fun wx hx => ?_) ?_
    · go_simp
      try rfl
    go_simp
    refine hK1 _ ?_
    clear hK1 K1
    refine wpPre_e rfl rfl (fun K1 hK1 => ?_)
    apply Exists.intro
    refine And.intro (fun wx hx => ?_) ?_
    · go_simp
      try rfl
    go_simp
    refine hK1 _ ?_
    clear hK1 K1
    refine wpPre_e rfl rfl (fun K1 hK1 => ?_)
    apply Exists.intro
    refine And.intro (fun wx hx => ?_) ?_
    · have e0 := below_fact hx rfl d0
      have e1 := below_fact hx rfl d1
      go_simp
      try rfl
    go_simp
    refine hK1 _ ?_
    clear hK1 K1
    refine wpPre_e rfl rfl (fun K1 hK1 => ?_)
    apply Exists.intro
    refine And.intro (fun wx hx => ?_) ?_
    · go_simp
      try rfl
    go_simp
    refine hK1 _ ?_
    clear hK1 K1
    refine wpPre_e rfl rfl (fun K1 hK1 => ?_)
    apply Exists.intro
    refine And.intro (fun wx hx => ?_) ?_
    · go_simp
      try rfl
    go_simp
    refine hK1 _ ?_
    clear hK1 K1
    refine wpPre_e rfl rfl (fun K1 hK1 => ?_)
    apply Exists.intro
    refine And.intro (fun wx hx => ?_) ?_
    · go_simp
      try rfl
    go_simp
    refine hK1 _ ?_
    clear hK1 K1
    refine wpPre_e rfl rfl (fun K1 hK1 => ?_)
    apply Exists.intro
    refine And.intro (fun wx hx => ?_) ?_
    · go_simp
      try rfl
    go_simp
    refine hK1 _ ?_
    clear hK1 K1
    refine wpPre_e rfl rfl (fun K1 hK1 => ?_)
    apply Exists.intro
    refine And.intro (fun wx hx => ?_) ?_
    · have e0 := below_fact hx rfl d0
      have e1 := below_fact hx rfl d1
      go_simp
      try rfl
    go_simp
    refine hK1 _ ?_
    clear hK1 K1
    refine wpPre_e rfl rfl (fun K1 hK1 => ?_)
    apply Exists.intro
    refine And.intro (fun wx hx => ?_) ?_
    · go_simp
      try rfl
    go_simp
    refine hK1 _ ?_
    clear hK1 K1
    refine wpPre_e rfl rfl (fun K1 hK1 => ?_)
    apply Exists.intro
    refine And.intro (fun wx hx => ?_) ?_
    · go_simp
      try rfl
    go_simp
    refine hK1 _ ?_
    clear hK1 K1
    refine wpPre_nil ?_
    refine wpStg_nil ?_
    go_wp2
    refine bodyPost_end (results_none rfl _ _ _) rfl ?_
    refine ⟨rfl, fun y R hy => (by rw [HS.out] at hy; cases hy), fun e he => (by rw [HS.out] at he; cases he; exact ⟨by decide, _, g, a, b, cc, V', HF.out, HV.out⟩)⟩
end Go.Proofs.Ytikfpoabaaiegaa
