import Derived.Test.YtdbcdnljjgdkfaaGreatPack15
namespace Go.Proofs.YtdbcdnljjgdkfaaGreat
open Go.RowKit
set_option maxRecDepth 8000
/-- a list's bytes -/
def listB {α : Type} (enc : α → List Int) (n : Nat) (f : Nat → α) : List Int := grpB n ++ (List.range n).flatMap fun j => enc (f j)
theorem listB_part {α : Type} (enc : α → List Int) (f : Nat → α) (C : Nat) : ∀ n, (∀ j, j < n → (enc (f j)).length ≤ C) → ((List.range n).flatMap fun j => enc (f j)).length ≤ n * C := by
  intro n
  induction n with
  | zero => intro _; simp
  | succ n ih =>
    intro h
    rw [List.range_succ, List.flatMap_append, List.length_append, Nat.add_mul]
    have h1 := ih fun j hj => h j (by omega)
    have h2 := h n (by omega)
    simp only [List.flatMap_cons, List.flatMap_nil, List.append_nil]
    omega
theorem grp_len_small {n : Nat} (h : n ≤ 2000000000) : (grpB n).length ≤ 10 := grpB_len 9 _ (Nat.lt_of_le_of_lt h (by decide))
theorem listB_len {α : Type} {enc : α → List Int} {f : Nat → α} {C n : Nat} (hn : n ≤ 1000000000) (h : ∀ j, j < n → (enc (f j)).length ≤ C) : (listB enc n f).length ≤ 10 + n * C := by
  unfold listB
  rw [List.length_append]
  have := listB_part enc f C n h
  have := grp_len_small (n := n) (by omega)
  omega
end Go.Proofs.YtdbcdnljjgdkfaaGreat

namespace Go.Proofs.YtdbcdnljjgdkfaaGreat
open Go.RowKit
set_option maxRecDepth 8000
set_option maxHeartbeats 4000000 in
theorem apInt (P : Int → Prop) (enc : Int → List Int) (C : Nat) (l : LT (Int)) (base : Nat) (w : World) (v : Value) (zs : List Int) (hv : OwnBy base w v zs) (hb : base ≤ w.heap.size) (hin : LT.In elInt w (fun b => b < base) l) (hP : ∀ j, j < l.n → P (l.item j)) (hC : ∀ j, j < l.n → (enc (l.item j)).length ≤ C) (hn : l.n ≤ 1000) (M : Nat) (hM0 : M ≤ 90000000) (hM : zs.length + 10 + l.n * C ≤ M)
    (HIt : ∀ (W : World) (x : Int) (v2 : Value) (ys : List Int), base ≤ W.heap.size → OwnBy base W v2 ys → (elInt).In W (fun b => b < base) x → P x → ys.length ≤ M → Calls Tryz.prog 72 #[v2, .int .i64 x] W fun e W' => EPost base W (ys ++ enc x) e W') :
    Calls Tryz.prog 87 #[v, .slice l.p l.n l.c, .func (.func 72) #[] #[]] w fun e w' => EPost base w (zs ++ listB enc l.n l.item) e w' := by
  have HN := hid (wpNumber_any l.n (by omega) base w v zs hv hb (by omega))
  have hgl := grp_len_small (n := l.n) (by omega)
  have HIn := hid hin
  have HP := hid hP
  have HIt := hid HIt
  have HCl : Hid (∀ j, j ≤ l.n → ((zs ++ grpB l.n) ++ (List.range j).flatMap fun j => enc (l.item j)).length ≤ M) := fun j hj => by
    have h1 := listB_part enc l.item C j (fun i hi => hC i (by omega))
    have h2 : j * C ≤ l.n * C := Nat.mul_le_mul hj (Nat.le_refl _)
    simp only [List.length_append]
    omega
  have E : Hid (zs ++ listB enc l.n l.item = (zs ++ grpB l.n) ++ (List.range l.n).flatMap fun j => enc (l.item j)) := by unfold Hid listB; rw [List.append_assoc]
  obtain ⟨p, n, c, item⟩ := l
  simp only at *
  clear hv hin hP hC
  go_enter Tryz.func87, Tryz.ntmps87
  go_wp2_with fail
  refine HN.out.mono ?_
  rintro x w1 ⟨v1, rfl, h1⟩
  have H1 := hid h1
  clear h1 HN
  go_wp2_with fail
  go_loopw [0, 15] (fun v x wr => ∃ j : Nat, j ≤ n ∧ x = .int .i64 j ∧ LayB base w ((zs ++ grpB n) ++ (List.range j).flatMap fun j => enc (item j)) v wr) (fun _ x _ => n - (intOf x).toNat)
  case atStart => exact ⟨0, Nat.zero_le _, rfl, by simpa using H1.out⟩
  case round =>
    obtain ⟨j, hj, rfl, hLj⟩ := hrel
    have hsj := hLj.bel.size
    by_cases hlt : j < n
    · have hlt' : (j : Int) < (n : Int) := by omega
      obtain ⟨bb, o, hp, hSb, hbl, hat⟩ := HIn.out.at_ (show 0 < n by omega)
      simp only at hp
      subst hp
      have hca : ∀ r u, ((elInt).cells (item j))[r]? = some u → wr.cell? ⟨bb, o + j * 1 + r, none⟩ = some u := fun r u hu => (World.cell?_of_block (a := ⟨bb, o + j * 1 + r, none⟩) (hLj.bel.block bb hSb)).trans (hat j hlt r u hu)
      have d0 := hca 0 _ rfl
      simp only [Nat.add_zero, Nat.mul_one] at d0
      have hlen := HCl.out j (by omega)
      obtain ⟨Q, hM2⟩ : ∃ Q, Q = (zs ++ grpB n) ++ (List.range j).flatMap fun j => enc (item j) := ⟨_, rfl⟩
      rw [← hM2] at hLj hlen
      have HM2 : Hid (Q ++ enc (item j) = (zs ++ grpB n) ++ (List.range (j + 1)).flatMap fun j => enc (item j)) := by unfold Hid; rw [hM2, List.range_succ, List.flatMap_append]; simp
      have ha : Below wr.heap.size wr (wr) := Below.refl _ _
      have HC := hid (HIt.out (wr) (item j) u0 Q (by have := ha.size; omega) (hLj.own.below ha) ((elInt).kept ((elInt).kept (HIn.out.each j hlt) hLj.bel.size fun b hb _ => hLj.bel.block b hb) ha.size fun b _ hl => ha.block b hl) (HP.out j hlt) hlen)
      have HLj := hid (hLj.bel.trans (ha.mono (by omega)))
      have HKj := hid (hLj.keep.trans (KeepN.below ha))
      clear hat hLj hM2 ha hca hlen
      go_wp2_with fail
      refine HC.out.mono ?_
      intro e3 w3 hP3
      obtain ⟨v3, rfl, h3⟩ := hP3
      have HF := hid (h3.lift HLj.out HKj.out)
      clear h3 HC d0
      go_wp2
      go_roundw
      case rel => exact ⟨j + 1, by omega, by go_num, HM2.out ▸ HF.out⟩
      case measure => simp [intOf]; omega
    · have hje : j = n := by omega
      have hlt' : ¬ (j : Int) < (n : Int) := by omega
      rw [hje] at hLj
      have HF := hid hLj
      clear hLj
      go_wp2
      go_ret
      exact ⟨_, rfl, by rw [E.out]; exact HF.out⟩
end Go.Proofs.YtdbcdnljjgdkfaaGreat

namespace Go.Proofs.YtdbcdnljjgdkfaaGreat
open Go.RowKit
set_option maxRecDepth 8000
set_option maxHeartbeats 4000000 in
theorem apVal (P : VT → Prop) (enc : VT → List Int) (C : Nat) (l : LT (VT)) (base : Nat) (w : World) (v : Value) (zs : List Int) (hv : OwnBy base w v zs) (hb : base ≤ w.heap.size) (hin : LT.In elVal w (fun b => b < base) l) (hP : ∀ j, j < l.n → P (l.item j)) (hC : ∀ j, j < l.n → (enc (l.item j)).length ≤ C) (hn : l.n ≤ 1000) (M : Nat) (hM0 : M ≤ 90000000) (hM : zs.length + 10 + l.n * C ≤ M)
    (HIt : ∀ (W : World) (x : VT) (v2 : Value) (ys : List Int), base ≤ W.heap.size → OwnBy base W v2 ys → (elVal).In W (fun b => b < base) x → P x → ys.length ≤ M → Calls Tryz.prog 86 #[v2, .agg #[.int .i64 x.kind, .int .i64 x.int, .string x.text, .slice x.p x.n x.c]] W fun e W' => EPost base W (ys ++ enc x) e W') :
    Calls Tryz.prog 102 #[v, .slice l.p l.n l.c, .func (.func 86) #[] #[]] w fun e w' => EPost base w (zs ++ listB enc l.n l.item) e w' := by
  have HN := hid (wpNumber_any l.n (by omega) base w v zs hv hb (by omega))
  have hgl := grp_len_small (n := l.n) (by omega)
  have HIn := hid hin
  have HP := hid hP
  have HIt := hid HIt
  have HCl : Hid (∀ j, j ≤ l.n → ((zs ++ grpB l.n) ++ (List.range j).flatMap fun j => enc (l.item j)).length ≤ M) := fun j hj => by
    have h1 := listB_part enc l.item C j (fun i hi => hC i (by omega))
    have h2 : j * C ≤ l.n * C := Nat.mul_le_mul hj (Nat.le_refl _)
    simp only [List.length_append]
    omega
  have E : Hid (zs ++ listB enc l.n l.item = (zs ++ grpB l.n) ++ (List.range l.n).flatMap fun j => enc (l.item j)) := by unfold Hid listB; rw [List.append_assoc]
  obtain ⟨p, n, c, item⟩ := l
  simp only at *
  clear hv hin hP hC
  go_enter Tryz.func102, Tryz.ntmps102
  go_wp2_with fail
  refine HN.out.mono ?_
  rintro x w1 ⟨v1, rfl, h1⟩
  have H1 := hid h1
  clear h1 HN
  go_wp2_with fail
  go_loopw [0, 15] (fun v x wr => ∃ j : Nat, j ≤ n ∧ x = .int .i64 j ∧ LayB base w ((zs ++ grpB n) ++ (List.range j).flatMap fun j => enc (item j)) v wr) (fun _ x _ => n - (intOf x).toNat)
  case atStart => exact ⟨0, Nat.zero_le _, rfl, by simpa using H1.out⟩
  case round =>
    obtain ⟨j, hj, rfl, hLj⟩ := hrel
    have hsj := hLj.bel.size
    by_cases hlt : j < n
    · have hlt' : (j : Int) < (n : Int) := by omega
      obtain ⟨bb, o, hp, hSb, hbl, hat⟩ := HIn.out.at_ (show 0 < n by omega)
      simp only at hp
      subst hp
      have hca : ∀ r u, ((elVal).cells (item j))[r]? = some u → wr.cell? ⟨bb, o + j * 4 + r, none⟩ = some u := fun r u hu => (World.cell?_of_block (a := ⟨bb, o + j * 4 + r, none⟩) (hLj.bel.block bb hSb)).trans (hat j hlt r u hu)
      have d0 := hca 0 _ rfl
      have d1 := hca 1 _ rfl
      have d2 := hca 2 _ rfl
      have d3 := hca 3 _ rfl
      simp only [Nat.add_zero] at d0
      have hlen := HCl.out j (by omega)
      obtain ⟨Q, hM2⟩ : ∃ Q, Q = (zs ++ grpB n) ++ (List.range j).flatMap fun j => enc (item j) := ⟨_, rfl⟩
      rw [← hM2] at hLj hlen
      have HM2 : Hid (Q ++ enc (item j) = (zs ++ grpB n) ++ (List.range (j + 1)).flatMap fun j => enc (item j)) := by unfold Hid; rw [hM2, List.range_succ, List.flatMap_append]; simp
      have ha : Below wr.heap.size wr (wr.alloc (.cells #[.int .i64 (item j).kind, .int .i64 (item j).int, .string (item j).text, .slice (item j).p (item j).n (item j).c] 24)) := (Below.refl _ _).alloc (Nat.le_refl _) _
      have HC := hid (HIt.out (wr.alloc (.cells #[.int .i64 (item j).kind, .int .i64 (item j).int, .string (item j).text, .slice (item j).p (item j).n (item j).c] 24)) (item j) u0 Q (by have := ha.size; omega) (hLj.own.below ha) ((elVal).kept ((elVal).kept (HIn.out.each j hlt) hLj.bel.size fun b hb _ => hLj.bel.block b hb) ha.size fun b _ hl => ha.block b hl) (HP.out j hlt) hlen)
      have HLj := hid (hLj.bel.trans (ha.mono (by omega)))
      have HKj := hid (hLj.keep.trans (KeepN.below ha))
      clear hat hLj hM2 ha hca hlen
      go_wp2_with fail
      refine HC.out.mono ?_
      intro e3 w3 hP3
      obtain ⟨v3, rfl, h3⟩ := hP3
      have HF := hid (h3.lift HLj.out HKj.out)
      clear h3 HC d0 d1 d2 d3
      go_wp2
      go_roundw
      case rel => exact ⟨j + 1, by omega, by go_num, HM2.out ▸ HF.out⟩
      case measure => simp [intOf]; omega
    · have hje : j = n := by omega
      have hlt' : ¬ (j : Int) < (n : Int) := by omega
      rw [hje] at hLj
      have HF := hid hLj
      clear hLj
      go_wp2
      go_ret
      exact ⟨_, rfl, by rw [E.out]; exact HF.out⟩
end Go.Proofs.YtdbcdnljjgdkfaaGreat

namespace Go.Proofs.YtdbcdnljjgdkfaaGreat
open Go.RowKit
set_option maxRecDepth 8000
set_option maxHeartbeats 4000000 in
theorem apStr (P : ByteArray → Prop) (enc : ByteArray → List Int) (C : Nat) (l : LT (ByteArray)) (base : Nat) (w : World) (v : Value) (zs : List Int) (hv : OwnBy base w v zs) (hb : base ≤ w.heap.size) (hin : LT.In elStr w (fun b => b < base) l) (hP : ∀ j, j < l.n → P (l.item j)) (hC : ∀ j, j < l.n → (enc (l.item j)).length ≤ C) (hn : l.n ≤ 1000) (M : Nat) (hM0 : M ≤ 90000000) (hM : zs.length + 10 + l.n * C ≤ M)
    (HIt : ∀ (W : World) (x : ByteArray) (v2 : Value) (ys : List Int), base ≤ W.heap.size → OwnBy base W v2 ys → (elStr).In W (fun b => b < base) x → P x → ys.length ≤ M → Calls Tryz.prog 85 #[v2, .string x] W fun e W' => EPost base W (ys ++ enc x) e W') :
    Calls Tryz.prog 104 #[v, .slice l.p l.n l.c, .func (.func 85) #[] #[]] w fun e w' => EPost base w (zs ++ listB enc l.n l.item) e w' := by
  have HN := hid (wpNumber_any l.n (by omega) base w v zs hv hb (by omega))
  have hgl := grp_len_small (n := l.n) (by omega)
  have HIn := hid hin
  have HP := hid hP
  have HIt := hid HIt
  have HCl : Hid (∀ j, j ≤ l.n → ((zs ++ grpB l.n) ++ (List.range j).flatMap fun j => enc (l.item j)).length ≤ M) := fun j hj => by
    have h1 := listB_part enc l.item C j (fun i hi => hC i (by omega))
    have h2 : j * C ≤ l.n * C := Nat.mul_le_mul hj (Nat.le_refl _)
    simp only [List.length_append]
    omega
  have E : Hid (zs ++ listB enc l.n l.item = (zs ++ grpB l.n) ++ (List.range l.n).flatMap fun j => enc (l.item j)) := by unfold Hid listB; rw [List.append_assoc]
  obtain ⟨p, n, c, item⟩ := l
  simp only at *
  clear hv hin hP hC
  go_enter Tryz.func104, Tryz.ntmps104
  go_wp2_with fail
  refine HN.out.mono ?_
  rintro x w1 ⟨v1, rfl, h1⟩
  have H1 := hid h1
  clear h1 HN
  go_wp2_with fail
  go_loopw [0, 15] (fun v x wr => ∃ j : Nat, j ≤ n ∧ x = .int .i64 j ∧ LayB base w ((zs ++ grpB n) ++ (List.range j).flatMap fun j => enc (item j)) v wr) (fun _ x _ => n - (intOf x).toNat)
  case atStart => exact ⟨0, Nat.zero_le _, rfl, by simpa using H1.out⟩
  case round =>
    obtain ⟨j, hj, rfl, hLj⟩ := hrel
    have hsj := hLj.bel.size
    by_cases hlt : j < n
    · have hlt' : (j : Int) < (n : Int) := by omega
      obtain ⟨bb, o, hp, hSb, hbl, hat⟩ := HIn.out.at_ (show 0 < n by omega)
      simp only at hp
      subst hp
      have hca : ∀ r u, ((elStr).cells (item j))[r]? = some u → wr.cell? ⟨bb, o + j * 1 + r, none⟩ = some u := fun r u hu => (World.cell?_of_block (a := ⟨bb, o + j * 1 + r, none⟩) (hLj.bel.block bb hSb)).trans (hat j hlt r u hu)
      have d0 := hca 0 _ rfl
      simp only [Nat.add_zero, Nat.mul_one] at d0
      have hlen := HCl.out j (by omega)
      obtain ⟨Q, hM2⟩ : ∃ Q, Q = (zs ++ grpB n) ++ (List.range j).flatMap fun j => enc (item j) := ⟨_, rfl⟩
      rw [← hM2] at hLj hlen
      have HM2 : Hid (Q ++ enc (item j) = (zs ++ grpB n) ++ (List.range (j + 1)).flatMap fun j => enc (item j)) := by unfold Hid; rw [hM2, List.range_succ, List.flatMap_append]; simp
      have ha : Below wr.heap.size wr (wr) := Below.refl _ _
      have HC := hid (HIt.out (wr) (item j) u0 Q (by have := ha.size; omega) (hLj.own.below ha) ((elStr).kept ((elStr).kept (HIn.out.each j hlt) hLj.bel.size fun b hb _ => hLj.bel.block b hb) ha.size fun b _ hl => ha.block b hl) (HP.out j hlt) hlen)
      have HLj := hid (hLj.bel.trans (ha.mono (by omega)))
      have HKj := hid (hLj.keep.trans (KeepN.below ha))
      clear hat hLj hM2 ha hca hlen
      go_wp2_with fail
      refine HC.out.mono ?_
      intro e3 w3 hP3
      obtain ⟨v3, rfl, h3⟩ := hP3
      have HF := hid (h3.lift HLj.out HKj.out)
      clear h3 HC d0
      go_wp2
      go_roundw
      case rel => exact ⟨j + 1, by omega, by go_num, HM2.out ▸ HF.out⟩
      case measure => simp [intOf]; omega
    · have hje : j = n := by omega
      have hlt' : ¬ (j : Int) < (n : Int) := by omega
      rw [hje] at hLj
      have HF := hid hLj
      clear hLj
      go_wp2
      go_ret
      exact ⟨_, rfl, by rw [E.out]; exact HF.out⟩
end Go.Proofs.YtdbcdnljjgdkfaaGreat
