import Derived.Test.YtfonicphdejdlaaGreatPack13
namespace Go.Proofs.YtfonicphdejdlaaGreat
open Go.RowKit
set_option maxRecDepth 8000
set_option maxHeartbeats 4000000 in
theorem apRec (P : RT → Prop) (enc : RT → List Int) (C : Nat) (l : LT (RT)) (base : Nat) (w : World) (v : Value) (zs : List Int) (hv : OwnBy base w v zs) (hb : base ≤ w.heap.size) (hin : LT.In elRec w (fun b => b < base) l) (hP : ∀ j, j < l.n → P (l.item j)) (hC : ∀ j, j < l.n → (enc (l.item j)).length ≤ C) (hn : l.n ≤ 1000) (M : Nat) (hM0 : M ≤ 90000000) (hM : zs.length + 10 + l.n * C ≤ M)
    (HIt : ∀ (W : World) (x : RT) (v2 : Value) (ys : List Int), base ≤ W.heap.size → OwnBy base W v2 ys → (elRec).In W (fun b => b < base) x → P x → ys.length ≤ M → Calls Tryz.prog 53 #[v2, .agg #[.string x.key, .int .i64 x.v.kind, .int .i64 x.v.int, .string x.v.text, .slice x.v.p x.v.n x.v.c, .slice x.p x.n x.c]] W fun e W' => EPost base W (ys ++ enc x) e W') :
    Calls Tryz.prog 105 #[v, .slice l.p l.n l.c, .func (.func 53) #[] #[]] w fun e w' => EPost base w (zs ++ listB enc l.n l.item) e w' := by
  have HN := hid (wpNumber_any l.n (by omega) base w v zs hv hb (by omega))
  have hgl := grp_len_small (n := l.n) (by omega)
  have HIn := hid hin
  have HP := hid hP
  have HIt := hid HIt
  have HCl : Hid (∀ j, j ≤ l.n → ((zs ++ grpB l.n) ++ (List.range j).flatMap fun j => enc (l.item j)).length ≤ M) := fun j hj => by
    have h1 := listB_part enc l.item C j (fun i hi => hC i (by omega))
    have h2 : j * C ≤ l.n * C := Nat.mul_le_mul hj (Nat.le_refl _)
    simp only [List.length_append]
    omega
  have E : Hid (zs ++ listB enc l.n l.item = (zs ++ grpB l.n) ++ (List.range l.n).flatMap fun j => enc (l.item j)) := by unfold Hid listB; rw [List.append_assoc]
  obtain ⟨p, n, c, item⟩ := l
  simp only at *
  clear hv hin hP hC
  go_enter Tryz.func105, Tryz.ntmps105
  go_wp2_with fail
  refine HN.out.mono ?_
  rintro x w1 ⟨v1, rfl, h1⟩
  have H1 := hid h1
  clear h1 HN
  go_wp2_with fail
  go_loopw [0, 15] (fun v x wr => ∃ j : Nat, j ≤ n ∧ x = .int .i64 j ∧ LayB base w ((zs ++ grpB n) ++ (List.range j).flatMap fun j => enc (item j)) v wr) (fun _ x _ => n - (intOf x).toNat)
  case atStart => exact ⟨0, Nat.zero_le _, rfl, by simpa using H1.out⟩
  case round =>
    obtain ⟨j, hj, rfl, hLj⟩ := hrel
    have hsj := hLj.bel.size
    by_cases hlt : j < n
    · have hlt' : (j : Int) < (n : Int) := by omega
      obtain ⟨bb, o, hp, hSb, hbl, hat⟩ := HIn.out.at_ (show 0 < n by omega)
      simp only at hp
      subst hp
      have hca : ∀ r u, ((elRec).cells (item j))[r]? = some u → wr.cell? ⟨bb, o + j * 6 + r, none⟩ = some u := fun r u hu => (World.cell?_of_block (a := ⟨bb, o + j * 6 + r, none⟩) (hLj.bel.block bb hSb)).trans (hat j hlt r u hu)
      have d0 := hca 0 _ rfl
      have d1 := hca 1 _ rfl
      have d2 := hca 2 _ rfl
      have d3 := hca 3 _ rfl
      have d4 := hca 4 _ rfl
      have d5 := hca 5 _ rfl
      simp only [Nat.add_zero] at d0
      have hlen := HCl.out j (by omega)
      obtain ⟨Q, hM2⟩ : ∃ Q, Q = (zs ++ grpB n) ++ (List.range j).flatMap fun j => enc (item j) := ⟨_, rfl⟩
      rw [← hM2] at hLj hlen
      have HM2 : Hid (Q ++ enc (item j) = (zs ++ grpB n) ++ (List.range (j + 1)).flatMap fun j => enc (item j)) := by unfold Hid; rw [hM2, List.range_succ, List.flatMap_append]; simp
      have ha : Below wr.heap.size wr (wr.alloc (.cells #[.string (item j).key, .int .i64 (item j).v.kind, .int .i64 (item j).v.int, .string (item j).v.text, .slice (item j).v.p (item j).v.n (item j).v.c, .slice (item j).p (item j).n (item j).c] 27)) := (Below.refl _ _).alloc (Nat.le_refl _) _
      have HC := hid (HIt.out (wr.alloc (.cells #[.string (item j).key, .int .i64 (item j).v.kind, .int .i64 (item j).v.int, .string (item j).v.text, .slice (item j).v.p (item j).v.n (item j).v.c, .slice (item j).p (item j).n (item j).c] 27)) (item j) u0 Q (by have := ha.size; omega) (hLj.own.below ha) ((elRec).kept ((elRec).kept (HIn.out.each j hlt) hLj.bel.size fun b hb _ => hLj.bel.block b hb) ha.size fun b _ hl => ha.block b hl) (HP.out j hlt) hlen)
      have HLj := hid (hLj.bel.trans (ha.mono (by omega)))
      have HKj := hid (hLj.keep.trans (KeepN.below ha))
      clear hat hLj hM2 ha hca hlen
      go_wp2_with fail
      refine HC.out.mono ?_
      intro e3 w3 hP3
      obtain ⟨v3, rfl, h3⟩ := hP3
      have HF := hid (h3.lift HLj.out HKj.out)
      clear h3 HC d0 d1 d2 d3 d4 d5
      go_wp2
      go_roundw
      case rel => exact ⟨j + 1, by omega, by go_num, HM2.out ▸ HF.out⟩
      case measure => simp [intOf]; omega
    · have hje : j = n := by omega
      have hlt' : ¬ (j : Int) < (n : Int) := by omega
      rw [hje] at hLj
      have HF := hid hLj
      clear hLj
      go_wp2
      go_ret
      exact ⟨_, rfl, by rw [E.out]; exact HF.out⟩
end Go.Proofs.YtfonicphdejdlaaGreat

namespace Go.Proofs.YtfonicphdejdlaaGreat
open Go.RowKit
set_option maxRecDepth 8000
set_option maxHeartbeats 4000000 in
theorem apRecs (P : LT RT → Prop) (enc : LT RT → List Int) (C : Nat) (l : LT (LT RT)) (base : Nat) (w : World) (v : Value) (zs : List Int) (hv : OwnBy base w v zs) (hb : base ≤ w.heap.size) (hin : LT.In elRecs w (fun b => b < base) l) (hP : ∀ j, j < l.n → P (l.item j)) (hC : ∀ j, j < l.n → (enc (l.item j)).length ≤ C) (hn : l.n ≤ 1000) (M : Nat) (hM0 : M ≤ 90000000) (hM : zs.length + 10 + l.n * C ≤ M)
    (HIt : ∀ (W : World) (x : LT RT) (v2 : Value) (ys : List Int), base ≤ W.heap.size → OwnBy base W v2 ys → (elRecs).In W (fun b => b < base) x → P x → ys.length ≤ M → Calls Tryz.prog 81 #[v2, .slice x.p x.n x.c] W fun e W' => EPost base W (ys ++ enc x) e W') :
    Calls Tryz.prog 80 #[v, .slice l.p l.n l.c, .func (.func 81) #[] #[]] w fun e w' => EPost base w (zs ++ listB enc l.n l.item) e w' := by
  have HN := hid (wpNumber_any l.n (by omega) base w v zs hv hb (by omega))
  have hgl := grp_len_small (n := l.n) (by omega)
  have HIn := hid hin
  have HP := hid hP
  have HIt := hid HIt
  have HCl : Hid (∀ j, j ≤ l.n → ((zs ++ grpB l.n) ++ (List.range j).flatMap fun j => enc (l.item j)).length ≤ M) := fun j hj => by
    have h1 := listB_part enc l.item C j (fun i hi => hC i (by omega))
    have h2 : j * C ≤ l.n * C := Nat.mul_le_mul hj (Nat.le_refl _)
    simp only [List.length_append]
    omega
  have E : Hid (zs ++ listB enc l.n l.item = (zs ++ grpB l.n) ++ (List.range l.n).flatMap fun j => enc (l.item j)) := by unfold Hid listB; rw [List.append_assoc]
  obtain ⟨p, n, c, item⟩ := l
  simp only at *
  clear hv hin hP hC
  go_enter Tryz.func80, Tryz.ntmps80
  go_wp2_with fail
  refine HN.out.mono ?_
  rintro x w1 ⟨v1, rfl, h1⟩
  have H1 := hid h1
  clear h1 HN
  go_wp2_with fail
  go_loopw [0, 15] (fun v x wr => ∃ j : Nat, j ≤ n ∧ x = .int .i64 j ∧ LayB base w ((zs ++ grpB n) ++ (List.range j).flatMap fun j => enc (item j)) v wr) (fun _ x _ => n - (intOf x).toNat)
  case atStart => exact ⟨0, Nat.zero_le _, rfl, by simpa using H1.out⟩
  case round =>
    obtain ⟨j, hj, rfl, hLj⟩ := hrel
    have hsj := hLj.bel.size
    by_cases hlt : j < n
    · have hlt' : (j : Int) < (n : Int) := by omega
      obtain ⟨bb, o, hp, hSb, hbl, hat⟩ := HIn.out.at_ (show 0 < n by omega)
      simp only at hp
      subst hp
      have hca : ∀ r u, ((elRecs).cells (item j))[r]? = some u → wr.cell? ⟨bb, o + j * 1 + r, none⟩ = some u := fun r u hu => (World.cell?_of_block (a := ⟨bb, o + j * 1 + r, none⟩) (hLj.bel.block bb hSb)).trans (hat j hlt r u hu)
      have d0 := hca 0 _ rfl
      simp only [Nat.add_zero, Nat.mul_one] at d0
      have hlen := HCl.out j (by omega)
      obtain ⟨Q, hM2⟩ : ∃ Q, Q = (zs ++ grpB n) ++ (List.range j).flatMap fun j => enc (item j) := ⟨_, rfl⟩
      rw [← hM2] at hLj hlen
      have HM2 : Hid (Q ++ enc (item j) = (zs ++ grpB n) ++ (List.range (j + 1)).flatMap fun j => enc (item j)) := by unfold Hid; rw [hM2, List.range_succ, List.flatMap_append]; simp
      have ha : Below wr.heap.size wr (wr) := Below.refl _ _
      have HC := hid (HIt.out (wr) (item j) u0 Q (by have := ha.size; omega) (hLj.own.below ha) ((elRecs).kept ((elRecs).kept (HIn.out.each j hlt) hLj.bel.size fun b hb _ => hLj.bel.block b hb) ha.size fun b _ hl => ha.block b hl) (HP.out j hlt) hlen)
      have HLj := hid (hLj.bel.trans (ha.mono (by omega)))
      have HKj := hid (hLj.keep.trans (KeepN.below ha))
      clear hat hLj hM2 ha hca hlen
      go_wp2_with fail
      refine HC.out.mono ?_
      intro e3 w3 hP3
      obtain ⟨v3, rfl, h3⟩ := hP3
      have HF := hid (h3.lift HLj.out HKj.out)
      clear h3 HC d0
      go_wp2
      go_roundw
      case rel => exact ⟨j + 1, by omega, by go_num, HM2.out ▸ HF.out⟩
      case measure => simp [intOf]; omega
    · have hje : j = n := by omega
      have hlt' : ¬ (j : Int) < (n : Int) := by omega
      rw [hje] at hLj
      have HF := hid hLj
      clear hLj
      go_wp2
      go_ret
      exact ⟨_, rfl, by rw [E.out]; exact HF.out⟩
end Go.Proofs.YtfonicphdejdlaaGreat

namespace Go.Proofs.YtfonicphdejdlaaGreat
open Go.RowKit
set_option maxRecDepth 8000
set_option maxHeartbeats 4000000 in
theorem apRow (P : Nat × Nat → Prop) (enc : Nat × Nat → List Int) (C : Nat) (l : LT (Nat × Nat)) (base : Nat) (w : World) (v : Value) (zs : List Int) (hv : OwnBy base w v zs) (hb : base ≤ w.heap.size) (hin : LT.In elRow w (fun b => b < base) l) (hP : ∀ j, j < l.n → P (l.item j)) (hC : ∀ j, j < l.n → (enc (l.item j)).length ≤ C) (hn : l.n ≤ 1000) (M : Nat) (hM0 : M ≤ 90000000) (hM : zs.length + 10 + l.n * C ≤ M)
    (HIt : ∀ (W : World) (x : Nat × Nat) (v2 : Value) (ys : List Int), base ≤ W.heap.size → OwnBy base W v2 ys → (elRow).In W (fun b => b < base) x → P x → ys.length ≤ M → Calls Tryz.prog 83 #[v2, .agg #[.int .i64 (x.1 : Int), .int .u32 (x.2 : Int)]] W fun e W' => EPost base W (ys ++ enc x) e W') :
    Calls Tryz.prog 82 #[v, .slice l.p l.n l.c, .func (.func 83) #[] #[]] w fun e w' => EPost base w (zs ++ listB enc l.n l.item) e w' := by
  have HN := hid (wpNumber_any l.n (by omega) base w v zs hv hb (by omega))
  have hgl := grp_len_small (n := l.n) (by omega)
  have HIn := hid hin
  have HP := hid hP
  have HIt := hid HIt
  have HCl : Hid (∀ j, j ≤ l.n → ((zs ++ grpB l.n) ++ (List.range j).flatMap fun j => enc (l.item j)).length ≤ M) := fun j hj => by
    have h1 := listB_part enc l.item C j (fun i hi => hC i (by omega))
    have h2 : j * C ≤ l.n * C := Nat.mul_le_mul hj (Nat.le_refl _)
    simp only [List.length_append]
    omega
  have E : Hid (zs ++ listB enc l.n l.item = (zs ++ grpB l.n) ++ (List.range l.n).flatMap fun j => enc (l.item j)) := by unfold Hid listB; rw [List.append_assoc]
  obtain ⟨p, n, c, item⟩ := l
  simp only at *
  clear hv hin hP hC
  go_enter Tryz.func82, Tryz.ntmps82
  go_wp2_with fail
  refine HN.out.mono ?_
  rintro x w1 ⟨v1, rfl, h1⟩
  have H1 := hid h1
  clear h1 HN
  go_wp2_with fail
  go_loopw [0, 15] (fun v x wr => ∃ j : Nat, j ≤ n ∧ x = .int .i64 j ∧ LayB base w ((zs ++ grpB n) ++ (List.range j).flatMap fun j => enc (item j)) v wr) (fun _ x _ => n - (intOf x).toNat)
  case atStart => exact ⟨0, Nat.zero_le _, rfl, by simpa using H1.out⟩
  case round =>
    obtain ⟨j, hj, rfl, hLj⟩ := hrel
    have hsj := hLj.bel.size
    by_cases hlt : j < n
    · have hlt' : (j : Int) < (n : Int) := by omega
      obtain ⟨bb, o, hp, hSb, hbl, hat⟩ := HIn.out.at_ (show 0 < n by omega)
      simp only at hp
      subst hp
      have hca : ∀ r u, ((elRow).cells (item j))[r]? = some u → wr.cell? ⟨bb, o + j * 2 + r, none⟩ = some u := fun r u hu => (World.cell?_of_block (a := ⟨bb, o + j * 2 + r, none⟩) (hLj.bel.block bb hSb)).trans (hat j hlt r u hu)
      have d0 := hca 0 _ rfl
      have d1 := hca 1 _ rfl
      simp only [Nat.add_zero] at d0
      have hlen := HCl.out j (by omega)
      obtain ⟨Q, hM2⟩ : ∃ Q, Q = (zs ++ grpB n) ++ (List.range j).flatMap fun j => enc (item j) := ⟨_, rfl⟩
      rw [← hM2] at hLj hlen
      have HM2 : Hid (Q ++ enc (item j) = (zs ++ grpB n) ++ (List.range (j + 1)).flatMap fun j => enc (item j)) := by unfold Hid; rw [hM2, List.range_succ, List.flatMap_append]; simp
      have ha : Below wr.heap.size wr (wr.alloc (.cells #[.int .i64 ((item j).1 : Int), .int .u32 ((item j).2 : Int)] 126)) := (Below.refl _ _).alloc (Nat.le_refl _) _
      have HC := hid (HIt.out (wr.alloc (.cells #[.int .i64 ((item j).1 : Int), .int .u32 ((item j).2 : Int)] 126)) (item j) u0 Q (by have := ha.size; omega) (hLj.own.below ha) ((elRow).kept ((elRow).kept (HIn.out.each j hlt) hLj.bel.size fun b hb _ => hLj.bel.block b hb) ha.size fun b _ hl => ha.block b hl) (HP.out j hlt) hlen)
      have HLj := hid (hLj.bel.trans (ha.mono (by omega)))
      have HKj := hid (hLj.keep.trans (KeepN.below ha))
      clear hat hLj hM2 ha hca hlen
      go_wp2_with fail
      refine HC.out.mono ?_
      intro e3 w3 hP3
      obtain ⟨v3, rfl, h3⟩ := hP3
      have HF := hid (h3.lift HLj.out HKj.out)
      clear h3 HC d0 d1
      go_wp2
      go_roundw
      case rel => exact ⟨j + 1, by omega, by go_num, HM2.out ▸ HF.out⟩
      case measure => simp [intOf]; omega
    · have hje : j = n := by omega
      have hlt' : ¬ (j : Int) < (n : Int) := by omega
      rw [hje] at hLj
      have HF := hid hLj
      clear hLj
      go_wp2
      go_ret
      exact ⟨_, rfl, by rw [E.out]; exact HF.out⟩
end Go.Proofs.YtfonicphdejdlaaGreat
