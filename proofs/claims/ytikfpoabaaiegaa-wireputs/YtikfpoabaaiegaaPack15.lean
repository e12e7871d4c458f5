import Derived.Test.YtikfpoabaaiegaaPack14
namespace Go.Proofs.Ytikfpoabaaiegaa
open Go.RowKit
set_option maxRecDepth 8000

/-- four bytes of a number -/
def wordB (u : Nat) : List Int := [((u % 256 : Nat) : Int), ((u / 256 % 256 : Nat) : Int), ((u / 65536 % 256 : Nat) : Int), ((u / 16777216 % 256 : Nat) : Int)]
def wordC (u k : Nat) : List Int := (wordB u).take k
def keyB (s : ByteArray) : List Int := grpB s.size ++ txtB s
theorem take_succ_get {l : List Int} {k : Nat} {x : Int} (h : l[k]? = some x) : l.take (k + 1) = l.take k ++ [x] := by
  rw [List.take_add_one, h]
  rfl
theorem word_get (u k : Nat) (hk : k < 4) : (wordB u)[k]? = some (((u / 256 ^ k) % 256 : Nat) : Int) := by
  rcases (by omega : k = 0 ∨ k = 1 ∨ k = 2 ∨ k = 3) with rfl | rfl | rfl | rfl <;> simp [wordB]
set_option maxHeartbeats 2000000 in
theorem wpWord_any (u : Nat) (hu : u < 4294967296) (base : Nat) (w : World) (v : Value) (zs : List Int) (hv : OwnBy base w v zs) (hb : base ≤ w.heap.size) (hz : zs.length ≤ 100000000) :
    Calls Try.prog 106 #[v, .int .u32 u] w fun e w' => EPost base w (zs ++ wordB u) e w' := by
  obtain ⟨i0, Kd⟩ := kindB
  have HV := hid hv
  have HKd := hid Kd
  clear hv Kd
  go_enter Try.func106, Try.ntmps106
  go_wp2_with fail
  go_loopw [0, 1, 5] (fun v y x wr => ∃ (k m : Nat), k ≤ 4 ∧ x = .int .i64 (k : Int) ∧ y = .int .u32 (m : Int) ∧ m = u / 256 ^ k ∧ LayB base w (zs ++ wordC u k) v wr) (fun _ _ x _ => 4 - (intOf x).toNat)
  case atStart => exact ⟨0, u, by omega, rfl, rfl, by simp, by simpa [wordC] using LayB.refl HV.out⟩
  case round =>
    obtain ⟨k, m, hk, rfl, rfl, hm, hO⟩ := hrel
    have hsw := hO.bel.size
    have hml : m < 4294967296 := by rw [hm]; exact Nat.lt_of_le_of_lt (Nat.div_le_self _ _) hu
    by_cases hlt : k < 4
    · have hlt' : (k : Int) < 4 := by omega
      have hget := word_get u k hlt
      rw [← hm] at hget
      have hnx : zs ++ wordC u (k + 1) = (zs ++ wordC u k) ++ [((m % 256 : Nat) : Int)] := by
        unfold wordC
        rw [take_succ_get hget, List.append_assoc]
      have hzl : (zs ++ wordC u k).length ≤ 100000010 := by
        rw [List.length_append]
        have : (wordC u k).length ≤ 4 := by unfold wordC; simp [wordB]; omega
        omega
      have hm2 : m / 256 = u / 256 ^ (k + 1) := by rw [hm, Nat.pow_succ, Nat.div_div_eq_div_mul]
      have HNx := hid hnx
      have HM2 := hid hm2
      obtain ⟨Lk, hLk⟩ : ∃ Lk, Lk = zs ++ wordC u k := ⟨_, rfl⟩
      rw [← hLk] at hO hzl HNx
      have HO := hid hO
      have hrow : wr.ownsRow base 5 1 u0 Lk.length (Lk.map (Value.int .u8)) := hO.own
      have HRow := hid hrow
      clear hO hrow hnx hm2 hget hm hLk
      go_wp2_with (at_builtin; refine wpList_app rfl (.tmp 7) (.tmp 10) 47 5 i0 _ 1 1 HKd.out rfl base u0 Lk.length _ rfl (HRow.out.alloc _) ⟨wr.heap.size, 0, none⟩ 1 1 [.int .u8 ((m : Int) % 256)] rfl rfl (cell_one_new _ _ _) (one8 _) (by omega) (by omega) (by simp; omega) ?_)
      intro v3 w3 ho3 hg3 hn3
      have HF := hid (HO.out.one (by omega) ho3 hg3)
      clear ho3 hg3 hn3 HRow
      go_wp2
      go_roundw
      case rel =>
        have e3 : ((m % 256 : Nat) : Int) = (m : Int) % 256 := by omega
        refine ⟨k + 1, m / 256, by omega, by go_num, by go_num, HM2.out, ?_⟩
        rw [HNx.out, e3]
        exact HF.out
      case measure => simp [intOf]; omega
    · obtain rfl : k = 4 := by omega
      have HF := hid hO
      clear hO hm
      go_wp2
      go_ret
      refine ⟨_, rfl, ?_⟩
      have e : zs ++ wordB u = zs ++ wordC u 4 := by simp [wordC, wordB]
      rw [e]
      exact HF.out

set_option maxHeartbeats 2000000 in
theorem wpKey_any (s : ByteArray) (hs : s.size ≤ 1000) (base : Nat) (w : World) (v : Value) (zs : List Int) (hv : OwnBy base w v zs) (hb : base ≤ w.heap.size) (hz : zs.length ≤ 90000000) :
    Calls Try.prog 113 #[v, .string s] w fun e w' => EPost base w (zs ++ keyB s) e w' := by
  obtain ⟨i0, Kd⟩ := kindB
  have HN := hid (wpNumber_any s.size (by omega) base w v zs hv hb (by omega))
  have HKd := hid Kd
  clear hv Kd
  have hgl : (grpB s.size).length ≤ 10 := grpB_len 9 _ (Nat.lt_of_le_of_lt hs (by decide))
  have e : Hid (zs ++ keyB s = (zs ++ grpB s.size) ++ txtB s) := by unfold Hid keyB; rw [List.append_assoc]
  go_enter Try.func113, Try.ntmps113
  go_wp2_with fail
  refine HN.out.mono ?_
  rintro x w1 ⟨v1, rfl, h1⟩
  obtain ⟨L1, hL1⟩ : ∃ L1, L1 = zs ++ grpB s.size := ⟨_, rfl⟩
  have hl1 : L1.length ≤ 90000010 := by rw [hL1, List.length_append]; omega
  rw [← hL1] at h1 e
  have HL1 := hid h1
  have hrow : w1.ownsRow base 5 1 v1 L1.length (L1.map (Value.int .u8)) := h1.own
  have HRow := hid hrow
  have hsw := h1.bel.size
  clear h1 hrow hL1 HN
  go_wp2_with (at_builtin; go_loud (refine Go.Lib.wpList_append_own_string _ rfl (.tmp 8) (.tmp 9) 47 9 rfl base 5 i0 HKd.out.ht Try.underlying9 HKd.out.hi HKd.out.hz HKd.out.hsize HKd.out.hby v1 L1.length _ rfl HRow.out s rfl (by unfold maxLen; omega) (by omega) (by omega) ?_))
  intro v3 w3 ho3 hg3 _
  have HF := hid (HL1.out.text (by omega) ho3 hg3)
  clear ho3 hg3 HRow
  go_wp2
  go_ret
  exact ⟨_, rfl, by rw [e.out]; exact HF.out⟩
theorem encB_pos (t : VT) : 0 < (encB t).length := by cases t <;> simp [encB]
set_option maxHeartbeats 2000000 in
theorem wpValue_any (t : VT) (base : Nat) (w : World) (v : Value) (zs : List Int) (hv : OwnBy base w v zs) (hb : base ≤ w.heap.size) (hin : VT.In w (fun b => b < base) t) (hz : zs.length ≤ 90000000) :
    Calls Try.prog 114 #[v, t.val] w fun e w' => EPost base w (zs ++ encB (cleanT t)) e w' := by
  obtain ⟨i0, Kd⟩ := kindB
  have ha : Below w.heap.size w (w.alloc (.cells #[.int .i64 t.kind, .int .i64 t.int, .string t.text, .slice t.p t.n t.c] 24)) := (Below.refl _ _).alloc (Nat.le_refl _) _
  have HE := hid (encode_any t _ _ (hin.below ha) (fun b hb2 => by have := ha.size; omega))
  have hcl := clean_enc_len hin
  have hpos := encB_pos (cleanT t)
  have HKd := hid Kd
  have HV := hid hv
  have HA := hid ha
  unfold VT.val at *
  clear hv Kd hin ha
  generalize encB (cleanT t) = ys at *
  go_enter Try.func114, Try.ntmps114
  go_wp2_with fail
  refine HE.out.mono ?_
  rintro x w1 ⟨v1, rfl, h1⟩
  have hb1 := h1.bel
  have hbw : Below w.heap.size w w1 := HA.out.trans (hb1.mono (by have := HA.out.size; omega))
  obtain ⟨b1, c1, rfl, hbb, hbl, hcell⟩ := h1.own.slice hpos
  have hrow : w1.ownsRow base 5 1 v zs.length (zs.map (Value.int .u8)) := HV.out.below hbw
  have HRow := hid hrow
  have HC := hid hcell
  have HB := hid hbw
  have hsw := hbw.size
  have H1 : Hid (∀ u ∈ ys.map (Value.int .u8), u.oneCell' = true) := fun u hu => by
    obtain ⟨z, _, rfl⟩ := List.mem_map.1 hu
    rfl
  clear h1 hb1 hbw hrow hcell HE
  go_wp2_with (at_builtin; refine wpList_app rfl (.tmp 5) (.tmp 7) 47 5 i0 _ 1 1 HKd.out rfl base v zs.length _ rfl HRow.out ⟨b1, 0, none⟩ ys.length c1 (ys.map (Value.int .u8)) rfl (by simp) HC.out H1.out (by omega) (by omega) (by omega) ?_)
  intro v3 w3 ho3 hg3 hn3
  have HF : Hid (LayB base w (zs ++ ys) v3 w3) := ⟨(show OwnBy base w1 v zs from HRow.out).app ho3, (HB.out.mono hb).trans ((Below.refl base w1).grown hg3 (by omega) (fun k hk => (World.ownsRow.lt HRow.out k hk).1)), (KeepN.below HB.out).trans (KeepN.grown (show OwnBy base w1 v zs from HRow.out) hg3)⟩
  clear ho3 hg3 hn3 HRow
  go_wp2
  go_ret
  exact ⟨_, rfl, HF.out⟩
end Go.Proofs.Ytikfpoabaaiegaa

namespace Go.Proofs.Ytikfpoabaaiegaa
open Go.RowKit
set_option maxRecDepth 8000
/-- a list's bytes -/
def listB {α : Type} (enc : α → List Int) (n : Nat) (f : Nat → α) : List Int := grpB n ++ (List.range n).flatMap fun j => enc (f j)
theorem listB_part {α : Type} (enc : α → List Int) (f : Nat → α) (C : Nat) : ∀ n, (∀ j, j < n → (enc (f j)).length ≤ C) → ((List.range n).flatMap fun j => enc (f j)).length ≤ n * C := by
  intro n
  induction n with
  | zero => intro _; simp
  | succ n ih =>
    intro h
    rw [List.range_succ, List.flatMap_append, List.length_append, Nat.add_mul]
    have h1 := ih fun j hj => h j (by omega)
    have h2 := h n (by omega)
    simp only [List.flatMap_cons, List.flatMap_nil, List.append_nil]
    omega
theorem grp_len_small {n : Nat} (h : n ≤ 2000000000) : (grpB n).length ≤ 10 := grpB_len 9 _ (Nat.lt_of_le_of_lt h (by decide))
theorem listB_len {α : Type} {enc : α → List Int} {f : Nat → α} {C n : Nat} (hn : n ≤ 1000000000) (h : ∀ j, j < n → (enc (f j)).length ≤ C) : (listB enc n f).length ≤ 10 + n * C := by
  unfold listB
  rw [List.length_append]
  have := listB_part enc f C n h
  have := grp_len_small (n := n) (by omega)
  omega
end Go.Proofs.Ytikfpoabaaiegaa

namespace Go.Proofs.Ytikfpoabaaiegaa
open Go.RowKit
set_option maxRecDepth 8000
set_option maxHeartbeats 4000000 in
theorem apInt (P : Int → Prop) (enc : Int → List Int) (C : Nat) (l : LT (Int)) (base : Nat) (w : World) (v : Value) (zs : List Int) (hv : OwnBy base w v zs) (hb : base ≤ w.heap.size) (hin : LT.In elInt w (fun b => b < base) l) (hP : ∀ j, j < l.n → P (l.item j)) (hC : ∀ j, j < l.n → (enc (l.item j)).length ≤ C) (hn : l.n ≤ 1000) (M : Nat) (hM0 : M ≤ 90000000) (hM : zs.length + 10 + l.n * C ≤ M)
    (HIt : ∀ (W : World) (x : Int) (v2 : Value) (ys : List Int), base ≤ W.heap.size → OwnBy base W v2 ys → (elInt).In W (fun b => b < base) x → P x → ys.length ≤ M → Calls Try.prog 100 #[v2, .int .i64 x] W fun e W' => EPost base W (ys ++ enc x) e W') :
    Calls Try.prog 115 #[v, .slice l.p l.n l.c, .func (.func 100) #[] #[]] w fun e w' => EPost base w (zs ++ listB enc l.n l.item) e w' := by
  have HN := hid (wpNumber_any l.n (by omega) base w v zs hv hb (by omega))
  have hgl := grp_len_small (n := l.n) (by omega)
  have HIn := hid hin
  have HP := hid hP
  have HIt := hid HIt
  have HCl : Hid (∀ j, j ≤ l.n → ((zs ++ grpB l.n) ++ (List.range j).flatMap fun j => enc (l.item j)).length ≤ M) := fun j hj => by
    have h1 := listB_part enc l.item C j (fun i hi => hC i (by omega))
    have h2 : j * C ≤ l.n * C := Nat.mul_le_mul hj (Nat.le_refl _)
    simp only [List.length_append]
    omega
  have E : Hid (zs ++ listB enc l.n l.item = (zs ++ grpB l.n) ++ (List.range l.n).flatMap fun j => enc (l.item j)) := by unfold Hid listB; rw [List.append_assoc]
  obtain ⟨p, n, c, item⟩ := l
  simp only at *
  clear hv hin hP hC
  go_enter Try.func115, Try.ntmps115
  go_wp2_with fail
  refine HN.out.mono ?_
  rintro x w1 ⟨v1, rfl, h1⟩
  have H1 := hid h1
  clear h1 HN
  go_wp2_with fail
  go_loopw [0, 15] (fun v x wr => ∃ j : Nat, j ≤ n ∧ x = .int .i64 j ∧ LayB base w ((zs ++ grpB n) ++ (List.range j).flatMap fun j => enc (item j)) v wr) (fun _ x _ => n - (intOf x).toNat)
  case atStart => exact ⟨0, Nat.zero_le _, rfl, by simpa using H1.out⟩
  case round =>
    obtain ⟨j, hj, rfl, hLj⟩ := hrel
    have hsj := hLj.bel.size
    by_cases hlt : j < n
    · have hlt' : (j : Int) < (n : Int) := by omega
      obtain ⟨bb, o, hp, hSb, hbl, hat⟩ := HIn.out.at_ (show 0 < n by omega)
      simp only at hp
      subst hp
      have hca : ∀ r u, ((elInt).cells (item j))[r]? = some u → wr.cell? ⟨bb, o + j * 1 + r, none⟩ = some u := fun r u hu => (World.cell?_of_block (a := ⟨bb, o + j * 1 + r, none⟩) (hLj.bel.block bb hSb)).trans (hat j hlt r u hu)
      have d0 := hca 0 _ rfl
      simp only [Nat.add_zero, Nat.mul_one] at d0
      have hlen := HCl.out j (by omega)
      obtain ⟨Q, hM2⟩ : ∃ Q, Q = (zs ++ grpB n) ++ (List.range j).flatMap fun j => enc (item j) := ⟨_, rfl⟩
      rw [← hM2] at hLj hlen
      have HM2 : Hid (Q ++ enc (item j) = (zs ++ grpB n) ++ (List.range (j + 1)).flatMap fun j => enc (item j)) := by unfold Hid; rw [hM2, List.range_succ, List.flatMap_append]; simp
      have ha : Below wr.heap.size wr (wr) := Below.refl _ _
      have HC := hid (HIt.out (wr) (item j) u0 Q (by have := ha.size; omega) (hLj.own.below ha) ((elInt).kept ((elInt).kept (HIn.out.each j hlt) hLj.bel.size fun b hb _ => hLj.bel.block b hb) ha.size fun b _ hl => ha.block b hl) (HP.out j hlt) hlen)
      have HLj := hid (hLj.bel.trans (ha.mono (by omega)))
      have HKj := hid (hLj.keep.trans (KeepN.below ha))
      clear hat hLj hM2 ha hca hlen
      go_wp2_with fail
      refine HC.out.mono ?_
      intro e3 w3 hP3
      obtain ⟨v3, rfl, h3⟩ := hP3
      have HF := hid (h3.lift HLj.out HKj.out)
      clear h3 HC d0
      go_wp2
      go_roundw
      case rel => exact ⟨j + 1, by omega, by go_num, HM2.out ▸ HF.out⟩
      case measure => simp [intOf]; omega
    · have hje : j = n := by omega
      have hlt' : ¬ (j : Int) < (n : Int) := by omega
      rw [hje] at hLj
      have HF := hid hLj
      clear hLj
      go_wp2
      go_ret
      exact ⟨_, rfl, by rw [E.out]; exact HF.out⟩
end Go.Proofs.Ytikfpoabaaiegaa

namespace Go.Proofs.Ytikfpoabaaiegaa
open Go.RowKit
set_option maxRecDepth 8000
set_option maxHeartbeats 4000000 in
theorem apVal (P : VT → Prop) (enc : VT → List Int) (C : Nat) (l : LT (VT)) (base : Nat) (w : World) (v : Value) (zs : List Int) (hv : OwnBy base w v zs) (hb : base ≤ w.heap.size) (hin : LT.In elVal w (fun b => b < base) l) (hP : ∀ j, j < l.n → P (l.item j)) (hC : ∀ j, j < l.n → (enc (l.item j)).length ≤ C) (hn : l.n ≤ 1000) (M : Nat) (hM0 : M ≤ 90000000) (hM : zs.length + 10 + l.n * C ≤ M)
    (HIt : ∀ (W : World) (x : VT) (v2 : Value) (ys : List Int), base ≤ W.heap.size → OwnBy base W v2 ys → (elVal).In W (fun b => b < base) x → P x → ys.length ≤ M → Calls Try.prog 114 #[v2, .agg #[.int .i64 x.kind, .int .i64 x.int, .string x.text, .slice x.p x.n x.c]] W fun e W' => EPost base W (ys ++ enc x) e W') :
    Calls Try.prog 133 #[v, .slice l.p l.n l.c, .func (.func 114) #[] #[]] w fun e w' => EPost base w (zs ++ listB enc l.n l.item) e w' := by
  have HN := hid (wpNumber_any l.n (by omega) base w v zs hv hb (by omega))
  have hgl := grp_len_small (n := l.n) (by omega)
  have HIn := hid hin
  have HP := hid hP
  have HIt := hid HIt
  have HCl : Hid (∀ j, j ≤ l.n → ((zs ++ grpB l.n) ++ (List.range j).flatMap fun j => enc (l.item j)).length ≤ M) := fun j hj => by
    have h1 := listB_part enc l.item C j (fun i hi => hC i (by omega))
    have h2 : j * C ≤ l.n * C := Nat.mul_le_mul hj (Nat.le_refl _)
    simp only [List.length_append]
    omega
  have E : Hid (zs ++ listB enc l.n l.item = (zs ++ grpB l.n) ++ (List.range l.n).flatMap fun j => enc (l.item j)) := by unfold Hid listB; rw [List.append_assoc]
  obtain ⟨p, n, c, item⟩ := l
  simp only at *
  clear hv hin hP hC
  go_enter Try.func133, Try.ntmps133
  go_wp2_with fail
  refine HN.out.mono ?_
  rintro x w1 ⟨v1, rfl, h1⟩
  have H1 := hid h1
  clear h1 HN
  go_wp2_with fail
  go_loopw [0, 15] (fun v x wr => ∃ j : Nat, j ≤ n ∧ x = .int .i64 j ∧ LayB base w ((zs ++ grpB n) ++ (List.range j).flatMap fun j => enc (item j)) v wr) (fun _ x _ => n - (intOf x).toNat)
  case atStart => exact ⟨0, Nat.zero_le _, rfl, by simpa using H1.out⟩
  case round =>
    obtain ⟨j, hj, rfl, hLj⟩ := hrel
    have hsj := hLj.bel.size
    by_cases hlt : j < n
    · have hlt' : (j : Int) < (n : Int) := by omega
      obtain ⟨bb, o, hp, hSb, hbl, hat⟩ := HIn.out.at_ (show 0 < n by omega)
      simp only at hp
      subst hp
      have hca : ∀ r u, ((elVal).cells (item j))[r]? = some u → wr.cell? ⟨bb, o + j * 4 + r, none⟩ = some u := fun r u hu => (World.cell?_of_block (a := ⟨bb, o + j * 4 + r, none⟩) (hLj.bel.block bb hSb)).trans (hat j hlt r u hu)
      have d0 := hca 0 _ rfl
      have d1 := hca 1 _ rfl
      have d2 := hca 2 _ rfl
      have d3 := hca 3 _ rfl
      simp only [Nat.add_zero] at d0
      have hlen := HCl.out j (by omega)
      obtain ⟨Q, hM2⟩ : ∃ Q, Q = (zs ++ grpB n) ++ (List.range j).flatMap fun j => enc (item j) := ⟨_, rfl⟩
      rw [← hM2] at hLj hlen
      have HM2 : Hid (Q ++ enc (item j) = (zs ++ grpB n) ++ (List.range (j + 1)).flatMap fun j => enc (item j)) := by unfold Hid; rw [hM2, List.range_succ, List.flatMap_append]; simp
      have ha : Below wr.heap.size wr (wr.alloc (.cells #[.int .i64 (item j).kind, .int .i64 (item j).int, .string (item j).text, .slice (item j).p (item j).n (item j).c] 24)) := (Below.refl _ _).alloc (Nat.le_refl _) _
      have HC := hid (HIt.out (wr.alloc (.cells #[.int .i64 (item j).kind, .int .i64 (item j).int, .string (item j).text, .slice (item j).p (item j).n (item j).c] 24)) (item j) u0 Q (by have := ha.size; omega) (hLj.own.below ha) ((elVal).kept ((elVal).kept (HIn.out.each j hlt) hLj.bel.size fun b hb _ => hLj.bel.block b hb) ha.size fun b _ hl => ha.block b hl) (HP.out j hlt) hlen)
      have HLj := hid (hLj.bel.trans (ha.mono (by omega)))
      have HKj := hid (hLj.keep.trans (KeepN.below ha))
      clear hat hLj hM2 ha hca hlen
      go_wp2_with fail
      refine HC.out.mono ?_
      intro e3 w3 hP3
      obtain ⟨v3, rfl, h3⟩ := hP3
      have HF := hid (h3.lift HLj.out HKj.out)
      clear h3 HC d0 d1 d2 d3
      go_wp2
      go_roundw
      case rel => exact ⟨j + 1, by omega, by go_num, HM2.out ▸ HF.out⟩
      case measure => simp [intOf]; omega
    · have hje : j = n := by omega
      have hlt' : ¬ (j : Int) < (n : Int) := by omega
      rw [hje] at hLj
      have HF := hid hLj
      clear hLj
      go_wp2
      go_ret
      exact ⟨_, rfl, by rw [E.out]; exact HF.out⟩
end Go.Proofs.Ytikfpoabaaiegaa

namespace Go.Proofs.Ytikfpoabaaiegaa
open Go.RowKit
set_option maxRecDepth 8000
set_option maxHeartbeats 4000000 in
theorem apStr (P : ByteArray → Prop) (enc : ByteArray → List Int) (C : Nat) (l : LT (ByteArray)) (base : Nat) (w : World) (v : Value) (zs : List Int) (hv : OwnBy base w v zs) (hb : base ≤ w.heap.size) (hin : LT.In elStr w (fun b => b < base) l) (hP : ∀ j, j < l.n → P (l.item j)) (hC : ∀ j, j < l.n → (enc (l.item j)).length ≤ C) (hn : l.n ≤ 1000) (M : Nat) (hM0 : M ≤ 90000000) (hM : zs.length + 10 + l.n * C ≤ M)
    (HIt : ∀ (W : World) (x : ByteArray) (v2 : Value) (ys : List Int), base ≤ W.heap.size → OwnBy base W v2 ys → (elStr).In W (fun b => b < base) x → P x → ys.length ≤ M → Calls Try.prog 113 #[v2, .string x] W fun e W' => EPost base W (ys ++ enc x) e W') :
    Calls Try.prog 135 #[v, .slice l.p l.n l.c, .func (.func 113) #[] #[]] w fun e w' => EPost base w (zs ++ listB enc l.n l.item) e w' := by
  have HN := hid (wpNumber_any l.n (by omega) base w v zs hv hb (by omega))
  have hgl := grp_len_small (n := l.n) (by omega)
  have HIn := hid hin
  have HP := hid hP
  have HIt := hid HIt
  have HCl : Hid (∀ j, j ≤ l.n → ((zs ++ grpB l.n) ++ (List.range j).flatMap fun j => enc (l.item j)).length ≤ M) := fun j hj => by
    have h1 := listB_part enc l.item C j (fun i hi => hC i (by omega))
    have h2 : j * C ≤ l.n * C := Nat.mul_le_mul hj (Nat.le_refl _)
    simp only [List.length_append]
    omega
  have E : Hid (zs ++ listB enc l.n l.item = (zs ++ grpB l.n) ++ (List.range l.n).flatMap fun j => enc (l.item j)) := by unfold Hid listB; rw [List.append_assoc]
  obtain ⟨p, n, c, item⟩ := l
  simp only at *
  clear hv hin hP hC
  go_enter Try.func135, Try.ntmps135
  go_wp2_with fail
  refine HN.out.mono ?_
  rintro x w1 ⟨v1, rfl, h1⟩
  have H1 := hid h1
  clear h1 HN
  go_wp2_with fail
  go_loopw [0, 15] (fun v x wr => ∃ j : Nat, j ≤ n ∧ x = .int .i64 j ∧ LayB base w ((zs ++ grpB n) ++ (List.range j).flatMap fun j => enc (item j)) v wr) (fun _ x _ => n - (intOf x).toNat)
  case atStart => exact ⟨0, Nat.zero_le _, rfl, by simpa using H1.out⟩
  case round =>
    obtain ⟨j, hj, rfl, hLj⟩ := hrel
    have hsj := hLj.bel.size
    by_cases hlt : j < n
    · have hlt' : (j : Int) < (n : Int) := by omega
      obtain ⟨bb, o, hp, hSb, hbl, hat⟩ := HIn.out.at_ (show 0 < n by omega)
      simp only at hp
      subst hp
      have hca : ∀ r u, ((elStr).cells (item j))[r]? = some u → wr.cell? ⟨bb, o + j * 1 + r, none⟩ = some u := fun r u hu => (World.cell?_of_block (a := ⟨bb, o + j * 1 + r, none⟩) (hLj.bel.block bb hSb)).trans (hat j hlt r u hu)
      have d0 := hca 0 _ rfl
      simp only [Nat.add_zero, Nat.mul_one] at d0
      have hlen := HCl.out j (by omega)
      obtain ⟨Q, hM2⟩ : ∃ Q, Q = (zs ++ grpB n) ++ (List.range j).flatMap fun j => enc (item j) := ⟨_, rfl⟩
      rw [← hM2] at hLj hlen
      have HM2 : Hid (Q ++ enc (item j) = (zs ++ grpB n) ++ (List.range (j + 1)).flatMap fun j => enc (item j)) := by unfold Hid; rw [hM2, List.range_succ, List.flatMap_append]; simp
      have ha : Below wr.heap.size wr (wr) := Below.refl _ _
      have HC := hid (HIt.out (wr) (item j) u0 Q (by have := ha.size; omega) (hLj.own.below ha) ((elStr).kept ((elStr).kept (HIn.out.each j hlt) hLj.bel.size fun b hb _ => hLj.bel.block b hb) ha.size fun b _ hl => ha.block b hl) (HP.out j hlt) hlen)
      have HLj := hid (hLj.bel.trans (ha.mono (by omega)))
      have HKj := hid (hLj.keep.trans (KeepN.below ha))
      clear hat hLj hM2 ha hca hlen
      go_wp2_with fail
      refine HC.out.mono ?_
      intro e3 w3 hP3
      obtain ⟨v3, rfl, h3⟩ := hP3
      have HF := hid (h3.lift HLj.out HKj.out)
      clear h3 HC d0
      go_wp2
      go_roundw
      case rel => exact ⟨j + 1, by omega, by go_num, HM2.out ▸ HF.out⟩
      case measure => simp [intOf]; omega
    · have hje : j = n := by omega
      have hlt' : ¬ (j : Int) < (n : Int) := by omega
      rw [hje] at hLj
      have HF := hid hLj
      clear hLj
      go_wp2
      go_ret
      exact ⟨_, rfl, by rw [E.out]; exact HF.out⟩
end Go.Proofs.Ytikfpoabaaiegaa
