import Derived.Test.YtkfcilandmhomaaDoorPack16
namespace Go.Proofs.YtkfcilandmhomaaDoor
open Go.RowKit
set_option maxRecDepth 8000
theorem num_any (k : Int) (w : World) : Calls Tryd.prog 9 #[.int .i64 k] w fun e w' => e = .returned (.int .i64 k) ∧ w' = w := by
  go_enter Tryd.func9, Tryd.ntmps9
  go_wp2
  exact bodyPost_ret (v := .int .i64 k) (by simp [results, Tryd.results9, go_sem]) rfl ⟨rfl, rfl⟩
def LfQ (A : LT FA) (w : World) (e : Ending) (w' : World) : Prop := ∃ q : Bool, e = .returned (.bool q) ∧ w' = w ∧ (q = true → A.n ≤ 500 ∧ ∀ j, j < A.n → (A.item j).n ≤ 524288)
set_option maxHeartbeats 4000000 in
/-- what the law's fits says of the files -/
theorem lfits_any (A : LT FA) (w : World) (S : Nat → Prop) (hA : LT.In elF w S A) :
    Calls Tryd.prog 7 #[.slice A.p A.n A.c, .slice none 0 0] w fun e w' => LfQ A w e w' := by
  have HA := hid hA
  have hnn := hA.nn
  clear hA
  go_enter Tryd.func7, Tryd.ntmps7
  go_wp2_with fail
  go_loopw [5, 6] (fun v x wr => ∃ (i : Nat) (s : Int), i ≤ A.n ∧ x = .int .i64 (i : Int) ∧ v = .int .i64 s ∧ wr = w ∧ (A.n ≤ 500 → 0 ≤ s ∧ s ≤ (i : Int) * 140737488355328 ∧ ∀ j, j < i → ((A.item j).n : Int) ≤ s)) (fun _ x _ => A.n - (intOf x).toNat)
  case atStart => exact ⟨0, 0, Nat.zero_le _, rfl, rfl, rfl, fun _ => ⟨by omega, by omega, fun j hj => absurd hj (by omega)⟩⟩
  case round =>
    obtain ⟨i, s, hi, rfl, rfl, rfl, hs⟩ := hrel
    have HS := hid hs
    clear hs
    by_cases hlt : i < A.n
    · have hlt' : (i : Int) < (A.n : Int) := by omega
      obtain ⟨bb, o, hp, _, hbb, hat⟩ := HA.out.at_ (by omega)
      rw [hp]
      have a1 : wr.cell? ⟨bb, o + i * 3 + 1, none⟩ = some (.slice (A.item i).p (A.item i).n (A.item i).c) := hat i hlt 1 _ rfl
      have HIn := hid (HA.out.each i hlt)
      clear hat
      go_wp2
      go_roundw
      case rel =>
        refine ⟨i + 1, _, by omega, by go_num, rfl, trivial, fun h5 => ?_⟩
        obtain ⟨h1, h2, h3⟩ := HS.out h5
        have h4 := HIn.out.2.1.nn
        have e : wrap64 (s + ((A.item i).n : Int)) = s + ((A.item i).n : Int) := by rw [wrap64]; omega
        rw [e]
        refine ⟨by omega, by push_cast; omega, fun j hj => ?_⟩
        by_cases hji : j < i
        · have := h3 j hji; omega
        · obtain rfl : j = i := by omega
          omega
      case measure => simp [intOf]; omega
    · have hlt' : ¬ (i : Int) < (A.n : Int) := by omega
      obtain rfl : i = A.n := by omega
      go_wp2_with fail
      go_loopw [5, 7] (fun v x wr2 => v = .int .i64 s ∧ x = .int .i64 0 ∧ wr2 = wr) (fun _ _ _ => 0)
      case atStart => exact ⟨rfl, rfl, rfl⟩
      case round =>
        obtain ⟨rfl, rfl, rfl⟩ := hrel
        by_cases h5 : A.n ≤ 500
        · have h5' : (A.n : Int) ≤ 500 := by omega
          by_cases h6 : s ≤ 524288
          · go_wp2
            exact bodyPost_ret (v := .bool true) (by simp [results, Tryd.results7, go_sem]) rfl ⟨true, rfl, rfl, fun _ => ⟨h5, fun j hj => by have := (HS.out h5).2.2 j hj; omega⟩⟩
          · go_wp2
            exact bodyPost_ret (v := .bool false) (by simp [results, Tryd.results7, go_sem]) rfl ⟨false, rfl, rfl, fun h => by cases h⟩
        · have h5' : ¬ (A.n : Int) ≤ 500 := by omega
          go_wp2
          exact bodyPost_ret (v := .bool false) (by simp [results, Tryd.results7, go_sem]) rfl ⟨false, rfl, rfl, fun h => by cases h⟩
end Go.Proofs.YtkfcilandmhomaaDoor

namespace Go.Proofs.YtkfcilandmhomaaDoor
open Go.RowKit
set_option maxRecDepth 8000
theorem bl_irrD : ∀ x : List UInt8, Op.bytesLess x x = false
  | [] => rfl
  | a :: x => by simp [Op.bytesLess, bl_irrD x]
theorem bl_transD : ∀ {x y z : List UInt8}, Op.bytesLess x y = true → Op.bytesLess y z = true → Op.bytesLess x z = true
  | [], [], _, h, _ => by simp [Op.bytesLess] at h
  | [], _ :: _, [], _, h => by simp [Op.bytesLess] at h
  | [], _ :: _, _ :: _, _, _ => by simp [Op.bytesLess]
  | _ :: _, [], _, h, _ => by simp [Op.bytesLess] at h
  | _ :: _, _ :: _, [], _, h => by simp [Op.bytesLess] at h
  | a :: x, b :: y, c :: z, h1, h2 => by
    simp only [Op.bytesLess, Bool.or_eq_true, Bool.and_eq_true, decide_eq_true_eq, beq_iff_eq] at h1 h2 ⊢
    rcases h1 with h1 | ⟨rfl, h1⟩
    · rcases h2 with h2 | ⟨rfl, _⟩
      · exact .inl (UInt8.lt_trans h1 h2)
      · exact .inl h1
    · rcases h2 with h2 | ⟨rfl, h2⟩
      · exact .inl h2
      · exact .inr ⟨rfl, bl_transD h1 h2⟩
theorem u8_tri (a b : UInt8) : a < b ∨ a = b ∨ b < a := by
  rcases Nat.lt_trichotomy a.toNat b.toNat with h | h | h
  · exact .inl (UInt8.lt_iff_toNat_lt.2 h)
  · exact .inr (.inl (UInt8.toNat_inj.1 h))
  · exact .inr (.inr (UInt8.lt_iff_toNat_lt.2 h))
theorem bl_triD : ∀ x y : List UInt8, Op.bytesLess x y = true ∨ x = y ∨ Op.bytesLess y x = true
  | [], [] => .inr (.inl rfl)
  | [], _ :: _ => .inl rfl
  | _ :: _, [] => .inr (.inr rfl)
  | a :: x, b :: y => by
    simp only [Op.bytesLess, Bool.or_eq_true, Bool.and_eq_true, decide_eq_true_eq, beq_iff_eq, List.cons.injEq]
    rcases u8_tri a b with h | rfl | h
    · exact .inl (.inl h)
    · rcases bl_triD x y with h | h | h
      · exact .inl (.inr ⟨rfl, h⟩)
      · exact .inr (.inl ⟨rfl, h⟩)
      · exact .inr (.inr (.inr ⟨rfl, h⟩))
    · exact .inr (.inr (.inl h))
theorem ba_extD {x y : ByteArray} (h : x.toList = y.toList) : x = y := by
  rw [Go.Lib.toList_data, Go.Lib.toList_data] at h
  exact ByteArray.ext (Array.ext' h)
theorem lessN_tri (x y : ByteArray) (hne : x ≠ y) (h : ¬ lessN x y = true) : lessN y x = true := by
  rcases bl_triD x.toList y.toList with g | g | g
  · exact absurd g h
  · exact absurd (ba_extD g) hne
  · exact g
theorem lessN_asym {x y : ByteArray} (h : lessN x y = true) (g : lessN y x = true) : False := by
  have := bl_transD h g
  rw [bl_irrD] at this
  cases this
theorem cb_less : ∀ (a b : List UInt8) (m k : Nat), (∀ x ∈ a, x ≠ 0) → (∀ x ∈ b, x ≠ 0) → a.length + m = b.length + k →
    (Go.Lib.compareBytes (a ++ List.replicate m 0) (b ++ List.replicate k 0) < 0 ↔ Op.bytesLess a b = true)
  | [], [], m, k, _, _, h => by
    obtain rfl : m = k := by simpa using h
    simp [cb_self, Op.bytesLess]
  | [], y :: ys, m, k, _, hb, h => by
    obtain ⟨m', rfl⟩ : ∃ m', m = m' + 1 := ⟨m - 1, by simp at h; omega⟩
    have hy : (0 : UInt8) < y := by
      have := hb y (by simp)
      rcases u8_tri 0 y with g | g | g
      · exact g
      · exact absurd g.symm this
      · exact absurd g (by simp [UInt8.lt_iff_toNat_lt])
    simp [List.replicate_succ, Go.Lib.compareBytes, hy, Op.bytesLess]
  | x :: xs, [], m, k, ha, _, h => by
    obtain ⟨k', rfl⟩ : ∃ k', k = k' + 1 := ⟨k - 1, by simp at h; omega⟩
    have hx : (0 : UInt8) < x := by
      have := ha x (by simp)
      rcases u8_tri 0 x with g | g | g
      · exact g
      · exact absurd g.symm this
      · exact absurd g (by simp [UInt8.lt_iff_toNat_lt])
    have hx' : ¬ x < 0 := by simp [UInt8.lt_iff_toNat_lt]
    simp only [List.replicate_succ, List.cons_append, List.nil_append, Go.Lib.compareBytes, if_neg hx', if_pos hx, Op.bytesLess]
    simp
  | x :: xs, y :: ys, m, k, ha, hb, h => by
    have ih := cb_less xs ys m k (fun z hz => ha z (by simp [hz])) (fun z hz => hb z (by simp [hz])) (by simp at h; omega)
    simp only [List.cons_append, Go.Lib.compareBytes, Op.bytesLess, Bool.or_eq_true, Bool.and_eq_true, decide_eq_true_eq, beq_iff_eq]
    rcases u8_tri x y with g | rfl | g
    · simp [g]
    · have hn : ¬ x < x := by simp
      simp only [if_neg hn, ih]
      simp [hn]
    · have hn : ¬ x < y := by rw [UInt8.lt_iff_toNat_lt] at g ⊢; omega
      have hne : ¬ x = y := by rintro rfl; exact hn g
      simp [if_pos g, hn, hne]
theorem padB_eq (s : ByteArray) (hs : s.size ≤ 12) : padB s = s.toList ++ List.replicate (12 - s.size) 0 := by
  have e : padB s = (List.range 12).map fun i => (bat s i).toNat.toUInt8 := rfl
  rw [e]
  have hsz : s.toList.length = s.size := by rw [Go.Lib.toList_data]; rfl
  apply List.ext_getElem
  · simp [hsz]; omega
  · intro i h1 h2
    have hi : i < 12 := by simpa using h1
    simp only [List.getElem_map, List.getElem_range]
    by_cases hlt : i < s.size
    · rw [List.getElem_append_left (by omega)]
      have : s.toList[i]'(by omega) = s[i] := by
        simp only [Go.Lib.toList_data]
        rfl
      rw [this]
      simp [bat, hlt]
    · rw [List.getElem_append_right (by omega)]
      simp [bat, hlt]
theorem Nm.nz {s : ByteArray} (h : Nm s) : ∀ x ∈ s.toList, x ≠ 0 := by
  intro x hx
  obtain ⟨i, hi, rfl⟩ := List.mem_iff_getElem.1 hx
  have hsz : s.toList.length = s.size := by rw [Go.Lib.toList_data]; rfl
  have h1 := h.ok i (by omega)
  have : s.toList[i] = s[i]'(by omega) := by
    simp only [Go.Lib.toList_data]
    rfl
  rw [this]
  intro e
  rw [e] at h1
  revert h1
  decide
theorem cmp_less {s t : ByteArray} (hs : Nm s) (ht : Nm t) : cmpN s t < 0 ↔ lessN s t = true := by
  have hsz : ∀ s : ByteArray, s.toList.length = s.size := fun s => by rw [Go.Lib.toList_data]; rfl
  have := hs.le
  have := ht.le
  unfold cmpN
  rw [padB_eq s hs.le, padB_eq t ht.le]
  exact cb_less _ _ _ _ hs.nz ht.nz (by rw [hsz, hsz]; omega)
theorem perm_eq_of {α : Type} {R : α → α → Prop} (asy : ∀ a b, R a b → R b a → False) : ∀ (l1 l2 : List α), l1.Perm l2 → l1.Pairwise R → l2.Pairwise R → l1 = l2
  | [], l2, h, _, _ => (List.nil_perm.1 h).symm
  | a :: t1, [], h, _, _ => absurd h.length_eq (by simp)
  | a :: t1, b :: t2, h, h1, h2 => by
    have ha : a ∈ b :: t2 := h.mem_iff.1 (by simp)
    have hb : b ∈ a :: t1 := h.mem_iff.2 (by simp)
    have e : a = b := by
      rcases List.mem_cons.1 ha with e | ha
      · exact e
      · rcases List.mem_cons.1 hb with e | hb
        · exact e.symm
        · exact absurd ((List.pairwise_cons.1 h2).1 a ha) fun g => asy _ _ g ((List.pairwise_cons.1 h1).1 b hb)
    subst e
    rw [perm_eq_of asy t1 t2 (List.Perm.cons_inv h) (List.pairwise_cons.1 h1).2 (List.pairwise_cons.1 h2).2]
def ltK (a b : Key) : Prop := lessN a.1 b.1 = true
theorem insK_rise (f : Key) : ∀ L : List Key, L.Pairwise ltK → (∀ a ∈ L, f.1 ≠ a.1) → (insK f L).Pairwise ltK
  | [], _, _ => by simp [insK]
  | a :: l, h, hne => by
    obtain ⟨h1, h2⟩ := List.pairwise_cons.1 h
    unfold insK
    by_cases hl : lessN f.1 a.1 = true
    · rw [if_pos hl]
      refine List.pairwise_cons.2 ⟨fun x hx => ?_, h⟩
      rcases List.mem_cons.1 hx with rfl | hx
      · exact hl
      · exact bl_transD hl (h1 x hx)
    · rw [if_neg hl]
      refine List.pairwise_cons.2 ⟨fun x hx => ?_, insK_rise f l h2 fun b hb => hne b (List.mem_cons_of_mem _ hb)⟩
      rcases List.mem_cons.1 ((insK_perm f l).mem_iff.1 hx) with rfl | hx
      · exact lessN_tri _ _ (hne a (by simp)) hl
      · exact h1 x hx
theorem srtK_rise (l : LT FA) : ∀ i, (∀ j, j < i → fOk (names l j) (l.item j) = true) → (srtK l i).Pairwise ltK
  | 0, _ => List.Pairwise.nil
  | i + 1, h => by
    refine insK_rise _ _ (srtK_rise l i fun j hj => h j (by omega)) fun a ha => ?_
    obtain ⟨j, hj, rfl⟩ := List.mem_map.1 ((srtK_perm l i).mem_iff.1 ha)
    have hj := List.mem_range.1 hj
    have h1 := h i (by omega)
    simp only [fOk, Bool.and_eq_true, Bool.not_eq_true', List.any_eq_false, decide_eq_true_eq] at h1
    have h2 := h1.1.2 (l.item j).name (List.mem_map.2 ⟨j, List.mem_range.2 hj, rfl⟩)
    exact fun e => h2 e.symm
/-- the program's files in their order are the reference's -/
theorem files_eq (l : LT FA) (D : DK) (YS : List FT) (hD : D.fs.map FT.key = (List.range l.n).map fun j => (l.item j).key) (hnm : ∀ f ∈ D.fs, Nm f.name) (hok : ∀ j, j < l.n → fOk (names l j) (l.item j) = true) (hnd : (D.fs.map FT.name).Nodup) (hp : YS.Perm D.fs) (hs : YS.Pairwise fun a b => ¬ cmpN b.name a.name < 0) : YS.map FT.key = srtK l l.n := by
  have hp2 : (YS.map FT.key).Perm (srtK l l.n) := ((hp.map _).trans (by rw [hD])).trans (srtK_perm l l.n).symm
  refine perm_eq_of (R := ltK) (fun a b h g => lessN_asym h g) _ _ hp2 ?_ (srtK_rise l l.n hok)
  rw [List.pairwise_map]
  have hnd2 : (YS.map FT.name).Nodup := ((hp.map FT.name).nodup_iff).2 hnd
  have hnd3 : YS.Pairwise fun a b => a.name ≠ b.name := by
    have := hnd2
    unfold List.Nodup at this
    rwa [List.pairwise_map] at this
  refine (hs.and hnd3).imp_of_mem ?_
  intro a b ha hb ⟨h1, h2⟩
  have na := hnm a (hp.mem_iff.1 ha)
  have nb := hnm b (hp.mem_iff.1 hb)
  rw [cmp_less nb na] at h1
  exact lessN_tri _ _ (fun e => h2 e.symm) h1
theorem newB_eq (u l : LT FA) (hn : u.n = l.n) (hk : ∀ j, j < l.n → (u.item j).key = (l.item j).key) : newB u = newB l := by
  unfold newB
  rw [hn]
  congr 1
  rw [Bool.eq_iff_iff, List.all_eq_true, List.all_eq_true]
  refine forall_congr' fun i => ?_
  refine imp_congr_right fun hi => ?_
  have hi := List.mem_range.1 hi
  have e1 : names u i = names l i := by
    refine List.map_congr_left fun j hj => ?_
    have hj := List.mem_range.1 hj
    exact congrArg Prod.fst (hk j (by omega))
  have hki := hk i hi
  have e2 : (u.item i).name = (l.item i).name := congrArg Prod.fst hki
  have e3 : (u.item i).n = (l.item i).n := by rw [← FA.zs_len, ← FA.zs_len]; exact congrArg (fun k : Key => k.2.1.length) hki
  have e4 : (u.item i).sy = (l.item i).sy := congrArg (fun k : Key => k.2.2) hki
  unfold fOk
  rw [e1, e2, e3, e4]
end Go.Proofs.YtkfcilandmhomaaDoor

namespace Go.Proofs.YtkfcilandmhomaaDoor
open Go.RowKit
set_option maxRecDepth 8000
end Go.Proofs.YtkfcilandmhomaaDoor
