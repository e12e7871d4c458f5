import Derived.Test.YtehpdhhlggegdaaDoorPairW
import Derived.Test.YtehpdhhlggegdaaDoorPack15
import Derived.Test.YtehpdhhlggegdaaDoorPack16
import Derived.Test.YtehpdhhlggegdaaDoorPack0
namespace Go.Proofs.YtehpdhhlggegdaaDoor
open Go.RowKit
set_option maxRecDepth 8000

theorem encB_alike : ∀ (t u : VT), VT.Alike t u → encB t = encB u := by
  intro t
  induction t with
  | nil => intro u h; rw [show u = .nil from h]
  | mk k i s n p c f ih =>
    intro u h
    cases u with
    | nil =>
      obtain ⟨h1, _⟩ := h
      simp only [VT.kind] at h1
      subst h1
      simp [encB]
    | mk k' i' s' n' p' c' f' =>
      obtain ⟨h1, h2, h3, h4, h5⟩ := h
      simp only [VT.kind_mk, VT.int_mk, VT.text_mk, VT.n_mk] at h1 h2 h3 h4
      subst h1 h2 h3 h4
      rw [encB_eq, encB_eq]
      have e : ((List.range n').flatMap fun j => encB (f j)) = ((List.range n').flatMap fun j => encB (f' j)) := by
        rw [List.flatMap_def, List.flatMap_def]
        congr 1
        apply List.map_congr_left
        intro j hj
        exact ih j _ (h5 j (List.mem_range.1 hj))
      rw [e]
theorem prB_alike : ∀ (t u : VT), VT.Alike t u → prB t = prB u := by
  intro t
  induction t with
  | nil => intro u h; rw [show u = .nil from h]
  | mk k i s n p c f ih =>
    intro u h
    cases u with
    | nil =>
      obtain ⟨h1, _⟩ := h
      simp only [VT.kind] at h1
      subst h1
      simp [prB]
    | mk k' i' s' n' p' c' f' =>
      obtain ⟨h1, h2, h3, h4, h5⟩ := h
      simp only [VT.kind_mk, VT.int_mk, VT.text_mk, VT.n_mk] at h1 h2 h3 h4
      subst h1 h2 h3 h4
      rw [prB_eq, prB_eq]
      have e : ((List.range n').flatMap fun j => (if 0 < j then [44, 32] else []) ++ prB (f j)) = ((List.range n').flatMap fun j => (if 0 < j then [44, 32] else []) ++ prB (f' j)) := by
        rw [List.flatMap_def, List.flatMap_def]
        congr 1
        apply List.map_congr_left
        intro j hj
        rw [ih j _ (h5 j (List.mem_range.1 hj))]
        rfl
      rw [e]
/-- bytes, all of them -/
def Bt (l : List Int) : Prop := ∀ x ∈ l, 0 ≤ x ∧ x < 256
theorem strOf_dat (zs : List Int) : (strOf zs).data.toList = zs.map fun z => UInt8.ofNat z.toNat := by
  have key : ∀ (zs : List Int) (r : ByteArray), (zs.foldl (fun r n => r.push (UInt8.ofNat n.toNat)) r).data.toList = r.data.toList ++ zs.map fun z => UInt8.ofNat z.toNat := by
    intro zs
    induction zs with
    | nil => intro r; simp
    | cons z zs ih =>
      intro r
      rw [List.foldl_cons, ih]
      simp [ByteArray.push]
  have h := key zs ByteArray.empty
  simpa [strOf] using h
theorem u8_inj : ∀ {a b : List Int}, Bt a → Bt b → (a.map fun z => UInt8.ofNat z.toNat) = (b.map fun z => UInt8.ofNat z.toNat) → a = b := by
  intro a
  induction a with
  | nil => intro b _ _ h; cases b <;> simp at h ⊢
  | cons x a ih =>
    intro b ha hb h
    cases b with
    | nil => simp at h
    | cons y b =>
      simp only [List.map_cons, List.cons.injEq] at h
      have h1 := ha x (by simp)
      have h2 := hb y (by simp)
      have h3 := congrArg UInt8.toNat h.1
      rw [UInt8.toNat_ofNat', UInt8.toNat_ofNat', Nat.mod_eq_of_lt (by omega), Nat.mod_eq_of_lt (by omega)] at h3
      rw [ih (fun z hz => ha z (by simp [hz])) (fun z hz => hb z (by simp [hz])) h.2, show x = y by omega]
theorem str_inj {a b : List Int} (ha : Bt a) (hb : Bt b) (h : (strOf a).toList = (strOf b).toList) : a = b := by
  rw [Go.Lib.toList_data, Go.Lib.toList_data, strOf_dat, strOf_dat] at h
  exact u8_inj ha hb h
theorem Bt.app {a b : List Int} (ha : Bt a) (hb : Bt b) : Bt (a ++ b) := fun x hx => (List.mem_append.1 hx).elim (ha x) (hb x)
theorem txt_bt (s : ByteArray) : Bt (txtB s) := txt_range s
theorem grp_bt (u : Nat) : Bt (grpB u) := by
  induction u using Nat.strongRecOn with
  | ind u ih =>
    by_cases hu : u < 128
    · rw [grpB_small hu]; intro x hx; simp only [List.mem_cons, List.not_mem_nil, or_false] at hx; omega
    · rw [grpB_great hu]
      intro x hx
      rcases List.mem_cons.1 hx with rfl | hx
      · omega
      · exact ih _ (by omega) x hx
theorem enc_bt : ∀ t : VT, Val t → Bt (encB t) := by
  intro t
  induction t with
  | nil => intro h; exact h.elim
  | mk k i s n p c f ih =>
    intro h
    obtain ⟨⟨h1, h2, h3, _, _⟩, h6⟩ := h
    obtain ⟨⟨a0, a3⟩, _⟩ := fit_facts h1
    rw [encB_eq]
    intro x hx
    rcases List.mem_cons.1 hx with rfl | hx
    · omega
    · split at hx
      · exact grp_bt _ x hx
      · split at hx
        · rcases List.mem_cons.1 hx with rfl | hx
          · omega
          · exact txt_bt s x hx
        · split at hx
          · rcases List.mem_cons.1 hx with rfl | hx
            · omega
            · obtain ⟨j, hj, hx⟩ := List.mem_flatMap.1 hx
              exact ih j (h6 j (List.mem_range.1 hj)) x hx
          · cases hx
theorem hexd_bt (d : Nat) (h : d < 16) : 0 ≤ hexd d ∧ hexd d < 256 := by unfold hexd; split <;> omega
theorem hexB_bt (l : List Int) : (∀ x ∈ l, 0 ≤ x ∧ x < 256) → Bt (hexB l) := by
  intro h x hx
  obtain ⟨b, hb, hx⟩ := List.mem_flatMap.1 hx
  have h1 := h b hb
  have e1 := hexd_bt (b.toNat / 16) (by omega)
  have e2 := hexd_bt (b.toNat % 16) (by omega)
  simp only [List.mem_cons, List.not_mem_nil, or_false] at hx
  rcases hx with rfl | rfl | rfl | rfl <;> omega
theorem piece_bt (s : ByteArray) (a : Nat) : Bt (piece s a) := by
  unfold piece
  split
  · rename_i h
    intro x hx
    simp only [List.mem_cons, List.not_mem_nil, or_false] at hx
    omega
  split
  · intro x hx; simp only [List.mem_cons, List.not_mem_nil, or_false] at hx; omega
  split
  · intro x hx; simp only [List.mem_cons, List.not_mem_nil, or_false] at hx; omega
  split
  · exact txt_bt _
  · exact hexB_bt _ fun x hx => txt_range s x (List.mem_of_mem_drop (List.mem_of_mem_take hx))
theorem quoF_bt (s : ByteArray) : ∀ k a, Bt (quoF s k a) := by
  intro k
  induction k with
  | zero => intro a x hx; cases hx
  | succ k ih =>
    intro a
    rw [quoF]
    split
    · exact (piece_bt s a).app (ih _)
    · intro x hx; cases hx
theorem pr_bt : ∀ t : VT, Bt (prB t) := by
  intro t
  have n4 : Bt [110, 111, 110, 101] := by intro x hx; simp only [List.mem_cons, List.not_mem_nil, or_false] at hx; omega
  induction t with
  | nil => exact n4
  | mk k i s n p c f ih =>
    rw [prB_eq]
    split
    · intro x hx
      unfold itoaB at hx
      obtain ⟨b, _, rfl⟩ := List.mem_map.1 hx
      have := b.toNat_lt
      omega
    · split
      · rw [quoB]
        refine Bt.app (Bt.app ?_ (quoF_bt s _ _)) ?_
        all_goals (intro x hx; simp only [List.mem_cons, List.not_mem_nil, or_false] at hx; omega)
      · split
        · refine Bt.app (Bt.app ?_ ?_) ?_
          · intro x hx; simp only [List.mem_cons, List.not_mem_nil, or_false] at hx; omega
          · intro x hx
            obtain ⟨j, _, hx⟩ := List.mem_flatMap.1 hx
            rcases List.mem_append.1 hx with hx | hx
            · split at hx
              · simp only [List.mem_cons, List.not_mem_nil, or_false] at hx; omega
              · cases hx
            · exact ih j x hx
          · intro x hx; simp only [List.mem_cons, List.not_mem_nil, or_false] at hx; omega
        · exact n4
theorem stop_nil : Stop [] := fun x l h => by cases h
theorem alike_symm {X Y : VT} (hX : Val X) (hY : Val Y) (h : VT.Alike X Y) : VT.Alike Y X := by
  have h1 := (ordV_zero X Y hX hY).2 h
  have h2 := ordV_anti X Y hX hY
  exact (ordV_zero Y X hY hX).1 (by omega)
theorem beg_no {X Y : VT} (hX : Val X) (hY : Val Y) (hn : ¬ VT.Alike X Y) : begB (encB X) (encB Y) = false := by
  cases hb : begB (encB X) (encB Y) with
  | false => rfl
  | true =>
    exfalso
    unfold begB at hb
    simp only [Bool.and_eq_true, decide_eq_true_eq, beq_iff_eq] at hb
    have e := str_inj (fun x hx => enc_bt X hX x (List.mem_of_mem_take hx)) (enc_bt Y hY) hb.2
    have e2 : encB Y ++ (encB X).drop (encB Y).length = encB X ++ [] := by
      have h := List.take_append_drop (encB Y).length (encB X)
      rw [e] at h
      rw [List.append_nil]
      exact h
    exact hn (alike_symm hY hX (enc_inj Y X _ _ hY hX e2).1)
theorem pair_ok {X Y : VT} (hX : Val X) (hY : Val Y) : PairOk X Y := by
  have hr := ordV_range X Y
  refine ⟨hr.1, hr.2, ordV_anti X Y hX hY, fun h => ⟨(ordV_zero X Y hX hY).2 h, by rw [prB_alike X Y h], by rw [encB_alike X Y h]⟩, fun h => ⟨fun e => h ((ordV_zero X Y hX hY).1 e), ?_, beg_no hX hY h, beg_no hY hX (fun e => h (alike_symm hY hX e)), ?_, ?_⟩⟩
  · rw [beq_eq_false_iff_ne]
    intro e
    have e2 := str_inj (pr_bt X) (pr_bt Y) e
    exact h (pr_inj X Y [] [] hX hY stop_nil stop_nil (by rw [e2])).1
  · intro hk
    cases X with
    | nil => exact hX.elim
    | mk k i s n p c f =>
      cases Y with
      | nil => exact hY.elim
      | mk k2 i2 s2 n2 p2 c2 f2 =>
        simp only [VT.kind_mk] at hk ⊢
        rw [ordV_mk, if_pos hk, beq_iff_eq]
        exact decide_eq_decide.2 (cmpI_neg k k2).symm
  · intro hk h1
    cases X with
    | nil => exact hX.elim
    | mk k i s n p c f =>
      cases Y with
      | nil => exact hY.elim
      | mk k2 i2 s2 n2 p2 c2 f2 =>
        simp only [VT.kind_mk, VT.int_mk] at hk h1 ⊢
        rw [ordV_mk, if_neg (fun h => h hk), if_pos h1, beq_iff_eq]
        exact decide_eq_decide.2 (cmpI_neg i i2).symm
end Go.Proofs.YtehpdhhlggegdaaDoor

namespace Go.Proofs.YtehpdhhlggegdaaDoor
open Go.RowKit
set_option maxRecDepth 8000

theorem szOk_any (w : World) (b : Nat) (l : Int) (hb : Box w b #[.int .i64 l] 57) :
    Calls Tryd.prog 17 #[.pointer (some ⟨b, 0, none⟩)] w fun e w' => e = .returned (.bool (decide (0 ≤ l))) ∧ w' = w := by
  have hc : w.cell? ⟨b, 0, none⟩ = some (.int .i64 l) := hb.cell 0
  go_enter Tryd.func17, Tryd.ntmps17
  go_wp2
  go_ret
  exact ⟨by simp, rfl⟩

theorem szAdd_pos (w : World) (b : Nat) (l n : Int) (hb : Box w b #[.int .i64 l] 57) (hl : 0 ≤ l) (hl2 : l ≤ 10000) (hn : 0 ≤ n) (hn2 : n ≤ 281474976710656) :
    Calls Tryd.prog 30 #[.pointer (some ⟨b, 0, none⟩), .int .i64 n] w fun e w' => e = .returned (.bool (decide (0 ≤ l - n))) ∧ Box w' b #[.int .i64 (l - n)] 57 ∧ But (fun k => k = b) w w' := by
  have hc : w.cell? ⟨b, 0, none⟩ = some (.int .i64 l) := hb.cell 0
  have hf : w.frozen? ⟨b, 0, none⟩ = false := hb.frozen 0
  have hlt := hb.lt
  have H1 : Hid (Box (w.setCell ⟨b, 0, none⟩ (.int .i64 (l - n))) b #[.int .i64 (l - n)] 57) := by
    have := hb.set 0 (.int .i64 (l - n)); unfold Hid; simpa using this
  have H2 : Hid (But (fun k => k = b) w (w.setCell ⟨b, 0, none⟩ (.int .i64 (l - n)))) := by
    unfold Hid; exact (But.refl (fun k => k = b) w).setCell (p := ⟨b, 0, none⟩) (fun _ => rfl) _
  clear hb
  go_enter Tryd.func30, Tryd.ntmps30
  go_wp2
  go_ret
  exact ⟨by simp, H1.out, H2.out⟩

theorem szAdd_neg (w : World) (b : Nat) (l n : Int) (hb : Box w b #[.int .i64 l] 57) (hl : l < 0) :
    Calls Tryd.prog 30 #[.pointer (some ⟨b, 0, none⟩), .int .i64 n] w fun e w' => e = .returned (.bool false) ∧ w' = w := by
  have hc : w.cell? ⟨b, 0, none⟩ = some (.int .i64 l) := hb.cell 0
  clear hb
  go_enter Tryd.func30, Tryd.ntmps30
  go_wp2
  go_ret
  exact ⟨by simp; assumption, rfl⟩

/-- what the count says of the parts below t: it was l ahead of them and is m behind them -/
structure Told (l m : Int) (total : Nat) : Prop where
  ok : 0 ≤ m → 0 ≤ l ∧ m = l - total
  le : m ≤ l
  low : -1000000000000000 ≤ m

set_option maxHeartbeats 1000000 in
theorem szValues_any (t : VT) : ∀ (w : World) (S : Nat → Prop) (b : Nat) (l : Int), VT.In w S t → ¬ S b → Box w b #[.int .i64 l] 57 → 0 ≤ l → l ≤ 10000 →
    Calls Tryd.prog 16 #[.pointer (some ⟨b, 0, none⟩), t.row] w fun e w' => e = .returned (.tuple #[]) ∧ ∃ m, Box w' b #[.int .i64 m] 57 ∧ Told l m t.total ∧ But (fun k => k = b) w w' := by
  induction t with
  | nil => intro w S b l hin; exact hin.elim
  | mk k i s n p c f ih =>
    intro w S b l hin hS hb hl hl2
    have hfit := hin.fit
    have hcc := hfit.nn
    simp only [VT.n] at hcc
    have HT : Hid (∀ j, VT.upto (.mk k i s n p c f) (j + 1) = VT.upto (.mk k i s n p c f) j + (f j).total) := fun j => VT.upto_succ _ j
    have HE : Hid ((VT.mk k i s n p c f).total = n + VT.upto (.mk k i s n p c f) n) := VT.total_upto _
    have HA := szAdd_pos w b l (n : Int) hb hl hl2 (by omega) (by omega)
    simp only [VT.row, VT.p, VT.n, VT.c]
    clear hb
    go_enter Tryd.func16, Tryd.ntmps16
    go_wp2_with (go_at_call 30; refine HA.mono ?_; rintro e w1 ⟨rfl, hb1, hk1⟩)
    have HI : Hid (VT.In w S (.mk k i s n p c f)) := hin
    clear hin hfit HA
    go_loopw [4] (fun x wr => ∃ j : Nat, j ≤ n ∧ x = .int .i64 j ∧ ∃ m : Int, Box wr b #[.int .i64 m] 57 ∧ Told l m (n + VT.upto (.mk k i s n p c f) j) ∧ But (fun k => k = b) w wr) (fun x _ => n - (intOf x).toNat)
    case atStart => exact ⟨0, Nat.zero_le _, rfl, l - n, hb1, ⟨fun h => ⟨hl, by simp [VT.upto]⟩, by omega, by omega⟩, hk1⟩
    case round =>
      obtain ⟨j, hj, rfl, m, hbm, htold, hkm⟩ := hrel
      clear hb1 hk1
      have HO := szOk_any wr b m hbm
      by_cases hlt : j < n
      · have hlt' : (j : Int) < (n : Int) := by omega
        by_cases hm : 0 ≤ m
        · have hd : decide (0 ≤ m) = true := decide_eq_true hm
          rw [hd] at HO
          obtain ⟨bb, o, hp, hSb, hbl, hat⟩ := HI.out.at_ (show 0 < (VT.mk k i s n p c f).n from by simp only [VT.n]; omega)
          simp only [VT.p] at hp
          subst hp
          have hne : bb ≠ b := fun e => hS (e ▸ hSb)
          have c3 := ((hat j hlt).kept (hkm.block bb hbl hne)).c3
          simp only [VT.item] at c3
          have HC : Hid (Calls Tryd.prog 16 #[.pointer (some ⟨b, 0, none⟩), (f j).row] wr fun e w' => e = .returned (.tuple #[]) ∧ ∃ m', Box w' b #[.int .i64 m'] 57 ∧ Told m m' (f j).total ∧ But (fun k => k = b) wr w') :=
            ih j wr S b m ((HI.out.sub hlt).but hkm (fun x hx _ e => hS (e ▸ hx))) hS hbm hm (by have := htold.le; omega)
          unfold VT.row at HC
          clear hat
          go_wp2_with (first | (go_at_call 17; refine HO.mono ?_; rintro e w2 ⟨rfl, rfl⟩) | (go_at_call 16; refine HC.out.mono ?_; rintro e w3 ⟨rfl, m', hb3, ht3, hk3⟩))
          go_roundw
          case rel =>
            have hu := HT.out j
            refine ⟨j + 1, by omega, by go_num, m', hb3, ⟨fun h => ?_, ?_, ?_⟩, hkm.trans hk3⟩
            · have a1 := ht3.ok h
              have a2 := htold.ok hm
              refine ⟨a2.1, ?_⟩
              rw [hu]; omega
            · have a1 := ht3.le
              have a2 := htold.le
              omega
            · exact ht3.low
          case measure => simp [intOf]; omega
        · have hd : decide (0 ≤ m) = false := decide_eq_false hm
          rw [hd] at HO
          go_wp2_with (go_at_call 17; refine HO.mono ?_; rintro e w2 ⟨rfl, rfl⟩)
          go_end0
          exact ⟨rfl, m, hbm, ⟨fun h => absurd h (by omega), htold.le, htold.low⟩, hkm⟩
      · obtain rfl : j = n := by omega
        go_wp2_with fail
        go_end0
        refine ⟨rfl, m, hbm, ?_, hkm⟩
        rw [HE.out]
        exact htold

set_option maxHeartbeats 400000 in
theorem sizes_any (t : VT) (w : World) (S : Nat → Prop) (hin : VT.In w S t) (hS : ∀ b, S b → b < w.heap.size) :
    Calls Tryd.prog 5 #[t.row] w fun e w' => ∃ r, e = .returned (.bool r) ∧ (r = true → t.total ≤ 10000) ∧ Below w.heap.size w w' := by
  have HN : Hid (∀ w' : World, Calls Tryd.prog 15 #[] w' fun e w1 => e = .returned (.pointer (some ⟨w'.heap.size, 0, none⟩)) ∧ w1 = w'.alloc (.cells #[.int .i64 10000] 57)) := by
    unfold Hid
    intro w'
    go_enter Tryd.func15, Tryd.ntmps15
    go_wp2
    go_ret
    exact ⟨rfl, rfl⟩
  have hw1 : Below w.heap.size w (w.alloc (.cells #[.int .i64 10000] 57)) := (Below.refl _ _).alloc (Nat.le_refl _) _
  have HV := szValues_any t (w.alloc (.cells #[.int .i64 10000] 57)) S w.heap.size 10000 (hin.below hw1) (fun h => absurd (hS _ h) (by omega)) (Box.new _ _ _) (by omega) (by omega)
  unfold VT.row at HV ⊢
  have HH : Hid (∀ k, k < w.heap.size → ¬ (k = w.heap.size)) := fun k hk => by omega
  have HW : Hid (Below w.heap.size w (w.alloc (.cells #[.int .i64 10000] 57))) := hw1
  have hsz : w.heap.size ≤ (w.alloc (.cells #[.int .i64 10000] 57)).heap.size := hw1.size
  have HSz : Hid (w.heap.size ≤ (w.alloc (.cells #[.int .i64 10000] 57)).heap.size) := hsz
  clear hin hS hw1 hsz
  go_enter Tryd.func5, Tryd.ntmps5
  go_wp2_with (first | (go_at_call 15; refine (HN.out _).mono ?_; rintro e w1 ⟨rfl, rfl⟩) | (go_at_call 16; refine HV.mono ?_; rintro e w2 ⟨rfl, m, hb2, ht2, hk2⟩))
  have HO := szOk_any w2 _ m hb2
  go_wp2_with (go_at_call 17; refine HO.mono ?_; rintro e w3 ⟨rfl, rfl⟩)
  go_ret
  refine ⟨_, rfl, fun h => ?_, HW.out.trans (hk2.below HSz.out HH.out)⟩
  have h0 : 0 ≤ m := of_decide_eq_true h
  have := ht2.ok h0
  omega
end Go.Proofs.YtehpdhhlggegdaaDoor
