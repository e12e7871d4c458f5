import Derived.Test.YtoifpdnaeogdgabDoorPack36
import Derived.Test.YtoifpdnaeogdgabDoorCntW
import Derived.Test.YtoifpdnaeogdgabDoorPack0
namespace Go.Proofs.YtoifpdnaeogdgabDoor
open Go.RowKit
set_option maxRecDepth 8000
def BtL (zs : List Int) : Prop := ∀ x ∈ zs, 0 ≤ x ∧ x < 256
theorem BtL.app {a b : List Int} (ha : BtL a) (hb : BtL b) : BtL (a ++ b) := fun x hx => (List.mem_append.1 hx).elim (ha x) (hb x)
theorem BtL.cons {x : Int} {b : List Int} (h1 : 0 ≤ x) (h2 : x < 256) (hb : BtL b) : BtL (x :: b) := fun y hy => (List.mem_cons.1 hy).elim (fun e => by subst e; exact ⟨h1, h2⟩) (hb y)
theorem BtL.nil : BtL [] := fun x hx => by cases hx
theorem Blank.bt {b : List Int} (h : Blank b) : BtL b := fun x hx => by have := h x hx; omega
theorem LooseQ.bt {l t : List Int} (h : LooseQ l t) : BtL t := by
  induction h with
  | nil => exact .nil
  | raw h1 h2 _ _ _ ih => exact .cons (by omega) (by omega) ih
  | hex _ _ h3 h4 _ ih =>
    obtain ⟨n, rfl, _, hn⟩ := h3
    obtain ⟨m, rfl, _, hm⟩ := h4
    exact .cons (by omega) (by omega) (.cons (by omega) (by omega) (.cons (by omega) (by omega) (.cons (by omega) (by omega) ih)))
theorem rest_bt {R : Nat → List Int → Prop} : ∀ (m j : Nat) (zs : List Int), (∀ i c, j ≤ i → i < j + m → R i c → BtL c) → restL R j m zs → BtL zs := by
  intro m
  induction m with
  | zero => intro j zs _ h; obtain ⟨b, hb, rfl⟩ := h; exact hb.bt.app (.cons (by omega) (by omega) .nil)
  | succ m ih =>
    intro j zs hR h
    obtain ⟨b1, b2, c, r, hb1, hb2, hc, hr, rfl⟩ := h
    exact hb1.bt.app (.cons (by omega) (by omega) (hb2.bt.app ((hR j c (Nat.le_refl _) (by omega) hc).app (ih (j + 1) r (fun i c h1 h2 => hR i c (by omega) (by omega)) hr))))
theorem loose_bt : ∀ (t : VT) (zs : List Int), looseT t zs → BtL zs := by
  intro t
  induction t with
  | nil => intro zs h; exact h.elim
  | mk k i s n p c f ih =>
    intro zs h
    rw [looseT_eq] at h
    split at h
    · subst h
      intro x hx
      unfold itoaB at hx
      obtain ⟨b, _, rfl⟩ := List.mem_map.1 hx
      have := b.toNat_lt
      omega
    split at h
    · obtain ⟨t, ht, rfl⟩ := h
      exact .cons (by omega) (by omega) (ht.bt.app (.cons (by omega) (by omega) .nil))
    split at h
    · rcases h with ⟨_, b, hb, rfl⟩ | ⟨h0, b, c0, r, hb, hc0, hr, rfl⟩
      · exact .cons (by omega) (by omega) (hb.bt.app (.cons (by omega) (by omega) .nil))
      · exact .cons (by omega) (by omega) (hb.bt.app ((ih 0 c0 hc0).app (rest_bt _ _ r (fun i c _ _ hc => ih i c hc) hr)))
    · subst h
      exact .cons (by omega) (by omega) (.cons (by omega) (by omega) (.cons (by omega) (by omega) (.cons (by omega) (by omega) .nil)))
theorem cost_flat : ∀ t : VT, costL t ≤ 600 * (flatP t).length := by
  intro t
  induction t with
  | nil => simp [costL]
  | mk k i s n p c f ih =>
    rw [flatP_eq]
    simp only [costL, List.length_cons]
    have key : ∀ m, ((List.range m).map fun j => costL (f j)).sum ≤ 600 * ((List.range m).flatMap fun j => flatP (f j)).length := by
      intro m
      induction m with
      | zero => simp
      | succ m ihm =>
        rw [List.range_succ, List.map_append, List.sum_append, List.flatMap_append, List.length_append]
        simp only [List.map_cons, List.map_nil, List.sum_cons, List.sum_nil, List.flatMap_cons, List.flatMap_nil, List.append_nil]
        have := ih m
        omega
    have := key n
    omega
theorem has_self {zs : List Int} (h : BtL zs) : Has (strOf zs) 0 zs := by have := has_strOf (r := []) h; rw [List.append_nil] at this; exact this
theorem loose_lead {t : VT} (ht : Val t) {q' : Nat} (hc : chk t 0 0 = (0, q')) {zs r : List Int} (hz : looseT t zs) (hr : BtL r) (hd : ∀ x y, r = x :: y → ¬ (48 ≤ x ∧ x ≤ 57)) : ∃ u, parS (strOf (zs ++ r)) 3 0 0 0 = .ok (u, zs.length, q') ∧ VT.Alike t u := by
  have hb := loose_bt t zs hz
  obtain ⟨h1, h2⟩ := (has_self (hb.app hr)).app
  obtain ⟨u, e1, e2⟩ := par_loose (s := strOf (zs ++ r)) t 0 ht (by omega) 0 0 q' zs hc hz h1 (by
    cases r with
    | nil => rw [Nat.zero_add, pk_end (by rw [strOf_size]; simp)]; unfold NoDig; omega
    | cons x y =>
      have h3 := hd x y rfl
      have h4 := h2.cons.1.1
      unfold NoDig; omega)
  rw [Nat.zero_add] at e1
  exact ⟨u, e1, e2⟩
theorem tl_str (a b : List Int) : tl (strOf (a ++ b)) a.length = strOf b := bytes_ext (by
  rw [tl_list, strOf_datC, strOf_datC, List.map_append, List.drop_append_of_le_length (by simp)]
  simp)
theorem loose_parse {t : VT} (ht : Val t) {q' : Nat} (hc : chk t 0 0 = (0, q')) {zs b1 b2 : List Int} (hz : looseT t zs) (hb1 : Blank b1) (hb2 : Blank b2) : ∃ u, parseS (strOf (b1 ++ (zs ++ b2))) = .ok (u, (strOf (b1 ++ (zs ++ b2))).size) ∧ VT.Alike t u := by
  have hb := loose_bt t zs hz
  obtain ⟨h1, h2⟩ := (has_self (hb1.bt.app (hb.app hb2.bt))).app
  obtain ⟨h3, h4⟩ := h2.app
  obtain ⟨u, e1, e2⟩ := loose_lead ht hc (r := b2) hz hb2.bt (fun x y hxy => by have := hb2 x (by rw [hxy]; simp); omega)
  obtain ⟨x, y, hxy, n, hcn, hbg⟩ := loose_head ht hz
  have hbn := beg_not hbg
  have hf : ((pk (strOf (b1 ++ (zs ++ b2))) (0 + b1.length) : Nat) : Int) = x := by
    have := (h3 0 x (by rw [hxy]; rfl)).1
    rw [Nat.add_zero] at this
    exact this
  have hsz : (strOf (b1 ++ (zs ++ b2))).size = b1.length + (zs.length + b2.length) := by rw [strOf_size]; simp
  have hbl : blL (strOf (b1 ++ (zs ++ b2))).data.toList = b1.length := by
    have h0 := sk_blank (s := strOf (b1 ++ (zs ++ b2))) b1 0 hb1 h1 (by omega) (by omega)
    unfold skS at h0
    rw [List.drop_zero] at h0
    omega
  refine ⟨u, ?_, e2⟩
  unfold parseS
  rw [hbl, tl_str, e1]
  unfold endS
  simp only
  have hend := pk_end (s := strOf (b1 ++ (zs ++ b2))) (a := b1.length + zs.length + b2.length) (by omega)
  have hsk := sk_blank (s := strOf (b1 ++ (zs ++ b2))) b2 (b1.length + zs.length) hb2 (by rw [Nat.zero_add] at h4; exact h4) (by rw [hend]; omega) (by rw [hend]; omega)
  rw [hsk, if_neg (by omega), hsz]
  congr 2
  omega
end Go.Proofs.YtoifpdnaeogdgabDoor

namespace Go.Proofs.YtoifpdnaeogdgabDoor
open Go.RowKit
set_option maxRecDepth 8000
set_option maxHeartbeats 1000000 in
theorem clean_any (t : VT) (w : World) (S : Nat → Prop) (hin : VT.In w S t) (ht : t.total ≤ 10000) :
    Calls Tryd.prog 5 #[t.val] w fun e w' => e = .returned (.agg #[.int .i64 (cleanT t).kind, .int .i64 (cleanT t).int, .string (cleanT t).text, .slice (cleanT t).p (cleanT t).n (cleanT t).c]) ∧ Below w.heap.size w w' := by
  have HC : Hid (∀ W, Below w.heap.size w W → Calls Tryd.prog 14 #[t.val, .int .i64 0] W fun e w' => e = .returned (.int .i64 (cnt t 0 : Int)) ∧ Below W.heap.size W w') := fun W hW => lawCount_any t 0 W S (hin.below hW) ht (by omega)
  have hcl := cnt_le t 0
  have hcc := cnt_clean t
  obtain ⟨k, i, s, n, p, c, f, rfl⟩ := hin.mk_
  simp only [VT.val, VT.kind_mk, VT.int_mk, VT.text_mk, VT.p_mk, VT.n_mk, VT.c_mk] at HC ⊢
  have hc10 : cnt (.mk k i s n p c f) 0 ≤ 10001000000 := by omega
  have HE : Hid (cleanT (.mk k i s n p c f) = if 12 < cnt (.mk k i s n p c f) 0 then zeroT else .mk k i s n p c f) := by
    unfold Hid cleanT
    by_cases h : (chk (.mk k i s n p c f) 0 0).1 = 0
    · rw [if_pos h, if_neg (fun h2 => hcc.1 h2 h)]
    · rw [if_neg h, if_pos (hcc.2 h)]
  clear hin ht hcl hcc
  generalize cnt (.mk k i s n p c f) 0 = N at *
  go_enter Tryd.func5, Tryd.ntmps5
  go_wp2_with fail
  have hS1 : Box ((w.alloc (.cells #[.int .i64 k, .int .i64 i, .string s, .slice p n c] 24)).alloc (.cells #[.int .i64 0, .int .i64 0, .string ⟨#[]⟩, .slice none 0 0] 24)) w.heap.size #[.int .i64 k, .int .i64 i, .string s, .slice p n c] 24 := (Box.new w _ 24).below ((Below.refl _ _).alloc (Nat.le_refl _) _)
  have hS2 : Box ((w.alloc (.cells #[.int .i64 k, .int .i64 i, .string s, .slice p n c] 24)).alloc (.cells #[.int .i64 0, .int .i64 0, .string ⟨#[]⟩, .slice none 0 0] 24)) (w.heap.size + 1) #[.int .i64 0, .int .i64 0, .string ⟨#[]⟩, .slice none 0 0] 24 := by
    have h := Box.new (w.alloc (.cells #[.int .i64 k, .int .i64 i, .string s, .slice p n c] 24)) #[.int .i64 0, .int .i64 0, .string ⟨#[]⟩, .slice none 0 0] 24
    simpa using h
  have hS3 : Below w.heap.size w ((w.alloc (.cells #[.int .i64 k, .int .i64 i, .string s, .slice p n c] 24)).alloc (.cells #[.int .i64 0, .int .i64 0, .string ⟨#[]⟩, .slice none 0 0] 24)) := ((Below.refl _ _).alloc (Nat.le_refl _) _).alloc (by simp) _
  refine (HC.out _ hS3).mono ?_
  rintro e w1 ⟨rfl, hb1⟩
  have hB0 := hS1.below hb1
  have hB1 := hS2.below hb1
  have hbw := hS3.trans (hb1.mono hS3.size)
  have x0 := hB0.cell 0
  have x1 := hB0.cell 1
  have x2 := hB0.cell 2
  have x3 := hB0.cell 3
  have g0 := hB1.frozen 0
  have g1 := hB1.frozen 1
  have g2 := hB1.frozen 2
  have g3 := hB1.frozen 3
  have d0 := hB1.cell 0
  have d1 := hB1.cell 1
  have d2 := hB1.cell 2
  have d3 := hB1.cell 3
  have hl := hB1.lt
  simp at x0 x1 x2 x3 d0 d1 d2 d3
  clear hS1 hS2 hS3 hb1 HC
  by_cases hN : 12 < N
  · have hN' : (12 : Int) < (N : Int) := by omega
    go_wp2
    have hk : But (fun x => x = w.heap.size + 1) w1 ((((w1.setCell ⟨w.heap.size + 1, 0, none⟩ (.int .i64 0)).setCell ⟨w.heap.size + 1, 1, none⟩ (.int .i64 0)).setCell ⟨w.heap.size + 1, 2, none⟩ (.string ⟨#[]⟩)).setCell ⟨w.heap.size + 1, 3, none⟩ (.slice none 0 0)) :=
      ((((But.one _ (w.heap.size + 1)).setAt 0 _).setAt 1 _).setAt 2 _).setAt 3 _
    refine bodyPost_ret (v := .agg #[.int .i64 0, .int .i64 0, .string ⟨#[]⟩, .slice none 0 0]) (by simp [results, Tryd.results5, go_sem, d0, d1, d2, d3]) rfl ⟨by rw [HE.out, if_pos hN]; rfl, hbw.trans (hk.below (by omega) (fun x hx => by omega))⟩
  · have hN' : ¬ (12 : Int) < (N : Int) := by omega
    go_wp2
    have hk : But (fun x => x = w.heap.size + 1) w1 ((((w1.setCell ⟨w.heap.size + 1, 0, none⟩ (.int .i64 k)).setCell ⟨w.heap.size + 1, 1, none⟩ (.int .i64 i)).setCell ⟨w.heap.size + 1, 2, none⟩ (.string s)).setCell ⟨w.heap.size + 1, 3, none⟩ (.slice p n c)) :=
      ((((But.one _ (w.heap.size + 1)).setAt 0 _).setAt 1 _).setAt 2 _).setAt 3 _
    refine bodyPost_ret (v := .agg #[.int .i64 k, .int .i64 i, .string s, .slice p n c]) (by simp [results, Tryd.results5, go_sem, d0, d1, d2, d3]) rfl ⟨by rw [HE.out, if_neg hN]; rfl, hbw.trans (hk.below (by omega) (fun x hx => by omega))⟩
end Go.Proofs.YtoifpdnaeogdgabDoor

namespace Go.Proofs.YtoifpdnaeogdgabDoor
open Go.RowKit
set_option maxRecDepth 8000

theorem szOk_any (w : World) (b : Nat) (l : Int) (hb : Box w b #[.int .i64 l] 54) :
    Calls Tryd.prog 13 #[.pointer (some ⟨b, 0, none⟩)] w fun e w' => e = .returned (.bool (decide (0 ≤ l))) ∧ w' = w := by
  have hc : w.cell? ⟨b, 0, none⟩ = some (.int .i64 l) := hb.cell 0
  go_enter Tryd.func13, Tryd.ntmps13
  go_wp2
  go_ret
  exact ⟨by simp, rfl⟩

theorem szAdd_pos (w : World) (b : Nat) (l n : Int) (hb : Box w b #[.int .i64 l] 54) (hl : 0 ≤ l) (hl2 : l ≤ 10000) (hn : 0 ≤ n) (hn2 : n ≤ 281474976710656) :
    Calls Tryd.prog 22 #[.pointer (some ⟨b, 0, none⟩), .int .i64 n] w fun e w' => e = .returned (.bool (decide (0 ≤ l - n))) ∧ Box w' b #[.int .i64 (l - n)] 54 ∧ But (fun k => k = b) w w' := by
  have hc : w.cell? ⟨b, 0, none⟩ = some (.int .i64 l) := hb.cell 0
  have hf : w.frozen? ⟨b, 0, none⟩ = false := hb.frozen 0
  have hlt := hb.lt
  have H1 : Hid (Box (w.setCell ⟨b, 0, none⟩ (.int .i64 (l - n))) b #[.int .i64 (l - n)] 54) := by
    have := hb.set 0 (.int .i64 (l - n)); unfold Hid; simpa using this
  have H2 : Hid (But (fun k => k = b) w (w.setCell ⟨b, 0, none⟩ (.int .i64 (l - n)))) := by
    unfold Hid; exact (But.refl (fun k => k = b) w).setCell (p := ⟨b, 0, none⟩) (fun _ => rfl) _
  clear hb
  go_enter Tryd.func22, Tryd.ntmps22
  go_wp2
  go_ret
  exact ⟨by simp, H1.out, H2.out⟩

theorem szAdd_neg (w : World) (b : Nat) (l n : Int) (hb : Box w b #[.int .i64 l] 54) (hl : l < 0) :
    Calls Tryd.prog 22 #[.pointer (some ⟨b, 0, none⟩), .int .i64 n] w fun e w' => e = .returned (.bool false) ∧ w' = w := by
  have hc : w.cell? ⟨b, 0, none⟩ = some (.int .i64 l) := hb.cell 0
  clear hb
  go_enter Tryd.func22, Tryd.ntmps22
  go_wp2
  go_ret
  exact ⟨by simp; assumption, rfl⟩

/-- what the count says of the parts below t: it was l ahead of them and is m behind them -/
structure Told (l m : Int) (total : Nat) : Prop where
  ok : 0 ≤ m → 0 ≤ l ∧ m = l - total
  le : m ≤ l
  low : -1000000000000000 ≤ m

set_option maxHeartbeats 1000000 in
theorem szValues_any (t : VT) : ∀ (w : World) (S : Nat → Prop) (b : Nat) (l : Int), VT.In w S t → ¬ S b → Box w b #[.int .i64 l] 54 → 0 ≤ l → l ≤ 10000 →
    Calls Tryd.prog 12 #[.pointer (some ⟨b, 0, none⟩), t.row] w fun e w' => e = .returned (.tuple #[]) ∧ ∃ m, Box w' b #[.int .i64 m] 54 ∧ Told l m t.total ∧ But (fun k => k = b) w w' := by
  induction t with
  | nil => intro w S b l hin; exact hin.elim
  | mk k i s n p c f ih =>
    intro w S b l hin hS hb hl hl2
    have hfit := hin.fit
    have hcc := hfit.nn
    simp only [VT.n] at hcc
    have HT : Hid (∀ j, VT.upto (.mk k i s n p c f) (j + 1) = VT.upto (.mk k i s n p c f) j + (f j).total) := fun j => VT.upto_succ _ j
    have HE : Hid ((VT.mk k i s n p c f).total = n + VT.upto (.mk k i s n p c f) n) := VT.total_upto _
    have HA := szAdd_pos w b l (n : Int) hb hl hl2 (by omega) (by omega)
    simp only [VT.row, VT.p, VT.n, VT.c]
    clear hb
    go_enter Tryd.func12, Tryd.ntmps12
    go_wp2_with (go_at_call 22; refine HA.mono ?_; rintro e w1 ⟨rfl, hb1, hk1⟩)
    have HI : Hid (VT.In w S (.mk k i s n p c f)) := hin
    clear hin hfit HA
    go_loopw [4] (fun x wr => ∃ j : Nat, j ≤ n ∧ x = .int .i64 j ∧ ∃ m : Int, Box wr b #[.int .i64 m] 54 ∧ Told l m (n + VT.upto (.mk k i s n p c f) j) ∧ But (fun k => k = b) w wr) (fun x _ => n - (intOf x).toNat)
    case atStart => exact ⟨0, Nat.zero_le _, rfl, l - n, hb1, ⟨fun h => ⟨hl, by simp [VT.upto]⟩, by omega, by omega⟩, hk1⟩
    case round =>
      obtain ⟨j, hj, rfl, m, hbm, htold, hkm⟩ := hrel
      clear hb1 hk1
      have HO := szOk_any wr b m hbm
      by_cases hlt : j < n
      · have hlt' : (j : Int) < (n : Int) := by omega
        by_cases hm : 0 ≤ m
        · have hd : decide (0 ≤ m) = true := decide_eq_true hm
          rw [hd] at HO
          obtain ⟨bb, o, hp, hSb, hbl, hat⟩ := HI.out.at_ (show 0 < (VT.mk k i s n p c f).n from by simp only [VT.n]; omega)
          simp only [VT.p] at hp
          subst hp
          have hne : bb ≠ b := fun e => hS (e ▸ hSb)
          have c3 := ((hat j hlt).kept (hkm.block bb hbl hne)).c3
          simp only [VT.item] at c3
          have HC : Hid (Calls Tryd.prog 12 #[.pointer (some ⟨b, 0, none⟩), (f j).row] wr fun e w' => e = .returned (.tuple #[]) ∧ ∃ m', Box w' b #[.int .i64 m'] 54 ∧ Told m m' (f j).total ∧ But (fun k => k = b) wr w') :=
            ih j wr S b m ((HI.out.sub hlt).but hkm (fun x hx _ e => hS (e ▸ hx))) hS hbm hm (by have := htold.le; omega)
          unfold VT.row at HC
          clear hat
          go_wp2_with (first | (go_at_call 13; refine HO.mono ?_; rintro e w2 ⟨rfl, rfl⟩) | (go_at_call 12; refine HC.out.mono ?_; rintro e w3 ⟨rfl, m', hb3, ht3, hk3⟩))
          go_roundw
          case rel =>
            have hu := HT.out j
            refine ⟨j + 1, by omega, by go_num, m', hb3, ⟨fun h => ?_, ?_, ?_⟩, hkm.trans hk3⟩
            · have a1 := ht3.ok h
              have a2 := htold.ok hm
              refine ⟨a2.1, ?_⟩
              rw [hu]; omega
            · have a1 := ht3.le
              have a2 := htold.le
              omega
            · exact ht3.low
          case measure => simp [intOf]; omega
        · have hd : decide (0 ≤ m) = false := decide_eq_false hm
          rw [hd] at HO
          go_wp2_with (go_at_call 13; refine HO.mono ?_; rintro e w2 ⟨rfl, rfl⟩)
          go_end0
          exact ⟨rfl, m, hbm, ⟨fun h => absurd h (by omega), htold.le, htold.low⟩, hkm⟩
      · obtain rfl : j = n := by omega
        go_wp2_with fail
        go_end0
        refine ⟨rfl, m, hbm, ?_, hkm⟩
        rw [HE.out]
        exact htold

set_option maxHeartbeats 400000 in
theorem sizes_any (t : VT) (w : World) (S : Nat → Prop) (hin : VT.In w S t) (hS : ∀ b, S b → b < w.heap.size) :
    Calls Tryd.prog 4 #[t.row] w fun e w' => ∃ r, e = .returned (.bool r) ∧ (r = true → t.total ≤ 10000) ∧ Below w.heap.size w w' := by
  have HN : Hid (∀ w' : World, Calls Tryd.prog 11 #[] w' fun e w1 => e = .returned (.pointer (some ⟨w'.heap.size, 0, none⟩)) ∧ w1 = w'.alloc (.cells #[.int .i64 10000] 54)) := by
    unfold Hid
    intro w'
    go_enter Tryd.func11, Tryd.ntmps11
    go_wp2
    go_ret
    exact ⟨rfl, rfl⟩
  have hw1 : Below w.heap.size w (w.alloc (.cells #[.int .i64 10000] 54)) := (Below.refl _ _).alloc (Nat.le_refl _) _
  have HV := szValues_any t (w.alloc (.cells #[.int .i64 10000] 54)) S w.heap.size 10000 (hin.below hw1) (fun h => absurd (hS _ h) (by omega)) (Box.new _ _ _) (by omega) (by omega)
  unfold VT.row at HV ⊢
  have HH : Hid (∀ k, k < w.heap.size → ¬ (k = w.heap.size)) := fun k hk => by omega
  have HW : Hid (Below w.heap.size w (w.alloc (.cells #[.int .i64 10000] 54))) := hw1
  have hsz : w.heap.size ≤ (w.alloc (.cells #[.int .i64 10000] 54)).heap.size := hw1.size
  have HSz : Hid (w.heap.size ≤ (w.alloc (.cells #[.int .i64 10000] 54)).heap.size) := hsz
  clear hin hS hw1 hsz
  go_enter Tryd.func4, Tryd.ntmps4
  go_wp2_with (first | (go_at_call 11; refine (HN.out _).mono ?_; rintro e w1 ⟨rfl, rfl⟩) | (go_at_call 12; refine HV.mono ?_; rintro e w2 ⟨rfl, m, hb2, ht2, hk2⟩))
  have HO := szOk_any w2 _ m hb2
  go_wp2_with (go_at_call 13; refine HO.mono ?_; rintro e w3 ⟨rfl, rfl⟩)
  go_ret
  refine ⟨_, rfl, fun h => ?_, HW.out.trans (hk2.below HSz.out HH.out)⟩
  have h0 : 0 ≤ m := of_decide_eq_true h
  have := ht2.ok h0
  omega
end Go.Proofs.YtoifpdnaeogdgabDoor
