import Derived.Test.YtoifpdnaeogdgaaDoorParL
import Derived.Test.YtoifpdnaeogdgaaDoorCanE
import Derived.Test.YtoifpdnaeogdgaaDoorSameV
import Derived.Test.YtoifpdnaeogdgaaDoorPack27
import Derived.Test.YtoifpdnaeogdgaaDoorCntW
import Derived.Test.YtoifpdnaeogdgaaDoorPack29
import Derived.Test.YtoifpdnaeogdgaaDoorPack0
namespace Go.Proofs.YtoifpdnaeogdgaaDoor
open Go.RowKit
set_option maxRecDepth 8000
theorem parse7 : parseS ⟨#[55]⟩ = .ok (mkI 7, 1) := by kernel_rfl
theorem dec12 : decS (fun j => if j = 0 then 1 else 2) 2 3 0 0 0 = .ok (mkI 1, 2, 1) := by kernel_rfl
/-- a list of one value -/
def oneC (b : Nat) (t : VT) : VT := .mk 0 0 ⟨#[]⟩ 1 (some ⟨b, 0, none⟩) 1 (fun _ => t)
theorem oneC_total (b : Nat) (t : VT) : (oneC b t).total = 1 + t.total := by simp [oneC, VT.total]
theorem oneC_in {w : World} {S : Nat → Prop} {t : VT} {b : Nat} (h : VT.In w S t) (hb : VT.At w b 0 t) (hS : S b) (hl : b < w.heap.size) : VT.In w S (oneC b t) := by
  refine ⟨⟨?_, ?_, ?_, ?_, ?_, Nat.le_refl 1, ?_, ?_, fun h => by cases h⟩, fun _ => ⟨b, 0, rfl, hS, hl, fun j hj => ?_⟩, fun j hj => ?_⟩
  · show (-9223372036854775808 : Int) ≤ 0; omega
  · show (0 : Int) ≤ 9223372036854775807; omega
  · show (-9223372036854775808 : Int) ≤ 0; omega
  · show (0 : Int) ≤ 9223372036854775807; omega
  · show (⟨#[]⟩ : ByteArray).size ≤ 140737488355328; decide
  · show 1 ≤ 140737488355328; omega
  · show 1 ≤ maxLen; unfold maxLen; omega
  · obtain rfl : j = 0 := by omega
    simpa using hb
  · exact h
theorem total_flat : ∀ t : VT, t.total < (flatP t).length := by
  intro t
  induction t with
  | nil => simp [VT.total, flatP]
  | mk k i s n p c f ih =>
    rw [flatP_eq]
    simp only [VT.total, List.length_cons]
    have key : ∀ m, m + ((List.range m).map fun j => (f j).total).sum ≤ ((List.range m).flatMap fun j => flatP (f j)).length := by
      intro m
      induction m with
      | zero => simp
      | succ m ihm =>
        rw [List.range_succ, List.map_append, List.sum_append, List.flatMap_append, List.length_append]
        simp only [List.map_cons, List.map_nil, List.sum_cons, List.sum_nil, List.flatMap_cons, List.flatMap_nil, List.append_nil]
        have := ih m
        omega
    have := key n
    omega
theorem chk_total {t : VT} {q' : Nat} (h : chk t 0 0 = (0, q')) : t.total ≤ 12 := by
  have h1 := total_flat t
  have h2 := chk_len t 0 0 (by rw [h])
  have h3 := (chk_le t 0 0 (by omega)).2 (by rw [h])
  rw [h] at h2 h3
  simp only at h2 h3
  omega
theorem encA : ∀ (t u : VT), VT.Alike t u → encB t = encB u := by
  intro t
  induction t with
  | nil => intro u h; rw [show u = .nil from h]
  | mk k i s n p c f ih =>
    intro u h
    cases u with
    | nil =>
      obtain ⟨h1, h2, h3, h4, _⟩ := h
      subst h1 h2 h3 h4
      rw [encB_eq]
      simp [encB, VT.kind]
    | mk k2 i2 s2 n2 p2 c2 f2 =>
      obtain ⟨h1, h2, h3, h4, hal⟩ := h
      simp only [VT.kind_mk, VT.int_mk, VT.text_mk, VT.n_mk, VT.item_mk] at h1 h2 h3 h4 hal
      subst h1 h2 h3 h4
      rw [encB_eq, encB_eq]
      have e : ((List.range n2).flatMap fun j => encB (f j)) = (List.range n2).flatMap fun j => encB (f2 j) := by
        rw [List.flatMap_def, List.flatMap_def]
        congr 1
        apply List.map_congr_left
        intro j hj
        exact ih j (f2 j) (hal j (List.mem_range.1 hj))
      rw [e]
theorem clean_chk (t : VT) : ∃ q', chk (cleanT t) 0 0 = (0, q') := by
  unfold cleanT
  split
  · rename_i h
    exact ⟨_, Prod.ext h rfl⟩
  · exact ⟨1, chk_mkN (by omega)⟩
theorem clean_self {t : VT} {q' : Nat} (h : chk t 0 0 = (0, q')) : cleanT t = t := by
  unfold cleanT
  rw [if_pos (by rw [h])]
/-- a beginning of an encoding is refused -/
theorem cut_refused {w : World} {S : Nat → Prop} {t : VT} (h : VT.In w S t) {i : Nat} (hi : i < (encB (cleanT t)).length) (f : Nat → Int) (hf : ∀ j x, (encB (cleanT t))[j]? = some x → f j = x) : decS f i 3 0 0 0 = .error 28 := by
  obtain ⟨q', hq⟩ := clean_chk t
  exact (dec_read (f := f) (n := i) (cleanT t) 0 (clean_val h) (by omega) 0 0 q' hq (fun j x hj => by rw [Nat.zero_add]; exact hf j x hj)).2 (by omega)
theorem add_at (b o j : Nat) : (⟨b, o, none⟩ : Addr).add j = ⟨b, o + j, none⟩ := by
  by_cases h : j = 0 <;> simp [Addr.add, h]
theorem byts_conv2 {w : World} {S : Nat → Prop} {p : Option Addr} {n c : Nat} {f : Nat → Int} (h : Byts w S p n c f) : (convert 29 9 (.slice p n c)).run Tryd.prog w = .ok (.string (strOf (bytesAt f 0 n))) w := by
  cases p with
  | none =>
    obtain ⟨rfl, rfl⟩ := h.nil rfl
    exact conv_none 0 w
  | some ad =>
    have hl : (bytesAt f 0 n).length = n := bytesAt_len f 0 n
    have hc := conv_at (w := w) (ad := ad) (c := c) (zs := bytesAt f 0 n) (fun j u hj => by
      have hjn : j < n := by
        rcases Nat.lt_or_ge j n with h1 | h1
        · exact h1
        · rw [List.getElem?_eq_none (by rw [List.length_map, hl]; exact h1)] at hj; cases hj
      obtain ⟨b, o, hp, _, _, hat⟩ := h.at_ (by omega)
      cases hp
      have hx := hat j hjn
      simp only [bytesAt, List.getElem?_map, List.getElem?_range hjn, Option.map_some, Nat.zero_add, Option.some.injEq] at hj
      rw [← hj, add_at]
      exact hx)
    rw [hl] at hc
    exact hc
theorem Byts.pre {w : World} {S : Nat → Prop} {p : Option Addr} {n c : Nat} {f : Nat → Int} (h : Byts w S p n c f) {i : Nat} (hi : i ≤ n) : Byts w S p i c f :=
  ⟨fun h0 => by
    obtain ⟨b, o, h1, h2, h3, h4⟩ := h.at_ (by omega)
    exact ⟨b, o, h1, h2, h3, fun j hj => h4 j (by omega)⟩, by have := h.nc; omega, by have := h.nn; omega, h.cc, fun j hj => h.fit j (by omega), fun hp => by obtain ⟨h1, h2⟩ := h.nil hp; exact ⟨by omega, h2⟩⟩
theorem enc_bytes : ∀ t : VT, Val t → ∀ x ∈ encB t, 0 ≤ x ∧ x < 256 := by
  intro t
  induction t with
  | nil => intro h; exact h.elim
  | mk k i s n p c f ih =>
    intro h x hx
    obtain ⟨⟨h1, h2, h3, h4, h5⟩, hv⟩ := h
    obtain ⟨⟨k0, k3⟩, _⟩ := fit_facts h1
    rw [encB_eq] at hx
    rcases List.mem_cons.1 hx with rfl | hx
    · omega
    · split at hx
      · have key : ∀ u : Nat, ∀ y ∈ grpB u, 0 ≤ y ∧ y < 256 := by
          intro u
          induction u using Nat.strongRecOn with
          | ind u ihu =>
            intro y hy
            by_cases hu : u < 128
            · rw [grpB_small hu] at hy; simp at hy; omega
            · rw [grpB_great hu] at hy
              rcases List.mem_cons.1 hy with rfl | hy
              · omega
              · exact ihu (u / 128) (by omega) y hy
        exact key _ x hx
      · split at hx
        · rcases List.mem_cons.1 hx with rfl | hx
          · omega
          · unfold txtB at hx
            obtain ⟨b, _, rfl⟩ := List.mem_map.1 hx
            have := b.toNat_lt
            omega
        · split at hx
          · rcases List.mem_cons.1 hx with rfl | hx
            · omega
            · obtain ⟨j, hj, hx⟩ := List.mem_flatMap.1 hx
              exact ih j (hv j (List.mem_range.1 hj)) x hx
          · simp at hx
/-- bytes of the call's own, as bytes to read -/
theorem byts_own {base : Nat} {w : World} {v : Value} {zs : List Int} (h : OwnBy base w v zs) (h0 : 0 < zs.length) (hz : ∀ x ∈ zs, 0 ≤ x ∧ x < 256) (hl : zs.length ≤ 140737488355328) : ∃ p c, v = .slice p zs.length c ∧ Byts w (fun b => b < w.heap.size) p zs.length c (fun j => zs.getD j 0) := by
  have hlt := World.ownsRow.lt h
  have hcl := @World.ownsRow.cells _ _ _ _ _ _ _ h
  obtain ⟨_, ⟨hv, h1⟩ | ⟨b, cap, cur, hv, hbg, hh, hnc, hcm, _⟩⟩ := id h
  · omega
  · refine ⟨_, _, hv, fun _ => ⟨b, 0, rfl, (hlt b (by rw [hv]; rfl)).2, (hlt b (by rw [hv]; rfl)).2, fun j hj => ?_⟩, hnc, hl, hcm, fun j hj => ?_, fun e => by cases e⟩
    · have := hcl (by rw [hv]; rfl) j (.int .u8 (zs.getD j 0)) (by simp [List.getD_eq_getElem?_getD, List.getElem?_eq_getElem hj])
      rw [add_at] at this
      simpa using this
    · rw [List.getD_eq_getElem?_getD, List.getElem?_eq_getElem hj]
      exact hz _ (List.getElem_mem hj)
theorem getD_at {zs : List Int} : ∀ j x, zs[j]? = some x → zs.getD j 0 = x := by
  intro j x h
  rw [List.getD_eq_getElem?_getD, h]
  rfl
/-- two bytes in a new row -/
theorem byts_two (w : World) : Byts (w.alloc (.cells #[.int .u8 1, .int .u8 2] 5)) (fun b => b = w.heap.size) (some ⟨w.heap.size, 0, none⟩) 2 2 (fun j => if j = 0 then 1 else 2) := by
  refine ⟨fun _ => ⟨w.heap.size, 0, rfl, rfl, by simp, fun j hj => ?_⟩, Nat.le_refl _, by omega, by unfold maxLen; omega, fun j _ => by split <;> omega, fun e => by cases e⟩
  have hb := Box.new w #[.int .u8 1, .int .u8 2] 5
  rcases (by omega : j = 0 ∨ j = 1) with rfl | rfl
  · exact hb.cell 0
  · exact hb.cell 1
set_option maxHeartbeats 1000000 in
theorem refused_any (e : Nat) (he : Known e ∨ e = 29) (w : World) :
    Calls Tryd.prog 13 #[.agg #[.int .i64 0, .int .i64 0, .string ⟨#[]⟩, .slice none 0 0], .int .i64 (e : Int)] w fun x w' => x = .returned (.bool true) ∧ Below w.heap.size w w' := by
  have HS := hid (fun W => same_any mkN mkN W (fun _ => True) (fun _ => True) (small_in _ _ 0 0 ⟨#[]⟩ (by omega) (by omega) (by omega) (by omega) (by decide)) (small_in _ _ 0 0 ⟨#[]⟩ (by omega) (by omega) (by omega) (by omega) (by decide)) (VT.Alike.refl _))
  unfold Known at he
  rcases he with (rfl | rfl | rfl | rfl) | rfl
  all_goals
    go_enter Tryd.func13, Tryd.ntmps13
    go_wp2_with fail
    refine (HS.out _).mono ?_
    rintro x w2 ⟨rfl, hb⟩
    have HB := hid (((Below.refl w.heap.size w).alloc (Nat.le_refl _) (.cells #[.int .i64 0, .int .i64 0, .string ⟨#[]⟩, .slice none 0 0] 24)).trans (hb.mono (by simp)))
    clear hb
    go_wp2
    go_ret
    exact ⟨rfl, HB.out⟩
end Go.Proofs.YtoifpdnaeogdgaaDoor

namespace Go.Proofs.YtoifpdnaeogdgaaDoor
open Go.RowKit
set_option maxRecDepth 8000

theorem szOk_any (w : World) (b : Nat) (l : Int) (hb : Box w b #[.int .i64 l] 57) :
    Calls Tryd.prog 17 #[.pointer (some ⟨b, 0, none⟩)] w fun e w' => e = .returned (.bool (decide (0 ≤ l))) ∧ w' = w := by
  have hc : w.cell? ⟨b, 0, none⟩ = some (.int .i64 l) := hb.cell 0
  go_enter Tryd.func17, Tryd.ntmps17
  go_wp2
  go_ret
  exact ⟨by simp, rfl⟩

theorem szAdd_pos (w : World) (b : Nat) (l n : Int) (hb : Box w b #[.int .i64 l] 57) (hl : 0 ≤ l) (hl2 : l ≤ 10000) (hn : 0 ≤ n) (hn2 : n ≤ 281474976710656) :
    Calls Tryd.prog 30 #[.pointer (some ⟨b, 0, none⟩), .int .i64 n] w fun e w' => e = .returned (.bool (decide (0 ≤ l - n))) ∧ Box w' b #[.int .i64 (l - n)] 57 ∧ But (fun k => k = b) w w' := by
  have hc : w.cell? ⟨b, 0, none⟩ = some (.int .i64 l) := hb.cell 0
  have hf : w.frozen? ⟨b, 0, none⟩ = false := hb.frozen 0
  have hlt := hb.lt
  have H1 : Hid (Box (w.setCell ⟨b, 0, none⟩ (.int .i64 (l - n))) b #[.int .i64 (l - n)] 57) := by
    have := hb.set 0 (.int .i64 (l - n)); unfold Hid; simpa using this
  have H2 : Hid (But (fun k => k = b) w (w.setCell ⟨b, 0, none⟩ (.int .i64 (l - n)))) := by
    unfold Hid; exact (But.refl (fun k => k = b) w).setCell (p := ⟨b, 0, none⟩) (fun _ => rfl) _
  clear hb
  go_enter Tryd.func30, Tryd.ntmps30
  go_wp2
  go_ret
  exact ⟨by simp, H1.out, H2.out⟩

theorem szAdd_neg (w : World) (b : Nat) (l n : Int) (hb : Box w b #[.int .i64 l] 57) (hl : l < 0) :
    Calls Tryd.prog 30 #[.pointer (some ⟨b, 0, none⟩), .int .i64 n] w fun e w' => e = .returned (.bool false) ∧ w' = w := by
  have hc : w.cell? ⟨b, 0, none⟩ = some (.int .i64 l) := hb.cell 0
  clear hb
  go_enter Tryd.func30, Tryd.ntmps30
  go_wp2
  go_ret
  exact ⟨by simp; assumption, rfl⟩

/-- what the count says of the parts below t: it was l ahead of them and is m behind them -/
structure Told (l m : Int) (total : Nat) : Prop where
  ok : 0 ≤ m → 0 ≤ l ∧ m = l - total
  le : m ≤ l
  low : -1000000000000000 ≤ m

set_option maxHeartbeats 1000000 in
theorem szValues_any (t : VT) : ∀ (w : World) (S : Nat → Prop) (b : Nat) (l : Int), VT.In w S t → ¬ S b → Box w b #[.int .i64 l] 57 → 0 ≤ l → l ≤ 10000 →
    Calls Tryd.prog 16 #[.pointer (some ⟨b, 0, none⟩), t.row] w fun e w' => e = .returned (.tuple #[]) ∧ ∃ m, Box w' b #[.int .i64 m] 57 ∧ Told l m t.total ∧ But (fun k => k = b) w w' := by
  induction t with
  | nil => intro w S b l hin; exact hin.elim
  | mk k i s n p c f ih =>
    intro w S b l hin hS hb hl hl2
    have hfit := hin.fit
    have hcc := hfit.nn
    simp only [VT.n] at hcc
    have HT : Hid (∀ j, VT.upto (.mk k i s n p c f) (j + 1) = VT.upto (.mk k i s n p c f) j + (f j).total) := fun j => VT.upto_succ _ j
    have HE : Hid ((VT.mk k i s n p c f).total = n + VT.upto (.mk k i s n p c f) n) := VT.total_upto _
    have HA := szAdd_pos w b l (n : Int) hb hl hl2 (by omega) (by omega)
    simp only [VT.row, VT.p, VT.n, VT.c]
    clear hb
    go_enter Tryd.func16, Tryd.ntmps16
    go_wp2_with (go_at_call 30; refine HA.mono ?_; rintro e w1 ⟨rfl, hb1, hk1⟩)
    have HI : Hid (VT.In w S (.mk k i s n p c f)) := hin
    clear hin hfit HA
    go_loopw [4] (fun x wr => ∃ j : Nat, j ≤ n ∧ x = .int .i64 j ∧ ∃ m : Int, Box wr b #[.int .i64 m] 57 ∧ Told l m (n + VT.upto (.mk k i s n p c f) j) ∧ But (fun k => k = b) w wr) (fun x _ => n - (intOf x).toNat)
    case atStart => exact ⟨0, Nat.zero_le _, rfl, l - n, hb1, ⟨fun h => ⟨hl, by simp [VT.upto]⟩, by omega, by omega⟩, hk1⟩
    case round =>
      obtain ⟨j, hj, rfl, m, hbm, htold, hkm⟩ := hrel
      clear hb1 hk1
      have HO := szOk_any wr b m hbm
      by_cases hlt : j < n
      · have hlt' : (j : Int) < (n : Int) := by omega
        by_cases hm : 0 ≤ m
        · have hd : decide (0 ≤ m) = true := decide_eq_true hm
          rw [hd] at HO
          obtain ⟨bb, o, hp, hSb, hbl, hat⟩ := HI.out.at_ (show 0 < (VT.mk k i s n p c f).n from by simp only [VT.n]; omega)
          simp only [VT.p] at hp
          subst hp
          have hne : bb ≠ b := fun e => hS (e ▸ hSb)
          have c3 := ((hat j hlt).kept (hkm.block bb hbl hne)).c3
          simp only [VT.item] at c3
          have HC : Hid (Calls Tryd.prog 16 #[.pointer (some ⟨b, 0, none⟩), (f j).row] wr fun e w' => e = .returned (.tuple #[]) ∧ ∃ m', Box w' b #[.int .i64 m'] 57 ∧ Told m m' (f j).total ∧ But (fun k => k = b) wr w') :=
            ih j wr S b m ((HI.out.sub hlt).but hkm (fun x hx _ e => hS (e ▸ hx))) hS hbm hm (by have := htold.le; omega)
          unfold VT.row at HC
          clear hat
          go_wp2_with (first | (go_at_call 17; refine HO.mono ?_; rintro e w2 ⟨rfl, rfl⟩) | (go_at_call 16; refine HC.out.mono ?_; rintro e w3 ⟨rfl, m', hb3, ht3, hk3⟩))
          go_roundw
          case rel =>
            have hu := HT.out j
            refine ⟨j + 1, by omega, by go_num, m', hb3, ⟨fun h => ?_, ?_, ?_⟩, hkm.trans hk3⟩
            · have a1 := ht3.ok h
              have a2 := htold.ok hm
              refine ⟨a2.1, ?_⟩
              rw [hu]; omega
            · have a1 := ht3.le
              have a2 := htold.le
              omega
            · exact ht3.low
          case measure => simp [intOf]; omega
        · have hd : decide (0 ≤ m) = false := decide_eq_false hm
          rw [hd] at HO
          go_wp2_with (go_at_call 17; refine HO.mono ?_; rintro e w2 ⟨rfl, rfl⟩)
          go_end0
          exact ⟨rfl, m, hbm, ⟨fun h => absurd h (by omega), htold.le, htold.low⟩, hkm⟩
      · obtain rfl : j = n := by omega
        go_wp2_with fail
        go_end0
        refine ⟨rfl, m, hbm, ?_, hkm⟩
        rw [HE.out]
        exact htold

set_option maxHeartbeats 400000 in
theorem sizes_any (t : VT) (w : World) (S : Nat → Prop) (hin : VT.In w S t) (hS : ∀ b, S b → b < w.heap.size) :
    Calls Tryd.prog 5 #[t.row] w fun e w' => ∃ r, e = .returned (.bool r) ∧ (r = true → t.total ≤ 10000) ∧ Below w.heap.size w w' := by
  have HN : Hid (∀ w' : World, Calls Tryd.prog 15 #[] w' fun e w1 => e = .returned (.pointer (some ⟨w'.heap.size, 0, none⟩)) ∧ w1 = w'.alloc (.cells #[.int .i64 10000] 57)) := by
    unfold Hid
    intro w'
    go_enter Tryd.func15, Tryd.ntmps15
    go_wp2
    go_ret
    exact ⟨rfl, rfl⟩
  have hw1 : Below w.heap.size w (w.alloc (.cells #[.int .i64 10000] 57)) := (Below.refl _ _).alloc (Nat.le_refl _) _
  have HV := szValues_any t (w.alloc (.cells #[.int .i64 10000] 57)) S w.heap.size 10000 (hin.below hw1) (fun h => absurd (hS _ h) (by omega)) (Box.new _ _ _) (by omega) (by omega)
  unfold VT.row at HV ⊢
  have HH : Hid (∀ k, k < w.heap.size → ¬ (k = w.heap.size)) := fun k hk => by omega
  have HW : Hid (Below w.heap.size w (w.alloc (.cells #[.int .i64 10000] 57))) := hw1
  have hsz : w.heap.size ≤ (w.alloc (.cells #[.int .i64 10000] 57)).heap.size := hw1.size
  have HSz : Hid (w.heap.size ≤ (w.alloc (.cells #[.int .i64 10000] 57)).heap.size) := hsz
  clear hin hS hw1 hsz
  go_enter Tryd.func5, Tryd.ntmps5
  go_wp2_with (first | (go_at_call 15; refine (HN.out _).mono ?_; rintro e w1 ⟨rfl, rfl⟩) | (go_at_call 16; refine HV.mono ?_; rintro e w2 ⟨rfl, m, hb2, ht2, hk2⟩))
  have HO := szOk_any w2 _ m hb2
  go_wp2_with (go_at_call 17; refine HO.mono ?_; rintro e w3 ⟨rfl, rfl⟩)
  go_ret
  refine ⟨_, rfl, fun h => ?_, HW.out.trans (hk2.below HSz.out HH.out)⟩
  have h0 : 0 ≤ m := of_decide_eq_true h
  have := ht2.ok h0
  omega
end Go.Proofs.YtoifpdnaeogdgaaDoor
