import Derived.Test.YtoifpdnaeogdgabDoorPack3
import Derived.Test.YtoifpdnaeogdgabDoorPack32
import Derived.Test.YtoifpdnaeogdgabDoorPack9
import Derived.Test.YtoifpdnaeogdgabDoorParL
import Derived.Test.YtoifpdnaeogdgabDoorPack21
import Derived.Test.YtoifpdnaeogdgabDoorSameV
import Derived.Test.YtoifpdnaeogdgabDoorPack31
import Derived.Test.YtoifpdnaeogdgabDoorCntW
namespace Go.Proofs.YtoifpdnaeogdgabDoor
open Go.RowKit
set_option maxRecDepth 8000

end Go.Proofs.YtoifpdnaeogdgabDoor

namespace Go.Proofs.YtoifpdnaeogdgabDoor
open Go.RowKit
set_option maxRecDepth 8000

theorem clean_enc_len {w : World} {S : Nat → Prop} {t : VT} (h : VT.In w S t) : (encB (cleanT t)).length ≤ 720 := by
  have h1 := enc_len (clean_val h)
  have h2 := clean_len (t := t)
  omega

/-- what the parts of a valid value are -/
theorem part_fit {t : VT} (h : Val t) : ∀ q ∈ flatP t, (0 ≤ q.kind ∧ q.kind ≤ 3) ∧ q.text.size ≤ 24 ∧ q.n ≤ 6 ∧ -9223372036854775808 ≤ q.int ∧ q.int ≤ 9223372036854775807 := by
  induction t with
  | nil => exact h.elim
  | mk k i s n p c f ih =>
    obtain ⟨⟨h1, h2, h3, h4, h5⟩, h6⟩ := h
    intro q hq
    rw [flatP_eq, List.mem_cons] at hq
    rcases hq with rfl | hq
    · simp only [fitB, Bool.and_eq_true, Bool.or_eq_true, decide_eq_true_eq] at h1
      exact ⟨⟨h1.1.1.1.1, h1.1.1.1.2⟩, h2, h3, h4, h5⟩
    · obtain ⟨j, hj, hq⟩ := List.mem_flatMap.1 hq
      exact ih j (h6 j (List.mem_range.1 hj)) q hq
end Go.Proofs.YtoifpdnaeogdgabDoor

namespace Go.Proofs.YtoifpdnaeogdgabDoor
open Go.RowKit
set_option maxRecDepth 8000
theorem parse7 : parseS ⟨#[55]⟩ = .ok (mkI 7, 1) := by kernel_rfl
theorem dec12 : decS (fun j => if j = 0 then 1 else 2) 2 3 0 0 0 = .ok (mkI 1, 2, 1) := by kernel_rfl
/-- a list of one value -/
def oneC (b : Nat) (t : VT) : VT := .mk 0 0 ⟨#[]⟩ 1 (some ⟨b, 0, none⟩) 1 (fun _ => t)
theorem oneC_total (b : Nat) (t : VT) : (oneC b t).total = 1 + t.total := by simp [oneC, VT.total]
theorem oneC_in {w : World} {S : Nat → Prop} {t : VT} {b : Nat} (h : VT.In w S t) (hb : VT.At w b 0 t) (hS : S b) (hl : b < w.heap.size) : VT.In w S (oneC b t) := by
  refine ⟨⟨?_, ?_, ?_, ?_, ?_, Nat.le_refl 1, ?_, ?_, fun h => by cases h⟩, fun _ => ⟨b, 0, rfl, hS, hl, fun j hj => ?_⟩, fun j hj => ?_⟩
  · show (-9223372036854775808 : Int) ≤ 0; omega
  · show (0 : Int) ≤ 9223372036854775807; omega
  · show (-9223372036854775808 : Int) ≤ 0; omega
  · show (0 : Int) ≤ 9223372036854775807; omega
  · show (⟨#[]⟩ : ByteArray).size ≤ 140737488355328; decide
  · show 1 ≤ 140737488355328; omega
  · show 1 ≤ maxLen; unfold maxLen; omega
  · obtain rfl : j = 0 := by omega
    simpa using hb
  · exact h
theorem total_flat : ∀ t : VT, t.total < (flatP t).length := by
  intro t
  induction t with
  | nil => simp [VT.total, flatP]
  | mk k i s n p c f ih =>
    rw [flatP_eq]
    simp only [VT.total, List.length_cons]
    have key : ∀ m, m + ((List.range m).map fun j => (f j).total).sum ≤ ((List.range m).flatMap fun j => flatP (f j)).length := by
      intro m
      induction m with
      | zero => simp
      | succ m ihm =>
        rw [List.range_succ, List.map_append, List.sum_append, List.flatMap_append, List.length_append]
        simp only [List.map_cons, List.map_nil, List.sum_cons, List.sum_nil, List.flatMap_cons, List.flatMap_nil, List.append_nil]
        have := ih m
        omega
    have := key n
    omega
theorem chk_total {t : VT} {q' : Nat} (h : chk t 0 0 = (0, q')) : t.total ≤ 12 := by
  have h1 := total_flat t
  have h2 := chk_len t 0 0 (by rw [h])
  have h3 := (chk_le t 0 0 (by omega)).2 (by rw [h])
  rw [h] at h2 h3
  simp only at h2 h3
  omega
theorem encA : ∀ (t u : VT), VT.Alike t u → encB t = encB u := by
  intro t
  induction t with
  | nil => intro u h; rw [show u = .nil from h]
  | mk k i s n p c f ih =>
    intro u h
    cases u with
    | nil =>
      obtain ⟨h1, h2, h3, h4, _⟩ := h
      subst h1 h2 h3 h4
      rw [encB_eq]
      simp [encB, VT.kind]
    | mk k2 i2 s2 n2 p2 c2 f2 =>
      obtain ⟨h1, h2, h3, h4, hal⟩ := h
      simp only [VT.kind_mk, VT.int_mk, VT.text_mk, VT.n_mk, VT.item_mk] at h1 h2 h3 h4 hal
      subst h1 h2 h3 h4
      rw [encB_eq, encB_eq]
      have e : ((List.range n2).flatMap fun j => encB (f j)) = (List.range n2).flatMap fun j => encB (f2 j) := by
        rw [List.flatMap_def, List.flatMap_def]
        congr 1
        apply List.map_congr_left
        intro j hj
        exact ih j (f2 j) (hal j (List.mem_range.1 hj))
      rw [e]
theorem clean_chk (t : VT) : ∃ q', chk (cleanT t) 0 0 = (0, q') := by
  unfold cleanT
  split
  · rename_i h
    exact ⟨_, Prod.ext h rfl⟩
  · exact ⟨1, chk_mkN (by omega)⟩
theorem clean_self {t : VT} {q' : Nat} (h : chk t 0 0 = (0, q')) : cleanT t = t := by
  unfold cleanT
  rw [if_pos (by rw [h])]
/-- a beginning of an encoding is refused -/
theorem cut_refused {w : World} {S : Nat → Prop} {t : VT} (h : VT.In w S t) {i : Nat} (hi : i < (encB (cleanT t)).length) (f : Nat → Int) (hf : ∀ j x, (encB (cleanT t))[j]? = some x → f j = x) : decS f i 3 0 0 0 = .error 28 := by
  obtain ⟨q', hq⟩ := clean_chk t
  exact (dec_read (f := f) (n := i) (cleanT t) 0 (clean_val h) (by omega) 0 0 q' hq (fun j x hj => by rw [Nat.zero_add]; exact hf j x hj)).2 (by omega)
theorem add_at (b o j : Nat) : (⟨b, o, none⟩ : Addr).add j = ⟨b, o + j, none⟩ := by
  by_cases h : j = 0 <;> simp [Addr.add, h]
theorem byts_conv2 {w : World} {S : Nat → Prop} {p : Option Addr} {n c : Nat} {f : Nat → Int} (h : Byts w S p n c f) : (convert 56 9 (.slice p n c)).run Tryd.prog w = .ok (.string (strOf (bytesAt f 0 n))) w := by
  cases p with
  | none =>
    obtain ⟨rfl, rfl⟩ := h.nil rfl
    exact conv_none 0 w
  | some ad =>
    have hl : (bytesAt f 0 n).length = n := bytesAt_len f 0 n
    have hc := conv_at (w := w) (ad := ad) (c := c) (zs := bytesAt f 0 n) (fun j u hj => by
      have hjn : j < n := by
        rcases Nat.lt_or_ge j n with h1 | h1
        · exact h1
        · rw [List.getElem?_eq_none (by rw [List.length_map, hl]; exact h1)] at hj; cases hj
      obtain ⟨b, o, hp, _, _, hat⟩ := h.at_ (by omega)
      cases hp
      have hx := hat j hjn
      simp only [bytesAt, List.getElem?_map, List.getElem?_range hjn, Option.map_some, Nat.zero_add, Option.some.injEq] at hj
      rw [← hj, add_at]
      exact hx)
    rw [hl] at hc
    exact hc
theorem Byts.pre {w : World} {S : Nat → Prop} {p : Option Addr} {n c : Nat} {f : Nat → Int} (h : Byts w S p n c f) {i : Nat} (hi : i ≤ n) : Byts w S p i c f :=
  ⟨fun h0 => by
    obtain ⟨b, o, h1, h2, h3, h4⟩ := h.at_ (by omega)
    exact ⟨b, o, h1, h2, h3, fun j hj => h4 j (by omega)⟩, by have := h.nc; omega, by have := h.nn; omega, h.cc, fun j hj => h.fit j (by omega), fun hp => by obtain ⟨h1, h2⟩ := h.nil hp; exact ⟨by omega, h2⟩⟩
theorem enc_bytes : ∀ t : VT, Val t → ∀ x ∈ encB t, 0 ≤ x ∧ x < 256 := by
  intro t
  induction t with
  | nil => intro h; exact h.elim
  | mk k i s n p c f ih =>
    intro h x hx
    obtain ⟨⟨h1, h2, h3, h4, h5⟩, hv⟩ := h
    obtain ⟨⟨k0, k3⟩, _⟩ := fit_facts h1
    rw [encB_eq] at hx
    rcases List.mem_cons.1 hx with rfl | hx
    · omega
    · split at hx
      · have key : ∀ u : Nat, ∀ y ∈ grpB u, 0 ≤ y ∧ y < 256 := by
          intro u
          induction u using Nat.strongRecOn with
          | ind u ihu =>
            intro y hy
            by_cases hu : u < 128
            · rw [grpB_small hu] at hy; simp at hy; omega
            · rw [grpB_great hu] at hy
              rcases List.mem_cons.1 hy with rfl | hy
              · omega
              · exact ihu (u / 128) (by omega) y hy
        exact key _ x hx
      · split at hx
        · rcases List.mem_cons.1 hx with rfl | hx
          · omega
          · unfold txtB at hx
            obtain ⟨b, _, rfl⟩ := List.mem_map.1 hx
            have := b.toNat_lt
            omega
        · split at hx
          · rcases List.mem_cons.1 hx with rfl | hx
            · omega
            · obtain ⟨j, hj, hx⟩ := List.mem_flatMap.1 hx
              exact ih j (hv j (List.mem_range.1 hj)) x hx
          · simp at hx
/-- bytes of the call's own, as bytes to read -/
theorem byts_own {base : Nat} {w : World} {v : Value} {zs : List Int} (h : OwnBy base w v zs) (h0 : 0 < zs.length) (hz : ∀ x ∈ zs, 0 ≤ x ∧ x < 256) (hl : zs.length ≤ 140737488355328) : ∃ p c, v = .slice p zs.length c ∧ Byts w (fun b => b < w.heap.size) p zs.length c (fun j => zs.getD j 0) := by
  have hlt := World.ownsRow.lt h
  have hcl := @World.ownsRow.cells _ _ _ _ _ _ _ h
  obtain ⟨_, ⟨hv, h1⟩ | ⟨b, cap, cur, hv, hbg, hh, hnc, hcm, _⟩⟩ := id h
  · omega
  · refine ⟨_, _, hv, fun _ => ⟨b, 0, rfl, (hlt b (by rw [hv]; rfl)).2, (hlt b (by rw [hv]; rfl)).2, fun j hj => ?_⟩, hnc, hl, hcm, fun j hj => ?_, fun e => by cases e⟩
    · have := hcl (by rw [hv]; rfl) j (.int .u8 (zs.getD j 0)) (by simp [List.getD_eq_getElem?_getD, List.getElem?_eq_getElem hj])
      rw [add_at] at this
      simpa using this
    · rw [List.getD_eq_getElem?_getD, List.getElem?_eq_getElem hj]
      exact hz _ (List.getElem_mem hj)
theorem getD_at {zs : List Int} : ∀ j x, zs[j]? = some x → zs.getD j 0 = x := by
  intro j x h
  rw [List.getD_eq_getElem?_getD, h]
  rfl
/-- two bytes in a new row -/
theorem byts_two (w : World) : Byts (w.alloc (.cells #[.int .u8 1, .int .u8 2] 5)) (fun b => b = w.heap.size) (some ⟨w.heap.size, 0, none⟩) 2 2 (fun j => if j = 0 then 1 else 2) := by
  refine ⟨fun _ => ⟨w.heap.size, 0, rfl, rfl, by simp, fun j hj => ?_⟩, Nat.le_refl _, by omega, by unfold maxLen; omega, fun j _ => by split <;> omega, fun e => by cases e⟩
  have hb := Box.new w #[.int .u8 1, .int .u8 2] 5
  rcases (by omega : j = 0 ∨ j = 1) with rfl | rfl
  · exact hb.cell 0
  · exact hb.cell 1
end Go.Proofs.YtoifpdnaeogdgabDoor
