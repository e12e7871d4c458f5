import Derived.Test.YtoifpdnaeogdgabGreatDoorParL
import Derived.Test.YtoifpdnaeogdgabGreatDoorCanE
import Derived.Test.YtoifpdnaeogdgabGreatDoorSameV
import Derived.Test.YtoifpdnaeogdgabGreatDoorPack27
import Derived.Test.YtoifpdnaeogdgabGreatDoorCntW
import Derived.Test.YtoifpdnaeogdgabGreatDoorPack29
import Derived.Test.YtoifpdnaeogdgabGreatDoorPack4
import Derived.Test.YtoifpdnaeogdgabGreatDoorPack17
namespace Go.Proofs.YtoifpdnaeogdgabGreatDoor
open Go.RowKit
set_option maxRecDepth 8000
theorem parse7 : parseS ⟨#[55]⟩ = .ok (mkI 7, 1) := by kernel_rfl
theorem dec12 : decS (fun j => if j = 0 then 1 else 2) 2 3 0 0 0 = .ok (mkI 1, 2, 1) := by kernel_rfl
/-- a list of one value -/
def oneC (b : Nat) (t : VT) : VT := .mk 0 0 ⟨#[]⟩ 1 (some ⟨b, 0, none⟩) 1 (fun _ => t)
theorem oneC_total (b : Nat) (t : VT) : (oneC b t).total = 1 + t.total := by simp [oneC, VT.total]
theorem oneC_in {w : World} {S : Nat → Prop} {t : VT} {b : Nat} (h : VT.In w S t) (hb : VT.At w b 0 t) (hS : S b) (hl : b < w.heap.size) : VT.In w S (oneC b t) := by
  refine ⟨⟨?_, ?_, ?_, ?_, ?_, Nat.le_refl 1, ?_, ?_, fun h => by cases h⟩, fun _ => ⟨b, 0, rfl, hS, hl, fun j hj => ?_⟩, fun j hj => ?_⟩
  · show (-9223372036854775808 : Int) ≤ 0; omega
  · show (0 : Int) ≤ 9223372036854775807; omega
  · show (-9223372036854775808 : Int) ≤ 0; omega
  · show (0 : Int) ≤ 9223372036854775807; omega
  · show (⟨#[]⟩ : ByteArray).size ≤ 140737488355328; decide
  · show 1 ≤ 140737488355328; omega
  · show 1 ≤ maxLen; unfold maxLen; omega
  · obtain rfl : j = 0 := by omega
    simpa using hb
  · exact h
theorem total_flat : ∀ t : VT, t.total < (flatP t).length := by
  intro t
  induction t with
  | nil => simp [VT.total, flatP]
  | mk k i s n p c f ih =>
    rw [flatP_eq]
    simp only [VT.total, List.length_cons]
    have key : ∀ m, m + ((List.range m).map fun j => (f j).total).sum ≤ ((List.range m).flatMap fun j => flatP (f j)).length := by
      intro m
      induction m with
      | zero => simp
      | succ m ihm =>
        rw [List.range_succ, List.map_append, List.sum_append, List.flatMap_append, List.length_append]
        simp only [List.map_cons, List.map_nil, List.sum_cons, List.sum_nil, List.flatMap_cons, List.flatMap_nil, List.append_nil]
        have := ih m
        omega
    have := key n
    omega
theorem chk_total {t : VT} {q' : Nat} (h : chk t 0 0 = (0, q')) : t.total ≤ 12 := by
  have h1 := total_flat t
  have h2 := chk_len t 0 0 (by rw [h])
  have h3 := (chk_le t 0 0 (by omega)).2 (by rw [h])
  rw [h] at h2 h3
  simp only at h2 h3
  omega
theorem encA : ∀ (t u : VT), VT.Alike t u → encB t = encB u := by
  intro t
  induction t with
  | nil => intro u h; rw [show u = .nil from h]
  | mk k i s n p c f ih =>
    intro u h
    cases u with
    | nil =>
      obtain ⟨h1, h2, h3, h4, _⟩ := h
      subst h1 h2 h3 h4
      rw [encB_eq]
      simp [encB, VT.kind]
    | mk k2 i2 s2 n2 p2 c2 f2 =>
      obtain ⟨h1, h2, h3, h4, hal⟩ := h
      simp only [VT.kind_mk, VT.int_mk, VT.text_mk, VT.n_mk, VT.item_mk] at h1 h2 h3 h4 hal
      subst h1 h2 h3 h4
      rw [encB_eq, encB_eq]
      have e : ((List.range n2).flatMap fun j => encB (f j)) = (List.range n2).flatMap fun j => encB (f2 j) := by
        rw [List.flatMap_def, List.flatMap_def]
        congr 1
        apply List.map_congr_left
        intro j hj
        exact ih j (f2 j) (hal j (List.mem_range.1 hj))
      rw [e]
theorem clean_chk (t : VT) : ∃ q', chk (cleanT t) 0 0 = (0, q') := by
  unfold cleanT
  split
  · rename_i h
    exact ⟨_, Prod.ext h rfl⟩
  · exact ⟨1, chk_mkN (by omega)⟩
theorem clean_self {t : VT} {q' : Nat} (h : chk t 0 0 = (0, q')) : cleanT t = t := by
  unfold cleanT
  rw [if_pos (by rw [h])]
/-- a beginning of an encoding is refused -/
theorem cut_refused {w : World} {S : Nat → Prop} {t : VT} (h : VT.In w S t) {i : Nat} (hi : i < (encB (cleanT t)).length) (f : Nat → Int) (hf : ∀ j x, (encB (cleanT t))[j]? = some x → f j = x) : decS f i 3 0 0 0 = .error 28 := by
  obtain ⟨q', hq⟩ := clean_chk t
  exact (dec_read (f := f) (n := i) (cleanT t) 0 (clean_val h) (by omega) 0 0 q' hq (fun j x hj => by rw [Nat.zero_add]; exact hf j x hj)).2 (by omega)
theorem add_at (b o j : Nat) : (⟨b, o, none⟩ : Addr).add j = ⟨b, o + j, none⟩ := by
  by_cases h : j = 0 <;> simp [Addr.add, h]
theorem byts_conv2 {w : World} {S : Nat → Prop} {p : Option Addr} {n c : Nat} {f : Nat → Int} (h : Byts w S p n c f) : (convert 25 9 (.slice p n c)).run Tryz.prog w = .ok (.string (strOf (bytesAt f 0 n))) w := by
  cases p with
  | none =>
    obtain ⟨rfl, rfl⟩ := h.nil rfl
    exact conv_none 0 w
  | some ad =>
    have hl : (bytesAt f 0 n).length = n := bytesAt_len f 0 n
    have hc := conv_at (w := w) (ad := ad) (c := c) (zs := bytesAt f 0 n) (fun j u hj => by
      have hjn : j < n := by
        rcases Nat.lt_or_ge j n with h1 | h1
        · exact h1
        · rw [List.getElem?_eq_none (by rw [List.length_map, hl]; exact h1)] at hj; cases hj
      obtain ⟨b, o, hp, _, _, hat⟩ := h.at_ (by omega)
      cases hp
      have hx := hat j hjn
      simp only [bytesAt, List.getElem?_map, List.getElem?_range hjn, Option.map_some, Nat.zero_add, Option.some.injEq] at hj
      rw [← hj, add_at]
      exact hx)
    rw [hl] at hc
    exact hc
theorem Byts.pre {w : World} {S : Nat → Prop} {p : Option Addr} {n c : Nat} {f : Nat → Int} (h : Byts w S p n c f) {i : Nat} (hi : i ≤ n) : Byts w S p i c f :=
  ⟨fun h0 => by
    obtain ⟨b, o, h1, h2, h3, h4⟩ := h.at_ (by omega)
    exact ⟨b, o, h1, h2, h3, fun j hj => h4 j (by omega)⟩, by have := h.nc; omega, by have := h.nn; omega, h.cc, fun j hj => h.fit j (by omega), fun hp => by obtain ⟨h1, h2⟩ := h.nil hp; exact ⟨by omega, h2⟩⟩
theorem enc_bytes : ∀ t : VT, Val t → ∀ x ∈ encB t, 0 ≤ x ∧ x < 256 := by
  intro t
  induction t with
  | nil => intro h; exact h.elim
  | mk k i s n p c f ih =>
    intro h x hx
    obtain ⟨⟨h1, h2, h3, h4, h5⟩, hv⟩ := h
    obtain ⟨⟨k0, k3⟩, _⟩ := fit_facts h1
    rw [encB_eq] at hx
    rcases List.mem_cons.1 hx with rfl | hx
    · omega
    · split at hx
      · have key : ∀ u : Nat, ∀ y ∈ grpB u, 0 ≤ y ∧ y < 256 := by
          intro u
          induction u using Nat.strongRecOn with
          | ind u ihu =>
            intro y hy
            by_cases hu : u < 128
            · rw [grpB_small hu] at hy; simp at hy; omega
            · rw [grpB_great hu] at hy
              rcases List.mem_cons.1 hy with rfl | hy
              · omega
              · exact ihu (u / 128) (by omega) y hy
        exact key _ x hx
      · split at hx
        · rcases List.mem_cons.1 hx with rfl | hx
          · omega
          · unfold txtB at hx
            obtain ⟨b, _, rfl⟩ := List.mem_map.1 hx
            have := b.toNat_lt
            omega
        · split at hx
          · rcases List.mem_cons.1 hx with rfl | hx
            · omega
            · obtain ⟨j, hj, hx⟩ := List.mem_flatMap.1 hx
              exact ih j (hv j (List.mem_range.1 hj)) x hx
          · simp at hx
/-- bytes of the call's own, as bytes to read -/
theorem byts_own {base : Nat} {w : World} {v : Value} {zs : List Int} (h : OwnBy base w v zs) (h0 : 0 < zs.length) (hz : ∀ x ∈ zs, 0 ≤ x ∧ x < 256) (hl : zs.length ≤ 140737488355328) : ∃ p c, v = .slice p zs.length c ∧ Byts w (fun b => b < w.heap.size) p zs.length c (fun j => zs.getD j 0) := by
  have hlt := World.ownsRow.lt h
  have hcl := @World.ownsRow.cells _ _ _ _ _ _ _ h
  obtain ⟨_, ⟨hv, h1⟩ | ⟨b, cap, cur, hv, hbg, hh, hnc, hcm, _⟩⟩ := id h
  · omega
  · refine ⟨_, _, hv, fun _ => ⟨b, 0, rfl, (hlt b (by rw [hv]; rfl)).2, (hlt b (by rw [hv]; rfl)).2, fun j hj => ?_⟩, hnc, hl, hcm, fun j hj => ?_, fun e => by cases e⟩
    · have := hcl (by rw [hv]; rfl) j (.int .u8 (zs.getD j 0)) (by simp [List.getD_eq_getElem?_getD, List.getElem?_eq_getElem hj])
      rw [add_at] at this
      simpa using this
    · rw [List.getD_eq_getElem?_getD, List.getElem?_eq_getElem hj]
      exact hz _ (List.getElem_mem hj)
theorem getD_at {zs : List Int} : ∀ j x, zs[j]? = some x → zs.getD j 0 = x := by
  intro j x h
  rw [List.getD_eq_getElem?_getD, h]
  rfl
/-- two bytes in a new row -/
theorem byts_two (w : World) : Byts (w.alloc (.cells #[.int .u8 1, .int .u8 2] 5)) (fun b => b = w.heap.size) (some ⟨w.heap.size, 0, none⟩) 2 2 (fun j => if j = 0 then 1 else 2) := by
  refine ⟨fun _ => ⟨w.heap.size, 0, rfl, rfl, by simp, fun j hj => ?_⟩, Nat.le_refl _, by omega, by unfold maxLen; omega, fun j _ => by split <;> omega, fun e => by cases e⟩
  have hb := Box.new w #[.int .u8 1, .int .u8 2] 5
  rcases (by omega : j = 0 ∨ j = 1) with rfl | rfl
  · exact hb.cell 0
  · exact hb.cell 1
end Go.Proofs.YtoifpdnaeogdgabGreatDoor

namespace Go.Proofs.YtoifpdnaeogdgabGreatDoor
open Go.RowKit
set_option maxRecDepth 8000

/-- the signs that stand for a byte -/
inductive Cw : Int → List Int → Prop
  | raw (b : Int) (h1 : b ≠ 34) (h2 : b ≠ 92) : Cw b [b]
  | quo : Cw 34 [92, 34]
  | bsl : Cw 92 [92, 92]
  | nl : Cw 10 [92, 110]
  | tab : Cw 9 [92, 116]
  | hex (b : Int) (h0 : 0 ≤ b) (h1 : b < 256) : Cw b [92, 120, hexd (b.toNat / 16), hexd (b.toNat % 16)]
inductive Coded : List Int → List Int → Prop
  | nil : Coded [] []
  | cons {b : Int} {w bs ws : List Int} (h : Cw b w) (t : Coded bs ws) : Coded (b :: bs) (w ++ ws)
theorem Coded.app {a x b y : List Int} (h : Coded a x) (k : Coded b y) : Coded (a ++ b) (x ++ y) := by
  induction h with
  | nil => exact k
  | cons h t ih => rw [List.append_assoc]; exact .cons h ih
theorem hexd_inj {a b : Nat} (ha : a < 16) (hb : b < 16) (h : hexd a = hexd b) : a = b := by
  unfold hexd at h
  split at h <;> split at h <;> omega
theorem cw_inj {b b' : Int} {w w' x y : List Int} (h : Cw b w) (k : Cw b' w') (e : w ++ x = w' ++ y) : b = b' ∧ x = y := by
  cases h <;> cases k <;> simp only [List.cons_append, List.nil_append, List.cons.injEq] at e
  all_goals first
    | exact ⟨e.1, e.2⟩
    | exact ⟨rfl, e.2.2⟩
    | (exfalso; omega)
    | skip
  case hex.hex h0 h1 k0 k1 =>
    obtain ⟨_, _, e1, e2, e3⟩ := e
    have d1 := hexd_inj (by omega) (by omega) e1
    have d2 := hexd_inj (by omega) (by omega) e2
    exact ⟨by omega, e3⟩
theorem coded_inj {bs ws : List Int} (h : Coded bs ws) : ∀ {bs' ws' : List Int}, Coded bs' ws' → ∀ r1 r2 : List Int, ws ++ 34 :: r1 = ws' ++ 34 :: r2 → bs = bs' ∧ r1 = r2 := by
  induction h with
  | nil =>
    intro bs' ws' k r1 r2 e
    cases k with
    | nil => simp only [List.nil_append, List.cons.injEq] at e; exact ⟨rfl, e.2⟩
    | cons h t =>
      exfalso
      cases h <;> simp only [List.nil_append, List.cons_append, List.cons.injEq] at e
      all_goals omega
  | cons h t ih =>
    intro bs' ws' k r1 r2 e
    cases k with
    | nil =>
      exfalso
      cases h <;> simp only [List.nil_append, List.cons_append, List.cons.injEq] at e
      all_goals omega
    | cons h' t' =>
      rw [List.append_assoc, List.append_assoc] at e
      obtain ⟨e1, e2⟩ := cw_inj h h' e
      obtain ⟨e3, e4⟩ := ih t' r1 r2 e2
      exact ⟨by rw [e1, e3], e4⟩
theorem dropC {l : List Int} {a : Nat} {x : Int} (h : l[a]? = some x) : l.drop a = x :: l.drop (a + 1) := by
  obtain ⟨hl, hx⟩ := List.getElem?_eq_some_iff.1 h
  rw [List.drop_eq_getElem_cons hl, hx]
theorem get_txt (s : ByteArray) {a : Nat} (h : a < s.size) : (txtB s)[a]? = some ((s.get! a).toNat : Int) := by
  rw [txtB_get h]
  have : s.get! a = s[a]'h := by
    show s.data[a]! = s.data[a]
    exact getElem!_pos s.data a h
  rw [this]
end Go.Proofs.YtoifpdnaeogdgabGreatDoor

namespace Go.Proofs.YtoifpdnaeogdgabGreatDoor
open Go.RowKit
set_option maxRecDepth 8000

theorem b_lt (s : ByteArray) (a : Nat) : (s.get! a).toNat < 256 := (s.get! a).toNat_lt
/-- a rune below 128 is its own byte -/
theorem dec_low {s : ByteArray} {a : Nat} (h : (Utf8.decode s a).1 < 128) : (s.get! a).toNat = (Utf8.decode s a).1 ∧ (Utf8.decode s a).2 = 1 := by
  rw [Go.Lib.decode_at] at h ⊢
  unfold Go.Lib.decodeN at h ⊢
  repeat' split at h
  all_goals first
    | (simp only at h; omega)
    | skip
  all_goals simp_all
theorem hex_coded : ∀ l : List Int, (∀ x ∈ l, 0 ≤ x ∧ x < 256) → Coded l (hexB l) := by
  intro l
  induction l with
  | nil => intro _; exact .nil
  | cons x l ih =>
    intro h
    have e : hexB (x :: l) = [92, 120, hexd (x.toNat / 16), hexd (x.toNat % 16)] ++ hexB l := by simp [hexB]
    rw [e]
    exact .cons (.hex x (h x (by simp)).1 (h x (by simp)).2) (ih fun y hy => h y (by simp [hy]))
theorem raw_coded : ∀ l : List Int, (∀ x ∈ l, x ≠ 34 ∧ x ≠ 92) → Coded l l := by
  intro l
  induction l with
  | nil => intro _; exact .nil
  | cons x l ih =>
    intro h
    have e : x :: l = [x] ++ l := rfl
    have k : Coded (x :: l) ([x] ++ l) := .cons (.raw x (h x (by simp)).1 (h x (by simp)).2) (ih fun y hy => h y (by simp [hy]))
    exact k
theorem take1 {s : ByteArray} {a : Nat} (h : a < s.size) : ((txtB s).drop a).take 1 = [((s.get! a).toNat : Int)] := by
  rw [dropC (get_txt s h)]; rfl
theorem take2 {s : ByteArray} {a : Nat} (h : a + 1 < s.size) : ((txtB s).drop a).take 2 = [((s.get! a).toNat : Int), ((s.get! (a + 1)).toNat : Int)] := by
  rw [dropC (get_txt s (by omega)), dropC (get_txt s h)]; rfl
theorem take3 {s : ByteArray} {a : Nat} (h : a + 2 < s.size) : ((txtB s).drop a).take 3 = [((s.get! a).toNat : Int), ((s.get! (a + 1)).toNat : Int), ((s.get! (a + 2)).toNat : Int)] := by
  rw [dropC (get_txt s (by omega)), dropC (get_txt s (by omega)), dropC (get_txt s h)]; rfl
theorem take4 {s : ByteArray} {a : Nat} (h : a + 3 < s.size) : ((txtB s).drop a).take 4 = [((s.get! a).toNat : Int), ((s.get! (a + 1)).toNat : Int), ((s.get! (a + 2)).toNat : Int), ((s.get! (a + 3)).toNat : Int)] := by
  rw [dropC (get_txt s (by omega)), dropC (get_txt s (by omega)), dropC (get_txt s (by omega)), dropC (get_txt s h)]; rfl
theorem txt1 (a : UInt8) : txtB ⟨#[a]⟩ = [(a.toNat : Int)] := rfl
theorem txt2 (a b : UInt8) : txtB ⟨#[a, b]⟩ = [(a.toNat : Int), (b.toNat : Int)] := rfl
theorem txt3 (a b c : UInt8) : txtB ⟨#[a, b, c]⟩ = [(a.toNat : Int), (b.toNat : Int), (c.toNat : Int)] := rfl
theorem txt4 (a b c d : UInt8) : txtB ⟨#[a, b, c, d]⟩ = [(a.toNat : Int), (b.toNat : Int), (c.toNat : Int), (d.toNat : Int)] := rfl
theorem u8n {n : Nat} (h : n < 256) : ((UInt8.ofNat n).toNat : Int) = (n : Int) := by rw [UInt8.toNat_ofNat', Nat.mod_eq_of_lt h]
/-- what a valid rune is written as -/
theorem enc_one {r : Nat} (h : r < 128) : txtB (Utf8.encode (r : Int)) = [(r : Int)] := by
  have hv : Utf8.valid (r : Int) = true := by simp [Utf8.valid]; omega
  unfold Utf8.encode
  simp only [hv, if_true, Int.toNat_natCast]
  rw [if_pos (by omega), txt1, u8n (by omega)]
theorem enc_two {r : Nat} (h0 : 128 ≤ r) (h : r < 2048) : txtB (Utf8.encode (r : Int)) = [((192 + r / 64 : Nat) : Int), ((128 + r % 64 : Nat) : Int)] := by
  have hv : Utf8.valid (r : Int) = true := by simp [Utf8.valid]; omega
  unfold Utf8.encode
  simp only [hv, if_true, Int.toNat_natCast]
  rw [if_neg (by omega), if_pos (by omega), txt2, u8n (by omega), u8n (by omega)]
theorem enc_three {r : Nat} (h0 : 2048 ≤ r) (h : r < 65536) (hv : r < 55296 ∨ 57344 ≤ r) : txtB (Utf8.encode (r : Int)) = [((224 + r / 4096 : Nat) : Int), ((128 + r / 64 % 64 : Nat) : Int), ((128 + r % 64 : Nat) : Int)] := by
  have hv : Utf8.valid (r : Int) = true := by simp [Utf8.valid]; omega
  unfold Utf8.encode
  simp only [hv, if_true, Int.toNat_natCast]
  rw [if_neg (by omega), if_neg (by omega), if_pos (by omega), txt3, u8n (by omega), u8n (by omega), u8n (by omega)]
theorem enc_four {r : Nat} (h0 : 65536 ≤ r) (h : r ≤ 1114111) : txtB (Utf8.encode (r : Int)) = [((240 + r / 262144 : Nat) : Int), ((128 + r / 4096 % 64 : Nat) : Int), ((128 + r / 64 % 64 : Nat) : Int), ((128 + r % 64 : Nat) : Int)] := by
  have hv : Utf8.valid (r : Int) = true := by simp [Utf8.valid]; omega
  unfold Utf8.encode
  simp only [hv, if_true, Int.toNat_natCast]
  rw [if_neg (by omega), if_neg (by omega), if_neg (by omega), txt4, u8n (by omega), u8n (by omega), u8n (by omega), u8n (by omega)]
/-- a rune of several bytes is written as it stands -/
theorem enc_back {s : ByteArray} {a : Nat} (ha : a < s.size) (h : 1 < (Utf8.decode s a).2) : txtB (Utf8.encode ((Utf8.decode s a).1 : Int)) = ((txtB s).drop a).take (Utf8.decode s a).2 ∧ ∀ x ∈ ((txtB s).drop a).take (Utf8.decode s a).2, x ≠ 34 ∧ x ≠ 92 := by
  have hw := (dec_width s a).2.2 ha
  have hb0 := b_lt s a
  have hb1 := b_lt s (a + 1)
  have hb2 := b_lt s (a + 2)
  have hb3 := b_lt s (a + 3)
  revert h hw
  rw [Go.Lib.decode_at]
  unfold Go.Lib.decodeN
  split
  · intro h; simp only at h; omega
  split
  · rename_i h1 h2
    split
    · rename_i h3
      intro _ hw
      simp only at hw ⊢
      rw [take2 (by omega), enc_two (by omega) (by omega)]
      refine ⟨by congr 1; omega; congr 1; omega, ?_⟩
      intro x hx
      simp only [List.mem_cons, List.not_mem_nil, or_false] at hx
      omega
    · intro h; simp only at h; omega
  split
  · rename_i h1 h2 h3
    split
    · rename_i h4
      intro _ hw
      simp only at hw ⊢
      rw [take3 (by omega), enc_three (by omega) (by omega) (by omega)]
      refine ⟨by congr 1; omega; congr 1; omega; congr 1; omega, ?_⟩
      intro x hx
      simp only [List.mem_cons, List.not_mem_nil, or_false] at hx
      omega
    · intro h; simp only at h; omega
  split
  · rename_i h1 h2 h3 h4
    split
    · rename_i h5
      intro _ hw
      simp only at hw ⊢
      rw [take4 (by omega), enc_four (by omega) (by omega)]
      refine ⟨by congr 1; omega; congr 1; omega; congr 1; omega; congr 1; omega, ?_⟩
      intro x hx
      simp only [List.mem_cons, List.not_mem_nil, or_false] at hx
      omega
    · intro h; simp only at h; omega
  · intro h; simp only at h; omega
theorem txt_range (s : ByteArray) : ∀ x ∈ txtB s, 0 ≤ x ∧ x < 256 := by
  intro x hx
  unfold txtB at hx
  obtain ⟨b, _, rfl⟩ := List.mem_map.1 hx
  have := b.toNat_lt
  omega
theorem piece_coded {s : ByteArray} {a : Nat} (ha : a < s.size) : Coded (((txtB s).drop a).take (Utf8.decode s a).2) (piece s a) := by
  unfold piece
  split
  · rename_i h
    obtain ⟨e1, e2⟩ := dec_low (s := s) (a := a) (by omega)
    rw [e2, take1 ha, e1]
    rcases h with h | h
    · rw [h]; exact .cons .quo .nil
    · rw [h]; exact .cons .bsl .nil
  split
  · rename_i h1 h
    obtain ⟨e1, e2⟩ := dec_low (s := s) (a := a) (by omega)
    rw [e2, take1 ha, e1, h]
    exact .cons .nl .nil
  split
  · rename_i h1 h2 h
    obtain ⟨e1, e2⟩ := dec_low (s := s) (a := a) (by omega)
    rw [e2, take1 ha, e1, h]
    exact .cons .tab .nil
  split
  · rename_i h1 h2 h3 h
    rcases h with h | h
    · obtain ⟨e1, e2⟩ := dec_low (s := s) (a := a) (by omega)
      rw [e2, take1 ha, e1, enc_one (by omega)]
      exact raw_coded _ (by intro x hx; simp only [List.mem_cons, List.not_mem_nil, or_false] at hx; omega)
    · obtain ⟨e1, e2⟩ := enc_back ha h.2
      rw [e1]
      exact raw_coded _ e2
  · exact hex_coded _ fun x hx => txt_range s x (List.mem_of_mem_drop (List.mem_of_mem_take hx))
theorem quoF_coded (s : ByteArray) : ∀ k a, s.size ≤ a + k → Coded ((txtB s).drop a) (quoF s k a) := by
  intro k
  induction k with
  | zero =>
    intro a h
    rw [List.drop_of_length_le (by rw [txtB_len]; omega)]
    exact .nil
  | succ k ih =>
    intro a h
    by_cases ha : a < s.size
    · rw [quoF_more s ha]
      have hw := dec_width s a
      have h2 := ih (a + (Utf8.decode s a).2) (by omega)
      have h3 := (piece_coded ha).app h2
      rw [← List.drop_drop, List.take_append_drop] at h3
      exact h3
    · rw [quoF_end s ha, List.drop_of_length_le (by rw [txtB_len]; omega)]
      exact .nil
theorem quo_inj {s u : ByteArray} {r1 r2 : List Int} (h : quoB s ++ r1 = quoB u ++ r2) : s = u ∧ r1 = r2 := by
  unfold quoB at h
  simp only [List.append_assoc, List.cons_append, List.nil_append, List.cons.injEq, true_and] at h
  have h1 := quoF_coded s s.size 0 (by omega)
  have h2 := quoF_coded u u.size 0 (by omega)
  rw [List.drop_zero] at h1 h2
  obtain ⟨e1, e2⟩ := coded_inj h1 h2 r1 r2 h
  exact ⟨txtB_inj e1, e2⟩
end Go.Proofs.YtoifpdnaeogdgabGreatDoor
