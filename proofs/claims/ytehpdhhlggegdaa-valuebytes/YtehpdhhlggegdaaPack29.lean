import Derived.Test.YtehpdhhlggegdaaPack28
import Derived.Test.YtehpdhhlggegdaaPack25
import Derived.Test.YtehpdhhlggegdaaPack26
import Derived.Test.YtehpdhhlggegdaaEncR
import Derived.Lib.ConvBytes
namespace Go.Proofs.Ytehpdhhlggegdaa
open Go.RowKit

theorem ordV_alike : ∀ (a a' b b' : VT), VT.Alike a a' → VT.Alike b b' → Val a → Val a' → Val b → Val b' → ordV a b = ordV a' b' := by
  intro a
  induction a with
  | nil => intro a' b b' _ _ h; exact h.elim
  | mk k i s n p c f ih =>
    intro a' b b' h1 h2 va va' vb vb'
    cases a' with
    | nil => exact va'.elim
    | mk k' i' s' n' p' c' f' =>
    cases b with
    | nil => exact vb.elim
    | mk l j r m q d g =>
    cases b' with
    | nil => exact vb'.elim
    | mk l' j' r' m' q' d' g' =>
      obtain ⟨e1, e2, e3, e4, hf⟩ := h1
      obtain ⟨g1, g2, g3, g4, hg⟩ := h2
      simp only [VT.kind_mk, VT.int_mk, VT.text_mk, VT.n_mk, VT.item_mk] at e1 e2 e3 e4 hf g1 g2 g3 g4 hg
      subst e1 e2 e3 e4 g1 g2 g3 g4
      by_cases hk : k' = l'
      · subst hk
        by_cases k1 : k' = 1
        · subst k1; rw [ordV_ints, ordV_ints]
        by_cases k2 : k' = 2
        · subst k2; rw [ordV_texts, ordV_texts]
        rw [ordV_lists k' _ _ _ _ _ _ _ _ _ _ _ _ k1 k2, ordV_lists k' _ _ _ _ _ _ _ _ _ _ _ _ k1 k2]
        unfold ordL
        rw [firstN_congr (min n' m') fun q hq => ih q (f' q) (g q) (g' q) (hf q (by omega)) (hg q (by omega)) (va.2 q (by omega)) (va'.2 q (by omega)) (vb.2 q (by omega)) (vb'.2 q (by omega))]
      · rw [ordV_kinds k' l' _ _ _ _ _ _ _ _ _ _ _ _ hk, ordV_kinds k' l' _ _ _ _ _ _ _ _ _ _ _ _ hk]
theorem cleanT_alike {t u : VT} (h : VT.Alike t u) : VT.Alike (cleanT t) (cleanT u) := by
  unfold cleanT
  rw [← chk_alike t u 0 0 h]
  split
  · exact h
  · exact VT.Alike.refl _
/-- what the reference says of the copies is what is said of the values -/
theorem ord_copies {x x' u u' : VT} {w : World} {S1 S2 S3 S4 : Nat → Prop} (h1 : VT.In w S1 x) (h2 : VT.In w S2 x') (h3 : VT.In w S3 u) (h4 : VT.In w S4 u') (ha : VT.Alike x u) (hb : VT.Alike x' u') :
    cmp3 (strOf (rankB (cleanT u))).toList (strOf (rankB (cleanT u'))).toList = ordV (cleanT x) (cleanT x') := by
  rw [order_rank (clean_val h3) (clean_val h4)]
  exact (ordV_alike _ _ _ _ (cleanT_alike ha) (cleanT_alike hb) (clean_val h1) (clean_val h3) (clean_val h2) (clean_val h4)).symm
end Go.Proofs.Ytehpdhhlggegdaa

namespace Go.Proofs.Ytehpdhhlggegdaa
open Go.RowKit
set_option maxRecDepth 8000

theorem encB_alike : ∀ (t u : VT), VT.Alike t u → encB t = encB u := by
  intro t
  induction t with
  | nil => intro u h; rw [show u = .nil from h]
  | mk k i s n p c f ih =>
    intro u h
    cases u with
    | nil =>
      obtain ⟨h1, h2, h3, h4, h5⟩ := h
      simp only [VT.kind, VT.n] at h1 h4
      subst h1
      simp [encB]
    | mk k' i' s' n' p' c' f' =>
      obtain ⟨h1, h2, h3, h4, h5⟩ := h
      simp only [VT.kind_mk, VT.int_mk, VT.text_mk, VT.n_mk] at h1 h2 h3 h4
      subst h1 h2 h3 h4
      rw [encB_eq, encB_eq]
      have e : ((List.range n').flatMap fun j => encB (f j)) = ((List.range n').flatMap fun j => encB (f' j)) := by
        rw [List.flatMap_def, List.flatMap_def]
        congr 1
        apply List.map_congr_left
        intro j hj
        exact ih j _ (h5 j (List.mem_range.1 hj))
      rw [e]
theorem encC_alike {t u : VT} (h : VT.Alike t u) : encB (cleanT t) = encB (cleanT u) := encB_alike _ _ (cleanT_alike h)
theorem encB_pos (t : VT) : 0 < (encB t).length := by
  cases t with
  | nil => simp [encB]
  | mk => rw [encB_eq]; simp
/-- a row of bytes as a string -/
def strB (f : Nat → Int) (n : Nat) : ByteArray := strOf ((List.range n).map f)
theorem byts_conv {w : World} {S : Nat → Prop} {p : Option Addr} {n c : Nat} {f : Nat → Int} (h : Byts w S p n c f) : (convert 62 9 (.slice p n c)).run Try.prog w = .ok (.string (strB f n)) w := by
  cases p with
  | none =>
    obtain ⟨rfl, rfl⟩ := h.nil rfl
    exact conv_none 0 w
  | some ad =>
    have h2 := conv_at (w := w) (ad := ad) (c := c) (zs := (List.range n).map f) (fun j u hu => by
      by_cases hj : j < n
      · obtain ⟨b, o, e, _, _, ha⟩ := h.at_ (by omega)
        cases e
        rw [Go.WideShapes.add_plain, ha j hj]
        simp [List.getElem?_range hj] at hu
        rw [hu]
      · simp [List.getElem?_eq_none (show (List.range n).length ≤ j by simp; omega)] at hu)
    simp only [List.length_map, List.length_range] at h2
    exact h2
theorem strOf_data (zs : List Int) : (strOf zs).data.toList = toU8 zs := by
  have key : ∀ (zs : List Int) (r : ByteArray), (zs.foldl (fun r n => r.push (UInt8.ofNat n.toNat)) r).data.toList = r.data.toList ++ toU8 zs := by
    intro zs
    induction zs with
    | nil => intro r; simp [toU8]
    | cons z zs ih =>
      intro r
      rw [List.foldl_cons, ih]
      simp [toU8, ByteArray.push]
  have h := key zs ByteArray.empty
  simpa [strOf] using h
theorem strB_get {f : Nat → Int} {n : Nat} (hf : ∀ j, j < n → 0 ≤ f j ∧ f j < 256) {j : Nat} (hj : j < n) : (((strB f n).data.toList.getD j 0).toNat : Int) = f j := by
  obtain ⟨h0, h1⟩ := hf j hj
  rw [strB, strOf_data, toU8, List.map_map, List.getD_eq_getElem?_getD, List.getElem?_map, List.getElem?_range hj]
  simp only [Option.map_some, Option.getD_some, Function.comp_apply, UInt8.toNat_ofNat']
  omega
theorem strB_size (f : Nat → Int) (n : Nat) : (strB f n).size = n := by simp [strB, strOf_size]
/-- the bytes of a string, in new memory -/
theorem byts_new {w : World} {f : Nat → Int} {n : Nat} (hf : ∀ j, j < n → 0 ≤ f j ∧ f j < 256) (hn : n ≤ 140737488355328) :
    ∃ c w', (convert 9 62 (.string (strB f n))).run Try.prog w = .ok (.slice (some ⟨w.heap.size, 0, none⟩) n c) w' ∧ Byts w' (fun b => w.heap.size ≤ b ∧ b < w'.heap.size) (some ⟨w.heap.size, 0, none⟩) n c f ∧ Below w.heap.size w w' := by
  have hr := Go.Lib.run_convert_string_bytes (P := Try.prog) w 9 62 5 (strB f n) Try.underlying9 Try.underlying62 Try.underlying5
  rw [strB_size] at hr
  have hsz := Go.Lib.bytesWorld_size w 5 (strB f n)
  refine ⟨_, _, hr, ⟨fun _ => ⟨w.heap.size, 0, rfl, ⟨Nat.le_refl _, by omega⟩, by omega, fun j hj => ?_⟩, grownCap_ge _ _ _ _, hn, grownCap_le_maxLen _ _ _ _ (by unfold maxLen; omega), hf, fun h => by cases h⟩, ⟨rfl, rfl, rfl, by omega, fun k hk => Go.Lib.bytesWorld_at_old w 5 _ k hk⟩⟩
  rw [Nat.zero_add, Go.Lib.bytesWorld_cell w 5 (strB f n) j (by rw [strB_size]; exact hj), strB_get hf hj]
/-- what an answer of Decode comes to -/
def decU : DR → VT × Nat × Nat
  | .ok (t, a, _) => (t, a, 0)
  | .error e => (mkN, 0, e)
theorem decU_le {f : Nat → Int} {n : Nat} : (decU (decS f n 3 0 0 0)).2.1 ≤ n := by
  cases h : decS f n 3 0 0 0 with
  | error e => exact Nat.zero_le _
  | ok t => obtain ⟨v, a, q⟩ := t; exact decS_le _ _ _ _ _ _ _ h
theorem dec_both {w w' : World} {r : DR} {x : Ending} (h : DecPost w r x w') : ∃ u : VT, x = .returned (.tuple #[.agg #[.int .i64 u.kind, .int .i64 u.int, .string u.text, .slice u.p u.n u.c], .int .i64 ((decU r).2.1 : Int), .int .i64 ((decU r).2.2 : Int)]) ∧ VT.Alike (decU r).1 u ∧ VT.In w' (fun b => w.heap.size ≤ b) u ∧ Below w.heap.size w w' := by
  cases r with
  | ok t =>
    obtain ⟨t, a, q⟩ := t
    obtain ⟨u, rfl, h1, h2, h3⟩ := h.1 t a q rfl
    exact ⟨u, rfl, h1, h2, h3⟩
  | error e =>
    obtain ⟨rfl, h3⟩ := h.2 e rfl
    exact ⟨mkN, rfl, VT.Alike.refl _, small_in _ _ _ _ _ (by omega) (by omega) (by omega) (by omega) (by decide), h3⟩
end Go.Proofs.Ytehpdhhlggegdaa
