import Derived.Test.YtikfpoabaaiegaaPack28
namespace Go.Proofs.Ytikfpoabaaiegaa
open Go.RowKit
set_option maxRecDepth 8000
/-- two worlds that differ in the newest block alone -/
theorem But.two (w : World) (A B : Obj) {n : Nat} (hn : w.heap.size = n) : But (fun x => x = n) (w.alloc A) (w.alloc B).drew := by
  refine ⟨rfl, rfl, rfl, by simp [World.drew], fun q hq hne => ?_⟩
  have h1 : q < w.heap.size := by simp at hq; omega
  exact (Below.heap_alloc w B q h1).trans (Below.heap_alloc w A q h1).symm
set_option maxHeartbeats 1000000 in
theorem refVal_any {w0 : World} {rb : Nat} {w1 w : World} {a b c : Value} {N : List Int} {K : List ByteArray} {V : List VT} {i j k : Nat} {x : VT} (h : BG w0 rb w1 a b c N K V) (hb : BW rb w1 w a b c i j k) (hN : V.length ≤ 1000000000) (hi : V[k]? = some x) :
    Calls Try.prog 95 #[.pointer (some ⟨rb, 0, none⟩)] w fun e w' => e = .returned x.val ∧ BW rb w1 w' a b c i j (k + 1) ∧ But (fun x => x = rb) w w' := by
  obtain ⟨g, cap, rfl, hc, hne, hgl, hl⟩ := h.valAt hi
  obtain ⟨Z, hZ⟩ : ∃ Z, Z = Obj.cells #[.int .i64 0, .int .i64 0, .string ⟨#[]⟩, .slice none 0 0] 24 := ⟨_, rfl⟩
  have hal : Below w.heap.size w (w.alloc Z) := (Below.refl _ _).alloc (Nat.le_refl _) _
  have hrb := hb.box.lt
  have hbw := hb.kept hal
  have x3 := hbw.box.cell 5
  have f3 := hbw.box.frozen 5
  have h4 : But (fun x => x = rb) w (w.setCell ⟨rb, 5, none⟩ (.int .i64 ((k : Int) + 1))) := (But.one w rb).setAt 5 _
  have hx2 := hb.box.set 5 (.int .i64 ((k : Int) + 1))
  have hxl := hx2.lt
  have hx3 := hx2.below ((Below.refl _ _).alloc (Nat.le_refl _) Z)
  have y0 := hx3.cell 2
  have y3 := hx3.cell 5
  simp at x3 y0 y3
  have kp : ∀ o, ((w.setCell ⟨rb, 5, none⟩ (.int .i64 ((k : Int) + 1))).alloc Z).cell? ⟨g, o, none⟩ = w1.cell? ⟨g, o, none⟩ := fun o => World.cell?_of_block (a := ⟨g, o, none⟩) (((hb.but.trans h4).alloc Z).block g hgl hne)
  have hc0 := (kp (k * 4)).trans hc.1
  have hc1 := (kp (k * 4 + 1)).trans hc.2.1
  have hc2 := (kp (k * 4 + 2)).trans hc.2.2.1
  have hc3 := (kp (k * 4 + 3)).trans hc.2.2.2
  have hsz : (w.setCell ⟨rb, 5, none⟩ (.int .i64 ((k : Int) + 1))).heap.size = w.heap.size := by simp [World.setCell]
  have hz := Box.new (w.setCell ⟨rb, 5, none⟩ (.int .i64 ((k : Int) + 1))) #[.int .i64 0, .int .i64 0, .string ⟨#[]⟩, .slice none 0 0] 24
  rw [hsz, ← hZ] at hz
  have z0 := hz.cell 0
  have z1 := hz.cell 1
  have z2 := hz.cell 2
  have z3 := hz.cell 3
  have q0 := hz.frozen 0
  have q1 := hz.frozen 1
  have q2 := hz.frozen 2
  have q3 := hz.frozen 3
  simp at z0 z1 z2 z3
  have HF : Hid (∀ W, But (fun x => x = w.heap.size) ((w.setCell ⟨rb, 5, none⟩ (.int .i64 ((k : Int) + 1))).alloc Z) W → BW rb w1 W a b (.slice (some ⟨g, 0, none⟩) V.length cap) i j (k + 1) ∧ But (fun x => x = rb) w W) := by
    intro W hW
    have h5 : But (fun x => x = rb) w W := by
      have h6 := h4.alloc Z
      refine ⟨hW.os.trans h6.os, hW.tape.trans h6.tape, hW.output.trans h6.output, Nat.le_trans h6.size hW.size, fun q hq hn => (hW.block q (Nat.lt_of_lt_of_le hq h6.size) (by omega)).trans (h6.block q hq hn)⟩
    refine ⟨⟨?_, hb.but.trans h5⟩, h5⟩
    have := hx3.but hW (by omega)
    simpa using this
  have hi1 : (k : Int) + 1 - 1 = (k : Int) := by omega
  have hlt' : (k : Int) < (V.length : Int) := by omega
  subst hZ
  unfold VT.val
  clear h hb hx2 hx3 kp hc hbw hal hz h4 hsz
  go_enter Try.func95, Try.ntmps95
  go_wp2_with fail
  go_region
  all_goals
    go_wp2
    obtain ⟨W, hW⟩ : ∃ W, W = ((w.setCell ⟨rb, 5, none⟩ (.int .i64 ((k : Int) + 1))).alloc (.cells #[.int .i64 x.kind, .int .i64 x.int, .string x.text, .slice x.p x.n x.c] 24)).drew := ⟨_, rfl⟩
    have hbx : Box W w.heap.size #[.int .i64 x.kind, .int .i64 x.int, .string x.text, .slice x.p x.n x.c] 24 := by
      rw [hW]
      have h9 := Box.new (w.setCell ⟨rb, 5, none⟩ (.int .i64 ((k : Int) + 1))) #[.int .i64 x.kind, .int .i64 x.int, .string x.text, .slice x.p x.n x.c] 24
      rw [show (w.setCell ⟨rb, 5, none⟩ (.int .i64 ((k : Int) + 1))).heap.size = w.heap.size by simp [World.setCell]] at h9
      exact h9
    have HP := hid (HF.out W (by rw [hW]; exact But.two _ _ _ (by simp [World.setCell])))
    rw [← hW]
    clear hW
    have m0 := hbx.cell 0
    have m1 := hbx.cell 1
    have m2 := hbx.cell 2
    have m3 := hbx.cell 3
    simp at m0 m1 m2 m3
    refine bodyPost_ret (v := .agg #[.int .i64 x.kind, .int .i64 x.int, .string x.text, .slice x.p x.n x.c]) (by simp [results, Try.results95, go_sem, m0, m1, m2, m3]) rfl ?_
    exact ⟨rfl, HP.out⟩
end Go.Proofs.Ytikfpoabaaiegaa

namespace Go.Proofs.Ytikfpoabaaiegaa
open Go.RowKit
set_option maxRecDepth 8000
/-- what is left of the bag -/
def lft (N : List Int) (K : List ByteArray) (V : List VT) (i j k : Nat) : Bg := ⟨N.drop i, K.drop j, V.drop k⟩
def WrP (rb : Nat) (w1 : World) (a b c : Value) (N : List Int) (K : List ByteArray) (V : List VT) (zs : List Int) (g : Bg) (e : Ending) (w' : World) : Prop :=
  ∃ v' i j k, e = .returned v' ∧ OwnBy w1.heap.size w' v' zs ∧ BW rb w1 w' a b c i j k ∧ g = lft N K V i j k
/-- one letter is written, the others are left -/
theorem wS_cap {F c : Nat} {cs : List Nat} {g g3 : Bg} {B : List Int} (h1 : 65 ≤ c) (h2 : c ≤ 90) (h : wS (F + 1) (c :: cs) g = some (B, g3)) : ∃ C, wS F cs g = some (C, g3) ∧ B = (c : Int) :: C := by
  rw [wS_piece (by omega) (show pieceS c g = some ([(c : Int)], g) by unfold pieceS; rw [if_pos ⟨h1, h2⟩])] at h
  cases h3 : wS F cs g with
  | none => rw [h3] at h; cases h
  | some p => rw [h3] at h; obtain ⟨C, g4⟩ := p; simp at h; exact ⟨C, by rw [h.2], h.1.symm⟩
theorem wS_pieces {F c : Nat} {cs : List Nat} {g g3 : Bg} {B : List Int} (hc : ¬ (c = 91 ∨ c = 60)) (h : wS (F + 1) (c :: cs) g = some (B, g3)) : ∃ P g2 C, pieceS c g = some (P, g2) ∧ wS F cs g2 = some (C, g3) ∧ B = P ++ C := by
  cases h2 : pieceS c g with
  | none => rw [wS, if_neg hc, h2] at h; cases h
  | some q =>
    obtain ⟨P, g2⟩ := q
    rw [wS_piece hc h2] at h
    cases h3 : wS F cs g2 with
    | none => rw [h3] at h; cases h
    | some p => rw [h3] at h; obtain ⟨C, g4⟩ := p; simp at h; exact ⟨P, g2, C, rfl, by rw [h3, h.2], h.1.symm⟩
theorem drop_cons {α : Type} {l r : List α} {i : Nat} {x : α} (h : l.drop i = x :: r) : l[i]? = some x ∧ l.drop (i + 1) = r := by
  have h1 : i < l.length := by
    rcases Nat.lt_or_ge i l.length with h1 | h1
    · exact h1
    · rw [List.drop_of_length_le h1] at h; cases h
  rw [List.drop_eq_getElem_cons h1] at h
  injection h with h2 h3
  exact ⟨by rw [List.getElem?_eq_getElem h1, h2], h3⟩
theorem piece_key {N : List Int} {K : List ByteArray} {V : List VT} {i j k : Nat} {P : List Int} {g2 : Bg} (h : pieceS 107 (lft N K V i j k) = some (P, g2)) : ∃ s, K[j]? = some s ∧ s.size ≤ 1000 ∧ P = keyB s ∧ g2 = lft N K V i (j + 1) k := by
  unfold pieceS at h
  rw [if_neg (by decide), if_pos rfl] at h
  simp only [lft] at h
  cases hK : K.drop j with
  | nil => rw [hK] at h; cases h
  | cons s r =>
    rw [hK] at h
    obtain ⟨h1, h2⟩ := drop_cons hK
    simp only at h
    by_cases hs : s.size ≤ 1000
    · rw [if_pos hs] at h
      simp at h
      exact ⟨s, h1, hs, h.1.symm, by rw [← h.2, ← h2]; rfl⟩
    · rw [if_neg hs] at h; cases h
theorem piece_val {N : List Int} {K : List ByteArray} {V : List VT} {i j k : Nat} {P : List Int} {g2 : Bg} (h : pieceS 118 (lft N K V i j k) = some (P, g2)) : ∃ x, V[k]? = some x ∧ P = encB (cleanT x) ∧ g2 = lft N K V i j (k + 1) := by
  unfold pieceS at h
  rw [if_neg (by decide), if_neg (by decide), if_pos rfl] at h
  simp only [lft] at h
  cases hK : V.drop k with
  | nil => rw [hK] at h; cases h
  | cons s r =>
    rw [hK] at h
    obtain ⟨h1, h2⟩ := drop_cons hK
    simp at h
    exact ⟨s, h1, h.1.symm, by rw [← h.2, ← h2]; rfl⟩
theorem piece_word {N : List Int} {K : List ByteArray} {V : List VT} {i j k : Nat} {P : List Int} {g2 : Bg} (h : pieceS 119 (lft N K V i j k) = some (P, g2)) : ∃ u : Nat, N[i]? = some (u : Int) ∧ u < 4294967296 ∧ P = wordB u ∧ g2 = lft N K V (i + 1) j k := by
  unfold pieceS at h
  rw [if_neg (by decide), if_neg (by decide), if_neg (by decide)] at h
  simp only [lft] at h
  cases hK : N.drop i with
  | nil => rw [hK] at h; cases h
  | cons s r =>
    rw [hK] at h
    obtain ⟨h1, h2⟩ := drop_cons hK
    simp only [if_true, wordOf] at h
    by_cases hs : 0 ≤ s ∧ s < 4294967296
    · rw [if_pos hs] at h
      simp at h
      exact ⟨s.toNat, by rw [h1]; congr 1; omega, by omega, h.1.symm, by rw [← h.2, ← h2]; rfl⟩
    · rw [if_neg hs] at h; cases h
theorem piece_num {N : List Int} {K : List ByteArray} {V : List VT} {i j k c : Nat} {P : List Int} {g2 : Bg} (c1 : ¬ (65 ≤ c ∧ c ≤ 90)) (c2 : c ≠ 107) (c3 : c ≠ 118) (c4 : c ≠ 119) (h : pieceS c (lft N K V i j k) = some (P, g2)) : ∃ u : Nat, N[i]? = some (u : Int) ∧ u < 34359738368 ∧ P = grpB u ∧ g2 = lft N K V (i + 1) j k := by
  unfold pieceS at h
  rw [if_neg c1, if_neg c2, if_neg c3] at h
  simp only [lft] at h
  cases hK : N.drop i with
  | nil => rw [hK] at h; cases h
  | cons s r =>
    rw [hK] at h
    obtain ⟨h1, h2⟩ := drop_cons hK
    simp only [if_neg c4, numB] at h
    by_cases hs : 0 ≤ s ∧ s < 34359738368
    · rw [if_pos hs] at h
      simp at h
      exact ⟨s.toNat, by rw [h1]; congr 1; omega, by omega, h.1.symm, by rw [← h.2, ← h2]; rfl⟩
    · rw [if_neg hs] at h; cases h
theorem wS_lists {F c : Nat} {cs : List Nat} {N : List Int} {K : List ByteArray} {V : List VT} {i j k : Nat} {g3 : Bg} {B : List Int} (hc : c = 91 ∨ c = 60) (h : wS (F + 1) (c :: cs) (lft N K V i j k) = some (B, g3)) :
    ∃ (m u : Nat) (P : List Int) (g2 : Bg) (C : List Int), mS 0 (c :: cs) = some m ∧ 2 ≤ m ∧ N[i]? = some (u : Int) ∧ u < 34359738368 ∧ repS (wS F (((c :: cs).take m).drop 2)) u (lft N K V (i + 1) j k) = some (P, g2) ∧ wS F ((c :: cs).drop (m + 1)) g2 = some (C, g3) ∧ B = grpB u ++ (P ++ C) := by
  rw [wS, if_pos hc] at h
  cases hm : mS 0 (c :: cs) with
  | none => rw [hm] at h; cases h
  | some m =>
    rw [hm] at h
    simp only [lft] at h
    by_cases hm2 : m < 2
    · rw [if_pos hm2] at h; cases h
    rw [if_neg hm2] at h
    cases hK : N.drop i with
    | nil => rw [hK] at h; cases h
    | cons s r =>
      rw [hK] at h
      obtain ⟨h1, h2⟩ := drop_cons hK
      simp only [numB] at h
      by_cases hs : 0 ≤ s ∧ s < 34359738368
      · rw [if_pos hs] at h
        simp only at h
        rw [← h2] at h
        cases hr : repS (wS F (((c :: cs).take m).drop 2)) s.toNat ⟨N.drop (i + 1), K.drop j, V.drop k⟩ with
        | none => rw [hr] at h; cases h
        | some q =>
          obtain ⟨P, g2⟩ := q
          rw [hr] at h
          simp only at h
          cases hw : wS F ((c :: cs).drop (m + 1)) g2 with
          | none => rw [hw] at h; cases h
          | some q2 =>
            obtain ⟨C, g4⟩ := q2
            rw [hw] at h
            simp at h
            exact ⟨m, s.toNat, P, g2, C, rfl, by omega, by rw [h1]; congr 1; omega, by omega, hr, by rw [hw, h.2], h.1.symm⟩
      · rw [if_neg hs] at h; cases h
theorem rep_succ {one : Bg → Option (List Int × Bg)} {n : Nat} {g g2 : Bg} {P : List Int} (h : repS one (n + 1) g = some (P, g2)) : ∃ B g' C, one g = some (B, g') ∧ repS one n g' = some (C, g2) ∧ P = B ++ C := by
  unfold repS at h
  cases h1 : one g with
  | none => rw [h1] at h; cases h
  | some q =>
    obtain ⟨B, g'⟩ := q
    rw [h1] at h
    simp only at h
    cases h2 : repS one n g' with
    | none => rw [h2] at h; cases h
    | some q2 =>
      obtain ⟨C, g4⟩ := q2
      rw [h2] at h
      simp at h
      exact ⟨B, g', C, rfl, by rw [h2, h.2], h.1.symm⟩
theorem mS_bound : ∀ (l : List Nat) (d m : Nat), mS d l = some m → m < l.length := by
  intro l
  induction l with
  | nil => intro d m h; cases h
  | cons c cs ih =>
    intro d m h
    unfold mS at h
    simp only [List.length_cons]
    by_cases h1 : c = 91 ∨ c = 60
    · rw [if_pos h1] at h
      obtain ⟨n, e, rfl⟩ := Option.map_eq_some_iff.1 h
      have := ih _ _ e
      omega
    · rw [if_neg h1] at h
      by_cases h2 : c = 93 ∨ c = 62
      · rw [if_pos h2] at h
        by_cases h3 : d = 0
        · rw [if_pos h3] at h; cases h
        · rw [if_neg h3] at h
          by_cases h4 : d = 1
          · rw [if_pos h4] at h; simp at h; omega
          · rw [if_neg h4] at h
            obtain ⟨n, e, rfl⟩ := Option.map_eq_some_iff.1 h
            have := ih _ _ e
            omega
      · rw [if_neg h2] at h
        obtain ⟨n, e, rfl⟩ := Option.map_eq_some_iff.1 h
        have := ih _ _ e
        omega
end Go.Proofs.Ytikfpoabaaiegaa
