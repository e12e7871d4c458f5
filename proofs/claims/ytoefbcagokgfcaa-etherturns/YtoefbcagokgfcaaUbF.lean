import Derived.Test.YtoefbcagokgfcaaUbE
namespace Go.Proofs.Ytoefbcagokgfcaa
open Go.RowKit
set_option maxRecDepth 8000
/-- a list of lists of bytes, where one item lies -/
theorem bys_at {W w : World} {S : Nat → Prop} {l : LT BY} (h : LT.In elBy W S l) (hb : Below W.heap.size W w) {j : Nat} (hj : j < l.n) : ∃ b o, l.p = some ⟨b, o, none⟩ ∧ b < w.heap.size ∧ w.cell? ⟨b, o + j, none⟩ = some (.slice (l.item j).p (l.item j).n (l.item j).c) ∧ Src w (l.item j).p (l.item j).zs.length (l.item j).c 1 ((l.item j).zs.map (.int .u8)) ∧ ∀ z ∈ (l.item j).zs, 0 ≤ z ∧ z < 256 := by
  obtain ⟨b, o, hp, _, hl, hat⟩ := h.at_ (by omega)
  have h1 := hat j hj 0 _ rfl
  refine ⟨b, o, hp, Nat.lt_of_lt_of_le hl hb.size, ?_, (BY.src (h.each j hj)).below hb, BY.by_ (h.each j hj)⟩
  rw [show o + j * elBy.size + 0 = o + j by show o + j * 1 + 0 = o + j; omega] at h1
  exact (World.cell?_of_block (a := ⟨b, o + j, none⟩) (hb.block b hl)).trans h1
theorem bys_at' {W w : World} {S : Nat → Prop} {l : LT BY} (h : LT.In elBy W S l) (hb : Below W.heap.size W w) {b o : Nat} (hp : l.p = some ⟨b, o, none⟩) {j : Nat} (hj : j < l.n) : b < w.heap.size ∧ w.cell? ⟨b, o + j, none⟩ = some (.slice (l.item j).p (l.item j).n (l.item j).c) ∧ Src w (l.item j).p (l.item j).zs.length (l.item j).c 1 ((l.item j).zs.map (.int .u8)) ∧ ∀ z ∈ (l.item j).zs, 0 ≤ z ∧ z < 256 := by
  obtain ⟨b', o', hp', r⟩ := bys_at h hb hj
  rw [hp] at hp'
  cases hp'
  exact r
/-- the packets from c on up to s, in flight -/
def inFl (l : LT BY) (c s : Nat) : List FA := (List.range (s - c)).map fun j => ⟨(((c + j) % 3 : Nat) : Int), (((c + j + 1) % 3 : Nat) : Int), (l.item (c + j)).zs⟩
theorem inFl_len (l : LT BY) (c s : Nat) : (inFl l c s).length = s - c := by simp [inFl]
theorem inFl_send (l : LT BY) {c s : Nat} (h : c ≤ s) : inFl l c (s + 1) = inFl l c s ++ [⟨((s % 3 : Nat) : Int), (((s + 1) % 3 : Nat) : Int), (l.item s).zs⟩] := by
  unfold inFl
  rw [show s + 1 - c = (s - c) + 1 by omega, List.range_succ, List.map_append]
  simp [show c + (s - c) = s by omega]
  omega
theorem inFl_take (l : LT BY) {c s : Nat} (h : c < s) : (inFl l c s)[0]? = some ⟨((c % 3 : Nat) : Int), (((c + 1) % 3 : Nat) : Int), (l.item c).zs⟩ ∧ (inFl l c s).eraseIdx 0 = inFl l (c + 1) s := by
  have e : inFl l c s = ⟨((c % 3 : Nat) : Int), (((c + 1) % 3 : Nat) : Int), (l.item c).zs⟩ :: inFl l (c + 1) s := by
    unfold inFl
    rw [show s - c = (s - (c + 1)) + 1 by omega, List.range_succ_eq_map]
    simp only [List.map_cons, List.map_map, Nat.add_zero]
    congr 1
    apply List.map_congr_left
    intro j _
    simp only [Function.comp, Nat.succ_eq_add_one]
    rw [show c + (j + 1) = c + 1 + j by omega]
  rw [e]
  exact ⟨rfl, rfl⟩
theorem tmod3 (n : Nat) : (n : Int).tmod 3 = ((n % 3 : Nat) : Int) := by
  rw [Int.tmod_eq_emod_of_nonneg (by omega)]; omega
end Go.Proofs.Ytoefbcagokgfcaa
