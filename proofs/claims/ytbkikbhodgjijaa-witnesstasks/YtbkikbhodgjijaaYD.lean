import Derived.Test.YtbkikbhodgjijaaYB
namespace Go.Proofs.Ytbkikbhodgjijaa
open Go.RowKit
set_option maxRecDepth 8000
/-- a trail that can be -/
def CanL (n : Int) (l : LT TR) : Prop := 1 ≤ n ∧ n ≤ 12 ∧ ∀ q, q < l.n → Can n (l.item q)
/-- yes or no -/
def YesQ (P : Prop) (w : World) (e : Ending) (w' : World) : Prop := ∃ b : Bool, e = .returned (.bool b) ∧ (b = true ↔ P) ∧ Below w.heap.size w w'
/-- the four cells of an item -/
theorem LT.In.tr {w : World} {S : Nat → Prop} {l : LT TR} (h : LT.In elTr w S l) (hn : 0 < l.n) : ∃ b o, l.p = some ⟨b, o, none⟩ ∧ S b ∧ b < w.heap.size ∧ ∀ j, j < l.n → w.cell? ⟨b, o + j * 4, none⟩ = some (.int .i64 (l.item j).kind) ∧ w.cell? ⟨b, o + j * 4 + 1, none⟩ = some (.int .i64 (l.item j).task) ∧ w.cell? ⟨b, o + j * 4 + 2, none⟩ = some (.int .i64 (l.item j).port) ∧ w.cell? ⟨b, o + j * 4 + 3, none⟩ = some (.int .i64 (l.item j).id) := by
  obtain ⟨b, o, hp, hS, hl, ha⟩ := h.at_ hn
  exact ⟨b, o, hp, hS, hl, fun j hj => ⟨ha j hj 0 _ rfl, ha j hj 1 _ rfl, ha j hj 2 _ rfl, ha j hj 3 _ rfl⟩⟩
theorem LT.In.ev {w : World} {S : Nat → Prop} {l : LT EV} (h : LT.In elEv w S l) (hn : 0 < l.n) : ∃ b o, l.p = some ⟨b, o, none⟩ ∧ S b ∧ b < w.heap.size ∧ ∀ j, j < l.n → w.cell? ⟨b, o + j * 2, none⟩ = some (.int .i64 (l.item j).task) ∧ w.cell? ⟨b, o + j * 2 + 1, none⟩ = some (.int .i64 (l.item j).port) := by
  obtain ⟨b, o, hp, hS, hl, ha⟩ := h.at_ hn
  exact ⟨b, o, hp, hS, hl, fun j hj => ⟨ha j hj 0 _ rfl, ha j hj 1 _ rfl⟩⟩
set_option maxHeartbeats 8000000 in
/-- the reference's entry -/
theorem rentry_any (k t p i n : Int) (w : World) (hn : 1 ≤ n) : Calls Try.prog 40 #[.agg #[.int .i64 k, .int .i64 t, .int .i64 p, .int .i64 i], .int .i64 n] w fun e w' => CanQ n ⟨k, t, p, i⟩ w e w' := by
  have H := hid hn
  clear hn
  go_enter Try.func40, Try.ntmps40
  go_wp2
  all_goals
    go_ret
    refine ⟨_, rfl, ?_, below1 _ _⟩
    have hn := H.out
    unfold Can
    try dsimp only
    try simp only [beq_iff_eq, beq_eq_false_iff_ne, ne_eq] at *
    first | omega | (simp; omega) | (simp; done)
end Go.Proofs.Ytbkikbhodgjijaa
