import Derived.Test.YtpldokahoamdpaaLdR
import Derived.Test.YtpldokahoamdpaaPack0
namespace Go.Proofs.Ytpldokahoamdpaa
open Go.RowKit Go.Conc
set_option maxRecDepth 8000
theorem LT.sumR_at (l : LT RT) {j : Nat} (h : j < l.n) : (l.item j).size ≤ l.sumR l.n := by
  have h1 := l.sumR_mono (show j + 1 ≤ l.n from h)
  rw [LT.sumR_succ] at h1
  unfold RT.size
  omega
/-- Put, on any two lanes -/
def PutOK : Prop := ∀ (w : World) (Z : Nat → Prop) (b d : Nat) (s : Pq), s.I w Z b d → (∀ k, Z k → k < w.heap.size) → ∀ (o : OpL) (S : Nat → Prop), o.kind = 1 → LT.In elItem w S o.its → (∀ k, k < w.heap.size → S k → ¬ s.C b d k) → o.its.sumI o.its.n ≤ 10000 → s.len + o.its.n ≤ 30000 →
  Calls Try.prog 25 #[.pointer (some ⟨b, 0, none⟩), .pointer (some ⟨d, 0, none⟩), .agg #[.int .i64 o.kind, .bool o.sec, .slice o.its.p o.its.n o.its.c, .slice o.rcs.p o.rcs.n o.rcs.c]] w fun e w' => PlayQ w Z b d s o.its.n e w'
theorem PlayQ.more {w : World} {Z : Nat → Prop} {b d : Nat} {s : Pq} {n m : Nat} {e : Ending} {w' : World} (h : PlayQ w Z b d s n e w') (hm : n ≤ m) : PlayQ w Z b d s m e w' := by
  obtain ⟨he, s', h1, h2⟩ := h
  exact ⟨he, s', h1, by omega⟩
/-- a call of any kind -/
theorem plays_of (hput : PutOK) : PlaysOK := by
  intro w Z b d s h hZ o S hin hS hi hr hlen
  have hri := o.rcs.sumR_le o.rcs.n
  by_cases h1 : o.kind = 1
  · exact (hput w Z b d s h hZ o S h1 hin.its hS hi (by omega)).mono fun e w' hq => hq.more (by omega)
  by_cases h2 : o.kind = 2
  · exact (plays_take w Z b d s h hZ o h2).mono fun e w' hq => hq.more (by omega)
  by_cases h3 : o.kind = 3
  · exact (plays_peek w Z b d s h hZ o h3).mono fun e w' hq => hq.more (by omega)
  by_cases h4 : o.kind = 4
  · exact (plays_pull w Z b d s h hZ o h4).mono fun e w' hq => hq.more (by omega)
  by_cases h5 : o.kind = 5
  · exact (plays_refill w Z b d s h hZ o h5 S hin.rcs hS (by omega) (fun j hj => by have := o.rcs.sumR_at hj; omega) (by omega)).mono fun e w' hq => hq.more (by omega)
  by_cases h6 : o.kind = 6
  · exact (plays_list w Z b d s h hZ o h6).mono fun e w' hq => hq.more (by omega)
  by_cases h7 : o.kind = 7
  · exact (plays_full w Z b d s h hZ o h7).mono fun e w' hq => hq.more (by omega)
  by_cases h8 : o.kind = 8
  · exact (plays_close w Z b d s h hZ o h8).mono fun e w' hq => hq.more (by omega)
  · exact (plays_other w Z b d s h o (by omega)).mono fun e w' hq => hq.more (by omega)
/-- LaneAll, given Put -/
theorem laneAll_put (hput : PutOK) (first second : Int) (s : LT OpL) (w : World) (hin : LT.In elOpL w (fun b => b < w.heap.size) s) : Calls Try.prog 6 #[.int .i64 first, .int .i64 second, .slice s.p s.n s.c] w fun e w' => e = .returned (.bool true) ∧ Below w.heap.size w w' := laneAll_of (plays_of hput) first second s w hin
end Go.Proofs.Ytpldokahoamdpaa

namespace Go.Proofs.Ytpldokahoamdpaa
open Go.RowKit
set_option maxRecDepth 8000

/-- the mark of a place behind a list -/
def lotN (i : Nat) : Int := if i % 2 = 0 then -7701 else -7702
/-- the value that marks a place -/
def markV (i : Nat) : VT := .mk 1 (lotN i) ⟨#[]⟩ 0 none 0 (fun _ => .nil)

theorem lot_any (i : Nat) (_hi : i ≤ 1000000) (w : World) :
    Calls Try.prog 63 #[.int .i64 (i : Int)] w fun e w' => e = .returned (.int .i64 (lotN i)) ∧ w' = w := by
  by_cases h : i % 2 = 0
  · have h2 : (i : Int).tmod 2 = 0 := by rw [show (i : Int).tmod 2 = ((i % 2 : Nat) : Int) from rfl, h]; rfl
    rw [lotN, if_pos h]
    go_enter Try.func63, Try.ntmps63
    go_wp2
    go_ret
    exact ⟨rfl, rfl⟩
  · have h2 : (i : Int).tmod 2 = 1 := by rw [show (i : Int).tmod 2 = ((i % 2 : Nat) : Int) from rfl, show i % 2 = 1 by omega]; rfl
    rw [lotN, if_neg h]
    go_enter Try.func63, Try.ntmps63
    go_wp2
    go_ret
    exact ⟨rfl, rfl⟩
theorem mark_any (n : Int) (w : World) :
    Calls Try.prog 80 #[.int .i64 n] w fun e w' => e = .returned (.agg #[.int .i64 1, .int .i64 n, .string ⟨#[]⟩, .slice none 0 0]) ∧ Below w.heap.size w w' := by
  go_enter Try.func80, Try.ntmps80
  go_wp2
  refine bodyPost_ret (v := .agg #[.int .i64 1, .int .i64 n, .string ⟨#[]⟩, .slice none 0 0]) (by simp [results, Try.results80, go_sem]) rfl ⟨rfl, (Below.refl _ _).alloc (Nat.le_refl _) _⟩
end Go.Proofs.Ytpldokahoamdpaa
