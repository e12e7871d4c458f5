import Derived.Test.YtbcnlfbclgkeiaaLcW
namespace Go.Proofs.Ytbcnlfbclgkeiaa
open Go.RowKit Go.Conc
set_option maxRecDepth 8000
theorem slice_run (w : World) (a : Option Addr) (len cap l h : Nat) (h1 : l ≤ h) (h2 : h ≤ cap) : (Instr.slice 38 (.slice a len cap) (some (.int .i64 (l : Int))) (some (.int .i64 (h : Int))) none).run Try.prog w = .ok (.slice (if cap = l then a else a.map (·.add (l * 6))) (h - l) (cap - l)) w := by
  have e1 : (l : Int) ≤ (h : Int) := by omega
  have e2 : (h : Int) ≤ (cap : Int) := by omega
  simp [go_sem, e1, e2, sliced]
theorem LT.In.cut {w : World} {S : Nat → Prop} {l : LT RT} (h : LT.In elRec w S l) (o m : Nat) (hm : o + m ≤ l.n) : LT.In elRec w S ⟨if l.c = o then l.p else l.p.map (·.add (o * 6)), m, l.c - o, fun j => l.item (o + j)⟩ := by
  have hnc := h.nc
  refine ⟨fun h0 => ?_, fun j hj => h.each (o + j) (by have hj' : j < m := hj; omega), by show m ≤ l.c - o; omega, by show m ≤ 140737488355328; have := h.nn; omega, by show l.c - o ≤ maxLen; have := h.cc; omega, fun e => ?_⟩
  · have h0' : 0 < m := h0
    obtain ⟨b, of, e, hS, hl, ha⟩ := h.at_ (by omega)
    refine ⟨b, of + o * 6, ?_, hS, hl, fun j hj r u hu => ?_⟩
    · show (if l.c = o then l.p else l.p.map (·.add (o * 6))) = _
      rw [if_neg (by omega), e]
      simp [Addr.add]
    · have hj' : j < m := hj
      have := ha (o + j) (by omega) r u hu
      rw [show elRec.size = 6 from rfl] at this ⊢
      rw [show of + o * 6 + j * 6 + r = of + (o + j) * 6 + r by omega]
      exact this
  · have e' : (if l.c = o then l.p else l.p.map (·.add (o * 6))) = none := e
    by_cases hc : l.c = o
    · exact ⟨by show m = 0; omega, by show l.c - o = 0; omega⟩
    · rw [if_neg hc] at e'
      have hp : l.p = none := by cases hp : l.p with
        | none => rfl
        | some a => rw [hp] at e'; cases e'
      have := h.nil hp
      exact ⟨by show m = 0; omega, by show l.c - o = 0; omega⟩
end Go.Proofs.Ytbcnlfbclgkeiaa
