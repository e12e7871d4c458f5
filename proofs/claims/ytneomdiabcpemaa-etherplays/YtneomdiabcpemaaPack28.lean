import Derived.Test.YtneomdiabcpemaaPack27
import Derived.Test.YtneomdiabcpemaaPack25
namespace Go.Proofs.Ytneomdiabcpemaa
open Go.RowKit
set_option maxRecDepth 8000

theorem Fit.of_row {k i : Int} {s : ByteArray} {n : Nat} {p : Option Addr} {c : Nat} {f : Nat → VT} (h : VT.Fit (.mk k i s n p c f)) : VT.Fit (.mk k i s 0 none 0 f) :=
  ⟨h.k0, h.k1, h.i0, h.i1, h.s1, Nat.le_refl 0, by show 0 ≤ 140737488355328; omega, Nat.zero_le _, fun _ => ⟨rfl, rfl⟩⟩

/-- a value without a list -/
theorem bare_post {base : Nat} {w w' : World} {R : RS} {k i : Int} {s : ByteArray} {p : Option Addr} {c : Nat} {f : Nat → VT} (hR : Rm base w R) (hf : VT.Fit (.mk k i s 0 p c f)) (hb : Below w.heap.size w w') :
    Roomed base w R (.mk k i s 0 p c f) (.mk k i s 0 none 0 f) w' R :=
  ⟨⟨rfl, rfl, rfl, rfl, fun j hj => absurd hj (by omega)⟩, ⟨Fit.of_row hf, fun h => absurd h (by omega), fun j hj => absurd hj (by omega)⟩, hR.below hb, Next.refl _ _, But.ofBelow hb, fun i _ => by omega⟩

theorem roomed_shift {base : Nat} {w W0 w1 w' : World} {R R1 : RS} {t u : VT} (hR : Rm base w R) (hb : Below w.heap.size w W0) (hu : Roomed base W0 R t u w1 R1) (hk : But (fun b => w.heap.size ≤ b ∧ b < W0.heap.size) w1 w') : Roomed base w R t u w' R1 := by
  have hs := hb.size
  refine ⟨hu.alike, ?_, ?_, ⟨hu.next.rb, fun b h => ?_, fun b h => ?_, hu.next.same⟩, ?_, hu.cnt⟩
  · exact (hu.in_.but hk fun b hb2 _ h => by have := hb2.1; omega).mono fun b hb2 _ => ⟨by omega, hb2.2⟩
  · refine hu.rm.keep hk.size fun b hf => hk.block b (hu.rm.footlt hf) fun h => ?_
    rcases hu.next.foot b hf with h1 | h1
    · have := hR.footlt h1; omega
    · omega
  · rcases hu.next.hot b h with h1 | h1
    · exact .inl h1
    · exact .inr (by omega)
  · rcases hu.next.foot b h with h1 | h1
    · exact .inl h1
    · exact .inr (by omega)
  · have h1 : But R.hot w w1 := (But.ofBelow hb).trans hu.but
    exact ⟨hk.os.trans h1.os, hk.tape.trans h1.tape, hk.output.trans h1.output, Nat.le_trans h1.size hk.size, fun b hb2 hx => (hk.block b (Nat.lt_of_lt_of_le hb2 h1.size) (fun h => by omega)).trans (h1.block b hb2 hx)⟩

end Go.Proofs.Ytneomdiabcpemaa

namespace Go.Proofs.Ytneomdiabcpemaa
open Go.RowKit
set_option maxRecDepth 8000

end Go.Proofs.Ytneomdiabcpemaa
