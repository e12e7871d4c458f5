import Derived.Test.YthahomdgpcjhcaaTwoC
import Derived.Test.YthahomdgpcjhcaaOrdAlike
import Derived.Test.YthahomdgpcjhcaaChecksWalk
namespace Go.Proofs.Ythahomdgpcjhcaa
open Go.RowKit
set_option maxRecDepth 8000

/-- all that is known behind the two values' copies with room -/
structure Ready (w : World) (bc bd : Nat) (x x' u u2 : VT) (R : RS) (W : World) : Prop where
  ba : Box W w.heap.size #[.int .i64 x.kind, .int .i64 x.int, .string x.text, .slice x.p x.n x.c] 24
  bb : Box W (w.heap.size + 1) #[.int .i64 x'.kind, .int .i64 x'.int, .string x'.text, .slice x'.p x'.n x'.c] 24
  bcx : Box W bc #[.int .i64 u.kind, .int .i64 u.int, .string u.text, .slice u.p u.n u.c] 24
  bdx : Box W bd #[.int .i64 u2.kind, .int .i64 u2.int, .string u2.text, .slice u2.p u2.n u2.c] 24
  ix : VT.In W (fun _ => True) x
  ix' : VT.In W (fun _ => True) x'
  iu : VT.In W (fun _ => True) u
  iu2 : VT.In W (fun _ => True) u2
  rm : Rm w.heap.size W R
  bel : Below w.heap.size w W
theorem Ready.below {w : World} {bc bd : Nat} {x x' u u2 : VT} {R : RS} {W W' : World} (h : Ready w bc bd x x' u u2 R W) (hb : Below W.heap.size W W') : Ready w bc bd x x' u u2 R W' :=
  ⟨h.ba.below hb, h.bb.below hb, h.bcx.below hb, h.bdx.below hb, h.ix.below hb, h.ix'.below hb, h.iu.below hb, h.iu2.below hb, h.rm.below hb, h.bel.trans (hb.mono h.bel.size)⟩

theorem ready_of {w w1 wc WD w4 w5 : World} {bc bd : Nat} {t t' x x' u u2 : VT} {R1 R2 : RS} {za zb : Array Value}
    (hl2 : w.heap.size + 1 < w1.heap.size) (zc : w1.heap.size ≤ wc.heap.size) (hbwc : Below w.heap.size w wc) (hbk : Below wc.heap.size wc WD) (hs3 : WD.heap.size = wc.heap.size + 1)
    (hbc : w1.heap.size ≤ bc) (hbd : w1.heap.size ≤ bd)
    (hC : Box wc bc #[.int .i64 u.kind, .int .i64 u.int, .string u.text, .slice u.p u.n u.c] 24) (hD : Box wc bd #[.int .i64 u2.kind, .int .i64 u2.int, .string u2.text, .slice u2.p u2.n u2.c] 24)
    (hiu : VT.In wc (fun b => w1.heap.size ≤ b ∧ b ≠ bc ∧ b ≠ bd) u) (hiu2 : VT.In wc (fun b => w1.heap.size ≤ b ∧ b ≠ bc ∧ b ≠ bd) u2)
    (hnot : ∀ b, b < wc.heap.size → ¬ (newRoom wc.heap.size).hot b) (hx : Roomed w.heap.size WD (newRoom wc.heap.size) t x w4 R1) (hx' : Roomed w.heap.size w4 R1 t' x' w5 R2)
    (hA : Box w5 w.heap.size za 24) (hza : za.size = 4) (hB : Box w5 (w.heap.size + 1) zb 24) (hzb : zb.size = 4) :
    Ready w bc bd x x' u u2 R2 (set4 (set4 w5 w.heap.size x) (w.heap.size + 1) x') := by
  have hnot1 : ∀ b, b < wc.heap.size → ¬ R1.hot b := fun b hb hh => by
    rcases hx.next.hot b hh with h1 | h1
    · exact hnot b hb h1
    · omega
  have hb4 : Below wc.heap.size wc w4 := hbk.trans (hx.but.below (by omega) hnot)
  have z4 := hx.but.size
  have hb5 : Below wc.heap.size wc w5 := hb4.trans (hx'.but.below hb4.size hnot1)
  have hset : But (fun y => y = w.heap.size ∨ y = w.heap.size + 1) w5 (set4 (set4 w5 w.heap.size x) (w.heap.size + 1) x') := set4_but x' (set4_but x (But.refl _ _) (fun _ => .inl rfl)) (fun _ => .inr rfl)
  have far : ∀ b, w1.heap.size ≤ b → ¬ (b = w.heap.size ∨ b = w.heap.size + 1) := fun b h h2 => by omega
  have foot : ∀ b, R2.foot b → wc.heap.size ≤ b := by
    intro b h
    rcases hx'.next.foot b h with h1 | h1
    · rcases hx.next.foot b h1 with h2 | h2
      · rcases h2 with h2 | ⟨_, _, y, hy, _⟩
        · rcases h2 with h3 | ⟨_, _, h3⟩
          · have h4 : b = wc.heap.size := h3
            omega
          · cases h3
        · cases hy
      · omega
    · have := hb4.size; omega
  refine ⟨?_, ?_, ?_, ?_, ?_, ?_, ?_, ?_, ?_, ?_⟩
  · exact (set4_box hA hza).but (X := fun y => y = w.heap.size + 1) (set4_but x' (But.refl _ _) (fun _ => rfl)) (by omega)
  · exact set4_box (hB.but (X := fun y => y = w.heap.size) (set4_but x (But.refl _ _) (fun _ => rfl)) (by omega)) hzb
  · exact (hC.below hb5).but hset (far bc hbc)
  · exact (hD.below hb5).but hset (far bd hbd)
  · have h1 : VT.In w4 (fun b => WD.heap.size ≤ b ∧ ¬ R1.hot b) x := hx.in_
    exact ((h1.but hx'.but fun b hb _ => hb.2).but hset fun b hb _ => far b (by omega)).mono fun _ _ _ => trivial
  · exact (hx'.in_.but hset fun b hb _ => far b (by have := hb.1; have := hb4.size; omega)).mono fun _ _ _ => trivial
  · exact ((hiu.below hb5).but hset fun b hb _ => far b hb.1).mono fun _ _ _ => trivial
  · exact ((hiu2.below hb5).but hset fun b hb _ => far b hb.1).mono fun _ _ _ => trivial
  · refine hx'.rm.keep hset.size fun b hf => hset.block b (hx'.rm.footlt hf) fun e => ?_
    have := foot b hf
    omega
  · exact hbwc.trans ((hb5.mono hbwc.size).trans (hset.below (by have := hb5.size; have := hbwc.size; omega) fun b hb h => by omega))
end Go.Proofs.Ythahomdgpcjhcaa
