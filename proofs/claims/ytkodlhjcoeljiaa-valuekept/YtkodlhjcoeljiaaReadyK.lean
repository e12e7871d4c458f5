import Derived.Test.YtkodlhjcoeljiaaTwoRS
namespace Go.Proofs.Ytkodlhjcoeljiaa
open Go.RowKit
set_option maxRecDepth 8000

/-- a new room -/
def newRoomK (b : Nat) : RS := ⟨b, fun _ => .slice none 0 0, fun _ => []⟩
def roomBox : Array Value := #[.slice none 0 0, .slice none 0 0, .slice none 0 0, .slice none 0 0, .slice none 0 0, .slice none 0 0, .slice none 0 0, .slice none 0 0, .slice none 0 0, .slice none 0 0]
theorem newRoomK_rm (w : World) (base : Nat) (hb : base ≤ w.heap.size) : Rm base (w.alloc (.cells roomBox 37)) (newRoomK w.heap.size) :=
  { box := Box.new _ _ _
    row := fun _ _ => World.ownsRow_nil _ _ _ _
    low := hb
    mark := fun _ _ x hx => absurd hx (List.not_mem_nil)
    apart := fun _ _ _ _ _ b h => absurd h (by simp [newRoomK, Value.ownBlock])
    off := fun _ _ => by simp [newRoomK, Value.ownBlock]
    few := fun _ _ => Nat.zero_le _ }
theorem newRoomK_hot {wc : World} {b : Nat} (hb : b < wc.heap.size) : ¬ (newRoomK wc.heap.size).hot b := fun hh => by
  rcases hh with h | ⟨_, _, h⟩
  · have h2 : b = wc.heap.size := h
    omega
  · cases h

/-- all that is known behind the two copies with room -/
structure ReadyK (w : World) (bc bd : Nat) (x u : RT) (x' u2 : ST) (R : RS) (W : World) : Prop where
  ba : Box W w.heap.size (RT.box x) 47
  bb : Box W (w.heap.size + 1) (ST.box x') 50
  bcx : Box W bc (RT.box u) 47
  bdx : Box W bd (ST.box u2) 50
  ix : RT.In W (fun b => b < W.heap.size) x
  ix' : ST.In W (fun b => b < W.heap.size) x'
  iu : RT.In W (fun b => b < W.heap.size) u
  iu2 : ST.In W (fun b => b < W.heap.size) u2
  rm : Rm w.heap.size W R
  bel : Below w.heap.size w W
theorem ReadyK.below {w : World} {bc bd : Nat} {x u : RT} {x' u2 : ST} {R : RS} {W W' : World} (h : ReadyK w bc bd x u x' u2 R W) (hb : Below W.heap.size W W') : ReadyK w bc bd x u x' u2 R W' :=
  have k : ∀ b, b < W.heap.size → b < W.heap.size → b < W'.heap.size := fun _ h _ => Nat.lt_of_lt_of_le h hb.size
  ⟨h.ba.below hb, h.bb.below hb, h.bcx.below hb, h.bdx.below hb, (h.ix.mono k).below hb, (h.ix'.mono k).below hb, (h.iu.mono k).below hb, (h.iu2.mono k).below hb, h.rm.below hb, h.bel.trans (hb.mono h.bel.size)⟩

theorem RT.In.lt {w : World} {S : Nat → Prop} {r : RT} (h : RT.In w S r) : RT.In w (fun b => b < w.heap.size) r := h.mono fun _ _ hl => hl
theorem ST.In.lt {w : World} {S : Nat → Prop} {r : ST} (h : ST.In w S r) : ST.In w (fun b => b < w.heap.size) r := h.mono fun _ _ hl => hl

theorem readyK_of {w w1 wc WD w4 w5 : World} {bc bd : Nat} {t x u : RT} {t' x' u2 : ST} {R1 R2 : RS} {a0 a1 a2 a3 a4 a5 c0 c1 : Value}
    (hl2 : w.heap.size + 1 < w1.heap.size) (zc : w1.heap.size ≤ wc.heap.size) (hbwc : Below w.heap.size w wc) (hbk : Below wc.heap.size wc WD) (hs3 : WD.heap.size = wc.heap.size + 1)
    (hbc : w1.heap.size ≤ bc) (hbd : w1.heap.size ≤ bd) (hC : Box wc bc (RT.box u) 47) (hD : Box wc bd (ST.box u2) 50)
    (hiu : RT.In wc (fun b => w1.heap.size ≤ b ∧ b ≠ bc ∧ b ≠ bd) u) (hiu2 : ST.In wc (fun b => w1.heap.size ≤ b ∧ b ≠ bc ∧ b ≠ bd) u2)
    (hx : RoomedR w.heap.size WD (newRoomK wc.heap.size) t x w4 R1) (hx' : RoomedS w.heap.size w4 R1 t' x' w5 R2)
    (hA : Box w5 w.heap.size #[a0, a1, a2, a3, a4, a5] 47) (hB : Box w5 (w.heap.size + 1) #[c0, c1] 50) :
    ReadyK w bc bd x u x' u2 R2 (setS (setR w5 w.heap.size x) (w.heap.size + 1) x') := by
  have hnot : ∀ b, b < wc.heap.size → ¬ (newRoomK wc.heap.size).hot b := fun b hb => newRoomK_hot hb
  have hnot1 : ∀ b, b < wc.heap.size → ¬ R1.hot b := fun b hb hh => by
    rcases hx.nx.hot b hh with h1 | h1
    · exact hnot b hb h1
    · omega
  have hb4 : Below wc.heap.size wc w4 := hbk.trans (hx.but.below (by omega) hnot)
  have z4 := hx.but.size
  have hb5 : Below wc.heap.size wc w5 := hb4.trans (hx'.but.below hb4.size hnot1)
  have hset : But (fun y => y = w.heap.size ∨ y = w.heap.size + 1) w5 (setS (setR w5 w.heap.size x) (w.heap.size + 1) x') := setS_but x' (setR_but x (But.refl _ _) (fun _ => .inl rfl)) (fun _ => .inr rfl)
  have far : ∀ b, w1.heap.size ≤ b → ¬ (b = w.heap.size ∨ b = w.heap.size + 1) := fun b h h2 => by omega
  have foot : ∀ b, R2.foot b → wc.heap.size ≤ b := by
    intro b h
    rcases hx'.nx.foot b h with h1 | h1
    · rcases hx.nx.foot b h1 with h2 | h2
      · rcases h2 with h2 | ⟨_, _, y, hy, _⟩
        · rcases h2 with h3 | ⟨_, _, h3⟩
          · have h4 : b = wc.heap.size := h3
            omega
          · cases h3
        · cases hy
      · omega
    · have := hb4.size; omega
  refine ⟨?_, ?_, ?_, ?_, ?_, ?_, ?_, ?_, ?_, ?_⟩
  · exact (setR_box hA).but (X := fun y => y = w.heap.size + 1) (setS_but x' (But.refl _ _) (fun _ => rfl)) (by omega)
  · exact setS_box (hB.but (X := fun y => y = w.heap.size) (setR_but x (But.refl _ _) (fun _ => rfl)) (by omega))
  · exact (hC.below hb5).but hset (far bc hbc)
  · exact (hD.below hb5).but hset (far bd hbd)
  · have h1 : RT.In w4 (fun b => WD.heap.size ≤ b ∧ ¬ R1.hot b) x := hx.in_
    exact ((h1.but hx'.but fun b hb _ => hb.2).but hset fun b hb _ => far b (by omega)).lt
  · exact (hx'.in_.but hset fun b hb _ => far b (by have := hb.1; have := hb4.size; omega)).lt
  · exact ((hiu.below hb5).but hset fun b hb _ => far b hb.1).lt
  · exact ((hiu2.below hb5).but hset fun b hb _ => far b hb.1).lt
  · refine hx'.rm.keep hset.size fun b hf => hset.block b (hx'.rm.footlt hf) fun e => ?_
    have := foot b hf
    omega
  · exact hbwc.trans ((hb5.mono hbwc.size).trans (hset.below (by have := hb5.size; have := hbwc.size; omega) fun b hb h => by omega))
theorem RT.Alike.symm {w : World} {S : Nat → Prop} {r q : RT} (h : RT.Alike r q) (hq : RT.In w S q) : RT.Alike q r := ⟨h.key.symm, h.v.symm hq.v, h.n.symm, fun j hj => (h.loop j (by rw [h.n] at hj; exact hj)).symm⟩
theorem RT.Alike.trans {r q s : RT} (h : RT.Alike r q) (k : RT.Alike q s) : RT.Alike r s := ⟨k.key.trans h.key, h.v.trans k.v, k.n.trans h.n, fun j hj => (k.loop j (by rw [h.n]; exact hj)).trans (h.loop j hj)⟩
theorem ST.Alike.symm {w : World} {S : Nat → Prop} {r q : ST} (h : ST.Alike r q) (hq : ST.In w S q) : ST.Alike q r := ⟨h.num.symm, h.n.symm, fun j hj => (h.cell j (by rw [h.n] at hj; exact hj)).symm (hq.each j hj)⟩
theorem ST.Alike.trans {r q s : ST} (h : ST.Alike r q) (k : ST.Alike q s) : ST.Alike r s := ⟨k.num.trans h.num, k.n.trans h.n, fun j hj => (h.cell j hj).trans (k.cell j (by rw [h.n]; exact hj))⟩
end Go.Proofs.Ytkodlhjcoeljiaa
