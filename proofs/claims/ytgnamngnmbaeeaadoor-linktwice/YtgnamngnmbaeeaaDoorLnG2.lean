import Derived.Test.YtgnamngnmbaeeaaDoorPack25
namespace Go.Proofs.YtgnamngnmbaeeaaDoor
open Go.RowKit
set_option maxRecDepth 8000
/-- the line some steps on -/
structure LX (w : World) (C : Nat → Nat) (c lb sb rb : Nat) (dv nv bv pv wv : Value) (D N P : List BS) (S : LS) (w' : World) (C' : Nat → Nat) : Prop where
  m : LM w' C' c lb sb rb dv nv bv pv wv D N P S
  old : ∀ k, k < w.heap.size → C' k = C k
  new : ∀ k, w.heap.size ≤ k → In8 C' c k
  but : But (In7 C c) w w'
theorem LX.lq {w : World} {C : Nat → Nat} {c lb sb rb : Nat} {dv nv bv pv wv : Value} {D N P : List BS} {S : LS} {w' : World} {C' : Nat → Nat} (h : LX w C c lb sb rb dv nv bv pv wv D N P S w' C') : LQ w C c lb S w' :=
  ⟨C', ⟨sb, rb, dv, nv, bv, pv, wv, D, N, P, h.m⟩, h.old, h.new, h.but⟩
theorem LX.refl {w : World} {C : Nat → Nat} {c lb sb rb : Nat} {dv nv bv pv wv : Value} {D N P : List BS} {S : LS} (h : LM w C c lb sb rb dv nv bv pv wv D N P S) (hn : ∀ k, w.heap.size ≤ k → In8 C c k) : LX w C c lb sb rb dv nv bv pv wv D N P S w C :=
  ⟨h, fun _ _ => rfl, hn, But.refl _ _⟩
theorem LX.on {w w1 w2 : World} {C C1 C2 : Nat → Nat} {c lb sb rb sb' rb' : Nat} {dv nv bv pv wv dv' nv' bv' pv' wv' : Value} {D N P D' N' P' : List BS} {S S' : LS} (h : LX w C c lb sb rb dv nv bv pv wv D N P S w1 C1)
    (m : LM w2 C2 c lb sb' rb' dv' nv' bv' pv' wv' D' N' P' S') (h2 : ∀ k, k < w1.heap.size → C2 k = C1 k) (h3 : ∀ k, w1.heap.size ≤ k → In8 C2 c k) (h4 : But (In7 C1 c) w1 w2) : LX w C c lb sb' rb' dv' nv' bv' pv' wv' D' N' P' S' w2 C2 := by
  have hs := h.but.size
  refine ⟨m, fun k hk => by rw [h2 k (by omega)]; exact h.old k hk, fun k hk => ?_, h.but.cc (h4.mono fun k hk e => ?_)⟩
  · rcases Nat.lt_or_ge k w1.heap.size with e | e
    · have := h.new k hk
      unfold In8 at this ⊢
      rw [h2 k e]
      exact this
    · exact h3 k e
  · rcases Nat.lt_or_ge k w.heap.size with h1 | h1
    · refine .inl ?_
      unfold In7 at e ⊢
      rw [← h.old k h1]
      exact e
    · exact .inr h1
theorem LX.gone {w w1 w2 : World} {C C1 : Nat → Nat} {c lb sb rb : Nat} {dv nv bv pv wv : Value} {D N P : List BS} {S : LS} (h : LX w C c lb sb rb dv nv bv pv wv D N P S w1 C1) (hb : But (fun _ => False) w1 w2) : LX w C c lb sb rb dv nv bv pv wv D N P S w2 (upC w1 C1 (c + 7)) := by
  have hbd : ∀ d, d < 7 → But (Zc w1 C1 (c + d)) w1 w2 := fun d hd => hb.mono fun k hk e => e.elim
  have hz : ∀ e, ∀ k, k < w1.heap.size → Zc w2 (upC w1 C1 (c + 7)) e k → Zc w1 C1 e k := fun e k hk => zc_old hk
  have hm := h.m
  refine h.on ⟨hm.bx.but (hbd 0 (by omega)) fun e => e.2 (by rw [hm.cl]; rfl), by rw [upC_old hm.bx.lt]; exact hm.cl, hm.s.but (hbd 1 (by omega)) (hz _), hm.r.but (hbd 2 (by omega)) (hz _), hm.d.but (hbd 3 (by omega)) (hz _), hm.n.but (hbd 4 (by omega)) (hz _), hm.p.but (hbd 5 (by omega)) (hz _), hm.w.but (hbd 6 (by omega)) fun k hk => upC_old hk, hm.hd, hm.hn, hm.hp⟩ (fun k hk => upC_old hk) (fun k hk => by unfold In8; rw [upC_new hk]; omega) (hb.mono fun k hk e => e.elim)
theorem LX.below {w w1 w2 : World} {C C1 : Nat → Nat} {c lb sb rb : Nat} {dv nv bv pv wv : Value} {D N P : List BS} {S : LS} (h : LX w C c lb sb rb dv nv bv pv wv D N P S w1 C1) (hb : Below w1.heap.size w1 w2) : LX w C c lb sb rb dv nv bv pv wv D N P S w2 (upC w1 C1 (c + 7)) := h.gone (But.ofBelow hb)
theorem LX.snd {w w1 w2 : World} {C C1 : Nat → Nat} {c lb sb rb : Nat} {dv nv bv pv wv : Value} {D N P : List BS} {S : LS} (h : LX w C c lb sb rb dv nv bv pv wv D N P S w1 C1) {A' : SA} (hq : SndQ w1 (Zc w1 C1 (c + 1)) sb A' w2) : LX w C c lb sb rb dv nv bv pv wv D N P { S with A := A' } w2 (upC w1 C1 (c + 1)) := by
  obtain ⟨p1, p2, p3, p4⟩ := h.m.part (d := 1) (by omega) hq.2 A' S.R (fun _ => hq.1) (fun e => absurd rfl e) (fun e => by cases e) (fun _ => rfl) (by omega) (by omega) (by omega) (by omega)
  exact h.on p1 p2 p3 p4
theorem LX.rcv {w w1 w2 : World} {C C1 : Nat → Nat} {c lb sb rb : Nat} {dv nv bv pv wv : Value} {D N P : List BS} {S : LS} (h : LX w C c lb sb rb dv nv bv pv wv D N P S w1 C1) {R' : RA} (hq : RcvQ w1 (Zc w1 C1 (c + 2)) rb R' w2) : LX w C c lb sb rb dv nv bv pv wv D N P { S with R := R' } w2 (upC w1 C1 (c + 2)) := by
  obtain ⟨p1, p2, p3, p4⟩ := h.m.part (d := 2) (by omega) hq.2 S.A R' (fun e => by cases e) (fun _ => rfl) (fun _ => hq.1) (fun e => absurd rfl e) (by omega) (by omega) (by omega) (by omega)
  exact h.on p1 p2 p3 p4
/-- bytes that only the law's own calls hold -/
def Tmp (w : World) (C : Nat → Nat) (c : Nat) (y : BS) : Prop := y.In w (fun k => C k = c + 7)
theorem Tmp.below {w w' : World} {C : Nat → Nat} {c : Nat} {y : BS} (h : Tmp w C c y) (hb : Below w.heap.size w w') : Tmp w' (upC w C (c + 7)) c y :=
  (h.mono fun k hk hl => (⟨hk, hl⟩ : C k = c + 7 ∧ k < w.heap.size)).kept (S := fun k => C k = c + 7 ∧ k < w.heap.size) hb.size (fun k _ hl => hb.block k hl) |>.mono fun k hk _ => by rw [upC_old hk.2]; exact hk.1
theorem Tmp.new {w w' : World} {C : Nat → Nat} {c : Nat} {y : BS} (h : y.In w' (fun k => w.heap.size ≤ k)) : Tmp w' (upC w C (c + 7)) c y := h.mono fun _ hk _ => upC_new hk
theorem Tmp.part {w w' : World} {C : Nat → Nat} {c d : Nat} {y : BS} (h : Tmp w C c y) (hb : Fr (Zc w C (c + d)) w w') (hd : d ≠ 7) : Tmp w' (upC w C (c + d)) c y :=
  (h.mono fun k hk hl => (⟨hk, hl⟩ : C k = c + 7 ∧ k < w.heap.size)).kept (S := fun k => C k = c + 7 ∧ k < w.heap.size) hb.size (fun k hk hl => hb.block k hl fun e => e ⟨hl, by rw [hk.1]; omega⟩) |>.mono fun k hk _ => by rw [upC_old hk.2]; exact hk.1
/-- the table stands where the line never writes -/
def Out8 (C : Nat → Nat) (c : Nat) : Prop := ¬ In8 C c 0
theorem LX.tab {w w1 : World} {C C1 : Nat → Nat} {c lb sb rb : Nat} {dv nv bv pv wv : Value} {D N P : List BS} {S : LS} (h : LX w C c lb sb rb dv nv bv pv wv D N P S w1 C1) (hT : Tab w) (hO : Out8 C c) : Tab w1 :=
  tab_fr (Z := fun k => ¬ In8 C c k) hT (h.but.mono fun k _ e => fun n => n (by unfold In7 at e; unfold In8; omega)) hO
theorem LX.z0 {w w1 : World} {C C1 : Nat → Nat} {c lb sb rb : Nat} {dv nv bv pv wv : Value} {D N P : List BS} {S : LS} (h : LX w C c lb sb rb dv nv bv pv wv D N P S w1 C1) (hT : Tab w) (hO : Out8 C c) {d : Nat} (hd : d ≤ 7) : Zc w1 C1 (c + d) 0 := by
  refine ⟨Nat.lt_of_lt_of_le hT.1 h.but.size, fun e => hO ?_⟩
  have := h.old 0 hT.1
  unfold In8
  omega
end Go.Proofs.YtgnamngnmbaeeaaDoor
