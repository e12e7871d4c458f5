import Derived.Test.YtpldokahoamdpaaPack28
namespace Go.Proofs.Ytpldokahoamdpaa
open Go.RowKit Go.Conc
set_option maxRecDepth 8000
/-- one side: no lane at all, or the two lanes -/
inductive Sd where
  | no
  | yes (b d : Nat) (s : Pq)
def Sd.I (w : World) (Z : Nat → Prop) : Sd → Prop
  | .no => True
  | .yes b d s => s.I w Z b d
def Sd.C : Sd → Nat → Prop
  | .no, _ => False
  | .yes b d s, k => s.C b d k
def Sd.len : Sd → Nat
  | .no => 0
  | .yes _ _ s => s.len
def Sd.p : Sd → Value
  | .no => .pointer none
  | .yes b _ _ => .pointer (some ⟨b, 0, none⟩)
def Sd.q : Sd → Value
  | .no => .pointer none
  | .yes _ d _ => .pointer (some ⟨d, 0, none⟩)
theorem Sd.c_lt {w : World} {Z : Nat → Prop} {A : Sd} (h : A.I w Z) {k : Nat} (hk : A.C k) : k < w.heap.size := by
  cases A with
  | no => exact hk.elim
  | yes b d s => exact Pq.c_lt h hk
theorem Sd.below {w w' : World} {Z : Nat → Prop} {A : Sd} (h : A.I w Z) (hb : Below w.heap.size w w') : A.I w' Z := by
  cases A with
  | no => trivial
  | yes b d s => exact Pq.below h hb
theorem Sd.z {w : World} {Z Z' : Nat → Prop} {A : Sd} (h : A.I w Z) (hz : ∀ k, k < w.heap.size → Z' k → Z k) : A.I w Z' := by
  cases A with
  | no => trivial
  | yes b d s => exact Pq.z h hz
theorem Sd.but {w w' : World} {Z X : Nat → Prop} {A : Sd} (h : A.I w Z) (hb : But X w w') (hx : ∀ k, k < w.heap.size → X k → Z k) : A.I w' Z := by
  cases A with
  | no => trivial
  | yes b d s => exact Pq.but h hb hx
/-- the two sides beside one another, above the world of the beginning -/
structure AB (w wr : World) (A B : Sd) (n : Nat) : Prop where
  a : A.I wr B.C
  b : B.I wr A.C
  la : ∀ k, A.C k → w.heap.size ≤ k
  lb : ∀ k, B.C k → w.heap.size ≤ k
  bel : Below w.heap.size w wr
  na : A.len ≤ n
  nb : B.len ≤ n
theorem AB.swap {w wr : World} {A B : Sd} {n : Nat} (h : AB w wr A B n) : AB w wr B A n := ⟨h.b, h.a, h.lb, h.la, h.bel, h.nb, h.na⟩
theorem AB.more {w wr : World} {A B : Sd} {n m : Nat} (h : AB w wr A B n) (hm : n ≤ m) : AB w wr A B m := ⟨h.a, h.b, h.la, h.lb, h.bel, Nat.le_trans h.na hm, Nat.le_trans h.nb hm⟩
/-- a call on the first side -/
theorem AB.play {w wr w2 : World} {b d : Nat} {s s' : Pq} {B : Sd} {n m : Nat} (h : AB w wr (.yes b d s) B n) (g : PqS wr B.C b d s w2 s') (hl : s'.len ≤ s.len + m) : AB w w2 (.yes b d s') B (n + m) := by
  have hs := h.bel.size
  refine ⟨g.i, ?_, fun k hk => ?_, h.lb, ?_, ?_, ?_⟩
  · have h1 : B.I wr (fun k => s.C b d k ∨ s'.C b d k) := Sd.z h.b fun k hk hz => by
      rcases hz with e | e
      · exact e
      · rcases g.c k e with e2 | e2
        · exact e2
        · omega
    exact Sd.z (Sd.but h1 g.but fun k _ e => .inl e) fun k _ e => .inr e
  · rcases g.c k hk with e | e
    · exact h.la k e
    · omega
  · exact h.bel.trans (g.but.below hs fun k hk e => by have := h.la k e; omega)
  · have : s.len ≤ n := h.na
    show s'.len ≤ n + m
    omega
  · have := h.nb
    omega
/-- a call of a script on any two lanes -/
def PlaysOK : Prop := ∀ (w : World) (Z : Nat → Prop) (b d : Nat) (s : Pq), s.I w Z b d → (∀ k, Z k → k < w.heap.size) → ∀ (o : OpL) (S : Nat → Prop), OpL.In w S o → (∀ k, k < w.heap.size → S k → ¬ s.C b d k) → o.its.sumI o.its.n ≤ 10000 → o.rcs.sumR o.rcs.n ≤ 10000 → s.len + (o.its.n + o.rcs.n) ≤ 30000 →
  Calls Try.prog 25 #[.pointer (some ⟨b, 0, none⟩), .pointer (some ⟨d, 0, none⟩), .agg #[.int .i64 o.kind, .bool o.sec, .slice o.its.p o.its.n o.its.c, .slice o.rcs.p o.rcs.n o.rcs.c]] w fun e w' => PlayQ w Z b d s (o.its.n + o.rcs.n) e w'
/-- what the first New of each leaves -/
theorem AB.first {w w1 w2 : World} {room : Int} {b d : Nat} {ch cap : Nat} (hw : Below w.heap.size w w1) (hl : LnI w1 (fun _ => False) b ⟨room, none, ch, cap, []⟩) (hb : w.heap.size ≤ b) (hc : w.heap.size ≤ ch) (hB : Below w1.heap.size w1 w2) (hd : d = w1.heap.size) (hr : RfI w2 (fun k => k < w1.heap.size) d ⟨room, false, ⟨none, 0, 0, fun _ => ⟨0, rz⟩⟩⟩) : AB w w2 (.yes b d (.op ⟨room, none, ch, cap, []⟩ ⟨room, false, ⟨none, 0, 0, fun _ => ⟨0, rz⟩⟩⟩)) .no 0 := by
  subst hd
  have hws := hw.size
  refine ⟨⟨?_, ?_, rfl, rfl, .nil⟩, trivial, fun k hk => ?_, fun k hk => hk.elim, hw.trans (hB.mono hws), Nat.le_refl _, Nat.le_refl _⟩
  · have h1 : LnI w1 (fun k => w1.heap.size ≤ k) b ⟨room, none, ch, cap, []⟩ := hl.z fun k hk hz => by omega
    refine (h1.below hB).z fun k hk hz => ?_
    rcases hz with e | e
    · exact e.elim
    · rcases e with e | e
      · omega
      · cases e
  · exact hr.z fun k hk hz => by
      rcases hz with e | e
      · exact e.elim
      · exact hl.c_lt e
  · rcases hk with e | e
    · rcases e with e | e | e
      · omega
      · have e' : k = ch := e; omega
      · cases e
    · rcases e with e | e
      · omega
      · cases e
end Go.Proofs.Ytpldokahoamdpaa
