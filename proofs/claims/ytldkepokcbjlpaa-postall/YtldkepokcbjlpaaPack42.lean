import Derived.Test.YtldkepokcbjlpaaPack41
namespace Go.Proofs.Ytldkepokcbjlpaa
open Go.RowKit Go.Conc
set_option maxRecDepth 8000
/-- what the reference may write -/
def Dr (R : Rp) (rb : Nat) (pt : LT PtT) (tk : LT Int) (k : Nat) : Prop := R.C rb k ∨ (Value.slice pt.p pt.n pt.c).ownBlock = some k ∨ (Value.slice tk.p tk.n tk.c).ownBlock = some k
def CnR (pt : LT PtT) (tk : LT Int) (t : Nat) (u : PtT) : Prop := ∃ i, i < tk.n ∧ tk.item i = (t : Int) ∧ PtAlk (pt.item i) u
/-- a snapshot under way, in both -/
structure Un (w : World) (b rb : Nat) (P : Ps) (R : Rp) (ts : List (Nat × PtT)) (pt : LT PtT) (tk : LT Int) (m : Nat) (D : Nat → Prop) : Prop where
  ru : RU w rb R (R.sh.n - 1) pt tk
  pk : (R.sh.item (R.sh.n - 1)).pk = (m : Int)
  len : m + ts.length = tk.n
  ord : ∀ (j t : Nat) (x : PtT), ts[j]? = some (t, x) → tk.item (m + j) = (t : Int)
  p2 : ∀ t : Nat, (t : Int) < P.tasks → (P.pl t = 2 ↔ inT tk m (t : Int) = true)
  p0 : ∀ t : Nat, (t : Int) < P.tasks → (P.pl t ≠ 0 ↔ inT tk tk.n (t : Int) = true)
  wl : P.wants.length + m = P.tasks.toNat
  pi : ∀ i, i < pt.n → PtIn w (Out P b D) (pt.item i) ∧ PtSz (pt.item i)
structure PR (w0 w : World) (b rb : Nat) (P : Ps) (R : Rp) (ts : List (Nat × PtT)) (pt : LT PtT) (tk : LT Int) (m : Nat) (F : Nat → Prop) : Prop where
  g : RG w0 w b P ts (CnR pt tk) (fun k => Dr R rb pt tk k ∨ F k)
  ri : RpI w rb R
  rt : R.tasks = P.tasks
  rf : R.first = P.first
  rs : R.sum = P.sum
  rn : R.sh.n = P.sts.n
  rx : ∀ j, j < P.sts.n → (R.sh.item j).id = P.first + (j : Int) ∧ (R.sh.item j).st = P.sts.item j
  fl : ∀ k, F k → ¬ Dr R rb pt tk k
  un : ¬ P.under = 0 → Un w b rb P R ts pt tk m (fun k => Dr R rb pt tk k ∨ F k)
/-- all blocks that a pair may write -/
def Pc (P : Ps) (b : Nat) (R : Rp) (rb : Nat) (pt : LT PtT) (tk : LT Int) (k : Nat) : Prop := P.C b k ∨ k = P.ch ∨ Dr R rb pt tk k
structure Fr (w : World) (K : Nat → Prop) (w' : World) (K' : Nat → Prop) : Prop where
  but : But K w w'
  cs : ∀ k, K' k → K k ∨ w.heap.size ≤ k
  lt : ∀ k, K' k → k < w'.heap.size
theorem PR.lt {w0 w : World} {b rb : Nat} {P : Ps} {R : Rp} {ts : List (Nat × PtT)} {pt : LT PtT} {tk : LT Int} {m : Nat} {F : Nat → Prop} (h : PR w0 w b rb P R ts pt tk m F) : ∀ k, Pc P b R rb pt tk k → k < w.heap.size ∧ w0.heap.size ≤ k := fun k hk => by
  rcases hk with e | e | e
  · exact ⟨h.g.i.lt e, h.g.cb k e⟩
  · rw [e]; exact ⟨h.g.inb.lt, h.g.ch⟩
  · have := h.g.dl k (.inl e); exact ⟨this.2.1, this.1⟩
/-- the statuses, in both -/
theorem PR.stat {w0 w : World} {b rb : Nat} {P : Ps} {R : Rp} {ts : List (Nat × PtT)} {pt : LT PtT} {tk : LT Int} {m : Nat} {F : Nat → Prop} (h : PR w0 w b rb P R ts pt tk m F) (id : Int) : R.stat id = P.stat id := by
  unfold Rp.stat Ps.stat Ps.next
  rw [h.rf, h.rn]
  by_cases e : id < P.first ∨ P.first + (P.sts.n : Int) ≤ id
  · rw [if_pos e, if_pos e]
  · rw [if_neg e, if_neg e]
    exact (h.rx _ (by omega)).2
theorem PR.now {w0 w : World} {b rb : Nat} {P : Ps} {R : Rp} {ts : List (Nat × PtT)} {pt : LT PtT} {tk : LT Int} {m : Nat} {F : Nat → Prop} (h : PR w0 w b rb P R ts pt tk m F) : (P.under = 0 → R.now = -1) ∧ (¬ P.under = 0 → R.now = ((P.sts.n - 1 : Nat) : Int) ∧ 0 < P.sts.n ∧ P.under = P.first + ((P.sts.n - 1 : Nat) : Int)) := by
  constructor
  · intro e
    unfold Rp.now
    rw [if_neg]
    rintro ⟨h0, h1⟩
    rw [h.rn] at h0 h1
    rw [(h.rx (P.sts.n - 1) (by omega)).2] at h1
    have := h.g.inv.not1 h.g.i.f0 e (P.sts.n - 1) (by omega)
    exact this h1
  · intro e
    obtain ⟨h0, h1⟩ := Ps.last1 e
    have h2 := (Ps.under_n e).2.1
    refine ⟨?_, h0, ?_⟩
    · unfold Rp.now
      rw [h.rn, if_pos ⟨h0, by rw [(h.rx (P.sts.n - 1) (by omega)).2]; exact h1⟩]
      omega
    · rw [h2]; unfold Ps.next; omega
theorem PR.trigE {w0 w : World} {b rb : Nat} {P : Ps} {R : Rp} {ts : List (Nat × PtT)} {pt : LT PtT} {tk : LT Int} {m : Nat} {F : Nat → Prop} (h : PR w0 w b rb P R ts pt tk m F) : R.trigE = P.trigE ∧ R.first + (R.sh.n : Int) = P.next := by
  have hn : R.first + (R.sh.n : Int) = P.next := by rw [h.rf, h.rn]; rfl
  refine ⟨?_, hn⟩
  unfold Rp.trigE Ps.trigE
  rw [hn]
  by_cases e : P.under = 0
  · rw [h.now.1 e, if_neg (show ¬ (0 : Int) ≤ -1 by omega), if_neg (show ¬ P.under ≠ 0 from fun x => x e)]
  · rw [(h.now.2 e).1, if_pos (by omega), if_pos e]
/-- where there is a memory that the pair's calls leave as it is -/
theorem PR.turn {w0 w w' : World} {b rb : Nat} {P : Ps} {R : Rp} {ts : List (Nat × PtT)} {pt : LT PtT} {tk : LT Int} {m : Nat} {F F' : Nat → Prop} (h : PR w0 w b rb P R ts pt tk m F) (hf : ∀ k, F' k → F k ∨ w.heap.size ≤ k) (hb : But F w w') (h0 : ∀ k, F' k → w0.heap.size ≤ k ∧ k < w'.heap.size) : PR w0 w' b rb P R ts pt tk m F' := by
  have hD : ∀ k, Out P b (fun k => Dr R rb pt tk k ∨ F k) k → k < w.heap.size → Out P b (fun k => Dr R rb pt tk k ∨ F' k) k := fun k hk hl => ⟨hk.1, hk.2.1, fun e => by
    rcases e with e | e
    · exact hk.2.2 (.inl e)
    · rcases hf k e with e2 | e2
      · exact hk.2.2 (.inr e2)
      · omega⟩
  have hF : ∀ k, Out P b (fun k => Dr R rb pt tk k ∨ F k) k → ¬ F k := fun k hk e => hk.2.2 (.inr e)
  have hP : ∀ u, PtIn w (Out P b (fun k => Dr R rb pt tk k ∨ F k)) u → PtIn w' (Out P b (fun k => Dr R rb pt tk k ∨ F' k)) u := fun u hu =>
    ((hu.mono (S' := fun k => Out P b (fun k => Dr R rb pt tk k ∨ F k) k ∧ k < w.heap.size) (fun k hk hl => ⟨hk, hl⟩)).kept hb.size (fun k hk hl => hb.block k hl (hF k hk.1))).mono (fun k hk _ => hD k hk.1 hk.2)
  have hC : ∀ k, P.C b k → ¬ F k := fun k hk e => (h.g.dl k (.inr e)).2.2.1 hk
  have hh : ¬ F P.ch := fun e => (h.g.dl _ (.inr e)).2.2.2 rfl
  have hR : ∀ k, Dr R rb pt tk k → ¬ F k := fun k hk e => h.fl k e hk
  have hi := h.g.i.kept (w' := w') fun k hk hl => hb.block k hl (hC k hk)
  have hd : ∀ k, (Dr R rb pt tk k ∨ F' k) → w0.heap.size ≤ k ∧ k < w'.heap.size ∧ ¬ P.C b k ∧ k ≠ P.ch := fun k hk => by
    rcases hk with e | e
    · have := h.g.dl k (.inl e)
      exact ⟨this.1, Nat.lt_of_lt_of_le this.2.1 hb.size, this.2.2⟩
    · refine ⟨(h0 k e).1, (h0 k e).2, fun e2 => ?_, fun e2 => ?_⟩
      · rcases hf k e with e3 | e3
        · exact hC k e2 e3
        · have := h.g.i.lt e2; omega
      · rcases hf k e with e3 | e3
        · exact hh (by rw [← e2]; exact e3)
        · have := h.g.inb.lt; omega
  refine ⟨⟨hi, h.g.inb.to rfl rfl (hb.block _ h.g.inb.lt hh), h.g.nd, h.g.one, h.g.un, h.g.la, h.g.pw, h.g.bel.trans (hb.below h.g.bel.size (fun k hk e => by have := (h.g.dl k (.inr e)).1; omega)), h.g.cb, h.g.ch, hd, fun q hq => ⟨(h.g.pts q hq).1, hP _ (h.g.pts q hq).2⟩, fun t ht e => ⟨(h.g.got t ht e).1, hP _ (h.g.got t ht e).2⟩⟩, h.ri.kept fun k hk hl => hb.block k hl (hR k (.inl hk)), h.rt, h.rf, h.rs, h.rn, h.rx, fun k hk e => ?_, fun e => ?_⟩
  · rcases hf k hk with e3 | e3
    · exact h.fl k e3 e
    · have := (h.g.dl k (.inl e)).2.1; omega
  · have hu := h.un e
    exact ⟨hu.ru.kept fun k hk hl => hb.block k hl (hR k (.inr hk)), hu.pk, hu.len, hu.ord, hu.p2, hu.p0, hu.wl, fun i hi => ⟨hP _ (hu.pi i hi).1, (hu.pi i hi).2⟩⟩
theorem PR.below {w0 w w' : World} {b rb : Nat} {P : Ps} {R : Rp} {ts : List (Nat × PtT)} {pt : LT PtT} {tk : LT Int} {m : Nat} {F : Nat → Prop} (h : PR w0 w b rb P R ts pt tk m F) (hb : Below w.heap.size w w') : PR w0 w' b rb P R ts pt tk m F :=
  h.turn (fun _ hk => .inl hk) ((But.ofBelow hb)) (fun k hk => ⟨(h.g.dl k (.inr hk)).1, Nat.lt_of_lt_of_le (h.g.dl k (.inr hk)).2.1 hb.size⟩)
end Go.Proofs.Ytldkepokcbjlpaa

namespace Go.Proofs.Ytldkepokcbjlpaa
open Go.RowKit Go.Conc
set_option maxRecDepth 8000
def nP : LT PtT := ⟨none, 0, 0, fun _ => pt0⟩
def nI : LT Int := ⟨none, 0, 0, fun _ => 0⟩
theorem nP_no (k : Nat) : ¬ (Value.slice nP.p nP.n nP.c).ownBlock = some k := fun h => by simp [nP, Value.ownBlock] at h
theorem nI_no (k : Nat) : ¬ (Value.slice nI.p nI.n nI.c).ownBlock = some k := fun h => by simp [nI, Value.ownBlock] at h
/-- a step of the reference, behind a step of the program -/
theorem RG.rset {w0 w w' : World} {b rb : Nat} {P : Ps} {R R' : Rp} {ts : List (Nat × PtT)} {Cn : Nat → PtT → Prop} {pt : LT PtT} {tk : LT Int} {F : Nat → Prop} (h : RG w0 w b P ts Cn (fun k => Dr R rb pt tk k ∨ F k)) (s : RSet w rb R w' R') : RG w0 w' b P ts Cn (fun k => Dr R rb pt tk k ∨ F k) :=
  h.put (s.but.wide fun _ hk => .inl (.inl hk))
theorem Dr.qs {w w' : World} {w0 : World} {b rb : Nat} {P P' : Ps} {L' : List Value} {R : Rp} {ts : List (Nat × PtT)} {pt : LT PtT} {tk : LT Int} {m : Nat} {F : Nat → Prop} (h : PR w0 w b rb P R ts pt tk m F) (s : QS w b P w' P' L') : RpI w' rb R ∧ (∀ n, RU w rb R n pt tk → RU w' rb R n pt tk) := by
  have hk : ∀ k, Dr R rb pt tk k → k < w.heap.size → w'.heap[k]? = w.heap[k]? := fun k hk hl => s.but.block k hl (h.g.dnot (.inl hk))
  exact ⟨h.ri.kept fun k hc hl => hk k (.inl hc) hl, fun n hu => hu.kept fun k hc hl => hk k (.inr hc) hl⟩
theorem Fr.of {w w1 w2 : World} {b rb : Nat} {P P' : Ps} {L' : List Value} {R R' : Rp} {pt pt' : LT PtT} {tk tk' : LT Int} (s : QS w b P w1 P' L') (hb : But (Dr R rb pt tk) w1 w2) (hd : ∀ k, Dr R' rb pt' tk' k → Dr R rb pt tk k ∨ w1.heap.size ≤ k) (hl : ∀ k, Dr R' rb pt' tk' k → k < w2.heap.size) : Fr w (Pc P b R rb pt tk) w2 (Pc P' b R' rb pt' tk') := by
  refine ⟨⟨hb.os.trans s.but.os, hb.tape.trans s.but.tape, hb.output.trans s.but.output, Nat.le_trans s.but.size hb.size, fun k hl hn => ?_⟩, fun k hk => ?_, fun k hk => ?_⟩
  · refine (hb.block k (Nat.lt_of_lt_of_le hl s.but.size) (fun e => hn (.inr (.inr e)))).trans (s.but.block k hl (fun e => ?_))
    rcases e with e | e
    · exact hn (.inl e)
    · exact hn (.inr (.inl e))
  · rcases hk with e | e | e
    · rcases s.cs k e with h1 | h1
      · exact .inl (.inl h1)
      · exact .inr h1
    · rw [s.chE] at e; exact .inl (.inr (.inl e))
    · rcases hd k e with h1 | h1
      · exact .inl (.inr (.inr h1))
      · exact .inr (Nat.le_trans s.but.size h1)
  · rcases hk with e | e | e
    · exact Nat.lt_of_lt_of_le (s.inv.lt e) hb.size
    · rw [e]; exact Nat.lt_of_lt_of_le s.inb.lt hb.size
    · exact hl k e
theorem PR.trig {w0 w w1 w2 : World} {b rb : Nat} {P : Ps} {R : Rp} {ts : List (Nat × PtT)} {pt : LT PtT} {tk : LT Int} {m : Nat} {F : Nat → Prop} {p p' : Option Addr} {c c' : Nat} (h : PR w0 w b rb P R ts pt tk m F) (hu : P.under = 0) (s : QSet w b P w1 (P.push p c 1)) (r : RSet w1 rb R w2 (R.push p' c')) :
    PR w0 w2 b rb (P.push p c 1) (R.push p' c') [] nP nI 0 F ∧ Fr w (Pc P b R rb pt tk) w2 (Pc (P.push p c 1) b (R.push p' c') rb nP nI) := by
  obtain ⟨_, h0, hg⟩ := h.g.trig s hu (CnR nP nI)
  have sq := s.qs h.g.i h.g.inb rfl rfl
  have hg2 := hg.rset r
  have hdr : ∀ k, Dr (R.push p' c') rb nP nI k → (R.C rb k ∨ w1.heap.size ≤ k) ∧ k < w2.heap.size := fun k hk => by
    rcases hk with e | e | e
    · exact ⟨r.cs k e, r.inv.lt e⟩
    · exact absurd e (nP_no k)
    · exact absurd e (nI_no k)
  have hpl : ∀ t, t < 12 → (P.push p c 1).pl t = 0 := h0
  have hT1 := h.g.i.t1
  refine ⟨⟨hg2.more hpl (fun k hk => ?_) rfl _, r.inv, h.rt, h.rf, h.rs, by show R.sh.n + 1 = P.sts.n + 1; rw [h.rn], fun j hj => ?_, fun k hk e => ?_, fun _ => ⟨?_, ?_, rfl, fun j t x e => by simp at e, fun t ht => ?_, fun t ht => ?_, ?_, fun i hi => absurd hi (Nat.not_lt_zero _)⟩⟩, Fr.of sq (r.but.wide fun _ hk => .inl hk) (fun k hk => ?_) (fun k hk => (hdr k hk).2)⟩
  · rcases hk with e | e
    · rcases (hdr k e).1 with e2 | e2
      · have := hg2.dl k (.inl (.inl e2))
        exact this
      · refine ⟨Nat.le_trans hg.bel.size e2, (hdr k e).2, fun e3 => ?_, fun e3 => ?_⟩
        · have := hg.i.lt e3; omega
        · have := hg.inb.lt; omega
    · exact hg2.dl k (.inr e)
  · have hj' : j < P.sts.n + 1 := hj
    show ((if j < R.sh.n then R.sh.item j else Rs.new (R.first + (R.sh.n : Int))).id = P.first + (j : Int)) ∧ ((if j < R.sh.n then R.sh.item j else Rs.new (R.first + (R.sh.n : Int))).st = (if j < P.sts.n then P.sts.item j else 1))
    rw [h.rn]
    by_cases hj2 : j < P.sts.n
    · rw [if_pos hj2, if_pos hj2]; exact h.rx j hj2
    · rw [if_neg hj2, if_neg hj2]
      refine ⟨?_, rfl⟩
      show R.first + (P.sts.n : Int) = P.first + (j : Int)
      rw [h.rf, show j = P.sts.n by omega]
  · rcases (hdr k e).1 with e2 | e2
    · exact h.fl k hk (.inl e2)
    · have := (h.g.dl k (.inr hk)).2.1
      have := s.but.size
      omega
  · have hx : (R.push p' c').sh.item (R.sh.n + 1 - 1) = Rs.new (R.first + (R.sh.n : Int)) := by
      show (if R.sh.n + 1 - 1 < R.sh.n then _ else Rs.new _) = _
      rw [if_neg (by omega)]
    refine ⟨by show R.sh.n + 1 - 1 + 1 = R.sh.n + 1; omega, ?_, rfl, Nat.zero_le _, World.ownsRow_nil _ _ _ _, World.ownsRow_nil _ _ _ _, fun k e => absurd e (nP_no k), fun k e => absurd e (nI_no k), ?_, fun j hj => absurd hj (Nat.not_lt_zero _), fun i j hi => absurd hi (Nat.not_lt_zero _)⟩
    · show (R.push p' c').sh.item (R.sh.n + 1 - 1) = ⟨R.first + ((R.sh.n + 1 - 1 : Nat) : Int), 1, none, 0, 0, none, 0, 0, ((R.push p' c').sh.item (R.sh.n + 1 - 1)).pk⟩
      rw [hx]
      rfl
    · show 0 ≤ ((R.push p' c').sh.item (R.sh.n + 1 - 1)).pk ∧ ((R.push p' c').sh.item (R.sh.n + 1 - 1)).pk ≤ ((0 : Nat) : Int)
      rw [hx]
      exact ⟨Int.le_refl _, Int.le_refl _⟩
  · show ((R.push p' c').sh.item (R.sh.n + 1 - 1)).pk = ((0 : Nat) : Int)
    have hx : (R.push p' c').sh.item (R.sh.n + 1 - 1) = Rs.new (R.first + (R.sh.n : Int)) := by
      show (if R.sh.n + 1 - 1 < R.sh.n then _ else Rs.new _) = _
      rw [if_neg (by omega)]
    rw [hx]; rfl
  · have ht' : (t : Int) < P.tasks := ht
    rw [hpl t (by omega)]
    exact ⟨fun e => absurd e (by omega), fun e => by simp [inT] at e⟩
  · have ht' : (t : Int) < P.tasks := ht
    rw [hpl t (by omega)]
    exact ⟨fun e => absurd rfl e, fun e => by simp [inT, nI] at e⟩
  · show ((P.push p c 1).wantsU P.tasks.toNat).length + 0 = P.tasks.toNat
    rw [Ps.wantsU_all]
    · rfl
    · intro j hj
      rw [hpl j (by omega)]; omega
  · rcases (hdr k hk).1 with e | e
    · exact .inl (.inl e)
    · exact .inr e
end Go.Proofs.Ytldkepokcbjlpaa
