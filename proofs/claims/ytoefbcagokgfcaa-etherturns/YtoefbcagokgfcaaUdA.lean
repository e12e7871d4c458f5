import Derived.Test.YtoefbcagokgfcaaPack18
namespace Go.Proofs.Ytoefbcagokgfcaa
open Go.RowKit
set_option maxRecDepth 8000
/-- a packet of the reference's -/
structure PK where
  fr : Int
  tt : Int
  y : BY
  out : Bool
def PK.cells (x : PK) : List Value := [.int .i64 x.fr, .int .i64 x.tt, .slice x.y.p x.y.n x.y.c, .bool x.out]
def PK.a (x : PK) : FA := ⟨x.fr, x.tt, x.y.zs⟩
/-- the ones that are in flight -/
def infl : List PK → List FA
  | [] => []
  | x :: r => if x.out then infl r else x.a :: infl r
theorem infl_app : ∀ (P Q : List PK), infl (P ++ Q) = infl P ++ infl Q
  | [], _ => rfl
  | x :: r, Q => by
    simp only [List.cons_append, infl, infl_app r Q]
    cases x.out <;> simp
theorem flat4_len (P : List PK) : (P.flatMap PK.cells).length = P.length * 4 := by
  induction P with
  | nil => rfl
  | cons x P ih => simp [PK.cells] at ih ⊢; omega
theorem flat4 : ∀ (P : List PK) (j r : Nat) (x : PK), P[j]? = some x → r < 4 → (P.flatMap PK.cells)[j * 4 + r]? = x.cells[r]?
  | [], j, r, x, h, _ => by simp at h
  | y :: P, 0, r, x, h, hr => by
    simp at h
    subst h
    rw [List.flatMap_cons, List.getElem?_append_left (by simp [PK.cells]; omega)]
    simp
  | y :: P, j + 1, r, x, h, hr => by
    rw [List.flatMap_cons, List.getElem?_append_right (by simp [PK.cells]; omega)]
    have := flat4 P j r x (by simpa using h) hr
    rw [← this]
    congr 1
    simp [PK.cells]
    omega
theorem flat4_set : ∀ (P : List PK) (k : Nat) (x : PK), k < P.length → (P.set k x).flatMap PK.cells = ((((P.flatMap PK.cells).set (k * 4) (.int .i64 x.fr)).set (k * 4 + 1) (.int .i64 x.tt)).set (k * 4 + 2) (.slice x.y.p x.y.n x.y.c)).set (k * 4 + 3) (.bool x.out)
  | [], k, x, h => by simp at h
  | y :: P, 0, x, _ => by simp [PK.cells]
  | y :: P, k + 1, x, h => by
    have ih := flat4_set P k x (by simpa using h)
    have e : (y :: P).flatMap PK.cells = [.int .i64 y.fr, .int .i64 y.tt, .slice y.y.p y.y.n y.y.c, .bool y.out] ++ P.flatMap PK.cells := by simp [PK.cells]
    rw [List.set_cons_succ, List.flatMap_cons, ih, e]
    rw [show (k + 1) * 4 = k * 4 + 4 by omega]
    simp [PK.cells]
/-- where the i-th in flight stands -/
structure Pl (P : List PK) (i k : Nat) (x : PK) : Prop where
  at_ : P[k]? = some x
  fly : x.out = false
  cnt : (infl (P.take k)).length = i
theorem Pl.split {P : List PK} {i k : Nat} {x : PK} (h : Pl P i k x) : ∃ P1 P2, P = P1 ++ x :: P2 ∧ P1.length = k ∧ (infl P1).length = i := by
  have hk : k < P.length := by
    rcases Nat.lt_or_ge k P.length with h1 | h1
    · exact h1
    · have := h.at_; rw [List.getElem?_eq_none h1] at this; cases this
  have e : P[k] = x := by have := h.at_; rw [List.getElem?_eq_getElem hk] at this; exact Option.some.inj this
  refine ⟨P.take k, P.drop (k + 1), ?_, by rw [List.length_take]; omega, h.cnt⟩
  rw [← e, ← List.drop_eq_getElem_cons hk, List.take_append_drop]
theorem Pl.get {P : List PK} {i k : Nat} {x : PK} (h : Pl P i k x) : (infl P)[i]? = some x.a := by
  obtain ⟨P1, P2, rfl, h1, h2⟩ := h.split
  rw [infl_app, infl, h.fly, List.getElem?_append_right (by omega), h2]
  simp
theorem Pl.put {P : List PK} {i k : Nat} {x : PK} (h : Pl P i k x) (y : PK) : (y.out = true → infl (P.set k y) = (infl P).eraseIdx i) ∧ (y.out = false → infl (P.set k y) = (infl P).set i y.a) := by
  obtain ⟨P1, P2, rfl, h1, h2⟩ := h.split
  have hs : (P1 ++ x :: P2).set k y = P1 ++ y :: P2 := by rw [← h1, List.set_append_right _ _ (Nat.le_refl _)]; simp
  have hp : infl (P1 ++ x :: P2) = infl P1 ++ x.a :: infl P2 := by rw [infl_app, infl, h.fly]; rfl
  rw [hs, hp]
  refine ⟨fun ho => ?_, fun ho => ?_⟩
  · rw [infl_app, infl, ho, ← h2, List.eraseIdx_append_of_length_le (Nat.le_refl _)]
    simp
  · rw [infl_app, infl, ho, ← h2, List.set_append_right _ _ (Nat.le_refl _)]
    simp
/-- the reference in memory, apart from the blocks of Z -/
structure RfI (w : World) (Z : Nat → Prop) (rb : Nat) (m : Int) (v : Value) (P : List PK) : Prop where
  bx : Box w rb #[.int .i64 m, v, .int .i64 ((infl P).length : Int)] 87
  row : w.ownsRow 0 90 4 v P.length (P.flatMap PK.cells)
  dat : ∀ x ∈ P, Byts w (fun k => ¬ Z k ∧ k ≠ rb ∧ v.ownBlock ≠ some k) x.y.p x.y.n x.y.c x.y.f
  zb : ¬ Z rb
  zr : ∀ g, v.ownBlock = some g → ¬ Z g
  sz : ∀ x ∈ P, x.y.n ≤ 32776
def RfA (w : World) (Z : Nat → Prop) (rb : Nat) (m : Int) (A : List FA) (N : Nat) : Prop := ∃ v P, RfI w Z rb m v P ∧ infl P = A ∧ P.length ≤ N
theorem kindPk : ∃ i, Kind 85 90 i (.agg #[.int .i64 0, .int .i64 0, .slice none 0 0, .bool false]) 4 48 := by
  obtain ⟨i0, hi, hz0, hz1, hz2⟩ := info_parts (show (Try.prog.info? 90).map (fun i => (i.zero, i.size, i.bytes)) = some (some (.agg #[.int .i64 0, .int .i64 0, .slice none 0 0, .bool false]), 4, 48) by kernel_rfl)
  exact ⟨i0, Try.underlying85, hi, hz0, hz1, hz2, rfl, by decide⟩
theorem PK.one (x : PK) : ∀ u ∈ x.cells, u.oneCell' = true := by
  intro u hu
  simp only [PK.cells, List.mem_cons, List.not_mem_nil, or_false] at hu
  rcases hu with rfl | rfl | rfl | rfl <;> rfl
section
variable {w w' : World} {Z Z' : Nat → Prop} {rb : Nat} {m : Int} {v : Value} {P : List PK}
theorem RfI.ne_row (h : RfI w Z rb m v P) : v.ownBlock ≠ some rb := fun e => by
  obtain ⟨_, ⟨hv, _⟩ | ⟨g, cap, cur, hv, _, hh, _⟩⟩ := h.row
  · rw [hv] at e; cases e
  · rw [hv] at e
    obtain rfl : g = rb := by simpa [Value.ownBlock] using e
    have := box_ty h.bx (show Box w g cur 90 from hh)
    cases this
theorem RfI.but (h : RfI w Z rb m v P) (hb : But Z w w') (hz : ∀ k, k < w.heap.size → Z' k → Z k) : RfI w' Z' rb m v P := by
  have hkeep : ∀ k, k < w.heap.size → ¬ Z k → w'.heap[k]? = w.heap[k]? := fun k hk hn => hb.block k hk hn
  refine ⟨h.bx.kept (hkeep rb h.bx.lt h.zb), ownsRow_keep h.row fun g hg hl => hkeep g hl (h.zr g hg), fun x hx => ?_, fun hk => h.zb (hz rb h.bx.lt hk), fun g hg hk => h.zr g hg (hz g (h.row.lt g hg).2 hk), h.sz⟩
  have h1 : Byts w (fun k => (¬ Z k ∧ k ≠ rb ∧ v.ownBlock ≠ some k) ∧ k < w.heap.size) x.y.p x.y.n x.y.c x.y.f := (h.dat x hx).mono fun k hk hl => ⟨hk, hl⟩
  exact (h1.kept hb.size fun k hk hl => hkeep k hl hk.1.1).mono fun k hk _ => ⟨fun e => hk.1.1 (hz k hk.2 e), hk.1.2⟩
end
theorem RfA.but {w w' : World} {Z Z' : Nat → Prop} {rb : Nat} {m : Int} {A : List FA} {N : Nat} (h : RfA w Z rb m A N) (hb : But Z w w') (hz : ∀ k, k < w.heap.size → Z' k → Z k) : RfA w' Z' rb m A N := by
  obtain ⟨v, P, hI, r⟩ := h
  exact ⟨v, P, hI.but hb hz, r⟩
theorem RfA.below {w w' : World} {Z Z' : Nat → Prop} {rb : Nat} {m : Int} {A : List FA} {N : Nat} (h : RfA w Z rb m A N) (hb : Below w.heap.size w w') (hz : ∀ k, k < w.heap.size → Z' k → Z k) : RfA w' Z' rb m A N := h.but (But.ofBelow hb) hz
/-- a row of bytes of the call's own -/
theorem Byts.ofOwn {w : World} {base n c : Nat} {p : Option Addr} {f : Nat → Int} (h : w.ownsRow base 5 1 (.slice p n c) n ((List.range n).map fun j => .int .u8 (f j))) (hn : n ≤ 140737488355328) (hf : ∀ j, j < n → 0 ≤ f j ∧ f j < 256) : Byts w (fun k => base ≤ k) p n c f := by
  have hlt := h.lt
  have hce := @World.ownsRow.cells _ _ _ _ _ _ _ h
  obtain ⟨_, ⟨hv, h0⟩ | ⟨g, cap, cur, hv, hbg, hh, hnc, hcm, hcs, htk⟩⟩ := id h
  · obtain ⟨rfl, h1, rfl⟩ := Value.slice.inj hv
    rw [h0]
    exact ⟨fun h => absurd h (by omega), Nat.le_refl _, by omega, Nat.zero_le _, fun j hj => absurd hj (by omega), fun _ => ⟨rfl, rfl⟩⟩
  · obtain ⟨rfl, _, rfl⟩ := Value.slice.inj hv
    refine ⟨fun _ => ⟨g, 0, rfl, hbg, (hlt g rfl).2, fun j hj => ?_⟩, hnc, hn, hcm, hf, fun h => by cases h⟩
    have := hce (g := g) rfl j (.int .u8 (f j)) (by simp [List.getElem?_range hj])
    rw [Go.WideShapes.add_plain] at this
    exact this
def FreQ (n : Nat) (f : Nat → Int) (w : World) (e : Ending) (w' : World) : Prop := ∃ (p : Option Addr) (c : Nat), e = .returned (.slice p n c) ∧ w'.ownsRow w.heap.size 5 1 (.slice p n c) n ((List.range n).map fun j => .int .u8 (f j)) ∧ Below w.heap.size w w'
set_option maxHeartbeats 4000000 in
/-- fresh -/
theorem fresh_any (p : Option Addr) (n c : Nat) (f : Nat → Int) (w : World) (S : Nat → Prop) (hb : Byts w S p n c f) : Calls Try.prog 47 #[.slice p n c] w fun e w' => FreQ n f w e w' := by
  obtain ⟨i0, Kd⟩ := kindB
  have hown : w.ownsRow w.heap.size 5 1 (.slice none 0 0) 0 [] := World.ownsRow_nil _ _ _ _
  have hs := hb.src
  have hn := hb.nn
  clear hb
  go_enter Try.func47, Try.ntmps47
  go_wp2_with (at_builtin; refine wpList_appS rfl (.tmp 4) (.tmp 5) 29 5 i0 _ 1 1 Kd rfl w.heap.size _ 0 [] rfl hown p n c _ rfl hs (oneCell_byts n f) (by omega) (by omega) (Nat.le_refl _) ?_)
  intro v' w' ho hg hnr
  have HO : Hid (w'.ownsRow w.heap.size 5 1 v' n ((List.range n).map fun j => .int .u8 (f j))) := by
    show w'.ownsRow _ _ _ _ _ _
    simpa using ho
  obtain ⟨p', c', hv⟩ := ownsRow_slice HO.out
  subst hv
  have HB : Hid (Below w.heap.size w w') := (Below.refl _ _).grown hg (Nat.le_refl _) (fun k hk => (hown.lt k hk).1)
  clear ho hg hnr hs hown
  go_wp2
  exact bodyPost_ret (v := .slice p' n c') (by simp [results, Try.results47, go_sem]) rfl ⟨p', c', rfl, HO.out, HB.out⟩
end Go.Proofs.Ytoefbcagokgfcaa
