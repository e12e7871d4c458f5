import Derived.Test.YtldkepokcbjlpaaPack27
namespace Go.Proofs.Ytldkepokcbjlpaa
open Go.RowKit Go.Conc
set_option maxRecDepth 60000
structure IsV (k i : Int) (v : VT) : Prop where
  k : v.kind = k
  i : v.int = i
  s : v.text = ⟨#[]⟩
  n : v.n = 0
/-- the part that tells the number n -/
structure IsP (n : Int) (t : PtT) : Prop where
  num : t.num = n
  cl : t.cl.n = 0
  lg : t.lg.n = 1
  l0 : (t.lg.item 0).n = 1
  lk : ((t.lg.item 0).item 0).key = ⟨#[107]⟩
  lv : IsV 0 0 ((t.lg.item 0).item 0).v
  ln : ((t.lg.item 0).item 0).n = 1
  ll : ((t.lg.item 0).item 0).loop 0 = n.tmod 10
  pd : t.pd.n = 1
  pk : (t.pd.item 0).key = ⟨#[]⟩
  pv : IsV 1 n (t.pd.item 0).v
  pn : (t.pd.item 0).n = 0
theorem IsV.alk {k i : Int} {v u : VT} (h : IsV k i v) (a : VT.Alike v u) : IsV k i u := by
  cases v with
  | nil =>
    have : u = .nil := by simpa [VT.Alike] using a
    subst this
    exact h
  | mk k2 i2 s2 n2 p2 c2 f2 =>
    obtain ⟨a0, a1, a2, a3, _⟩ := a
    exact ⟨a0.trans h.k, a1.trans h.i, a2.trans h.s, a3.trans h.n⟩
theorem IsV.two {k i : Int} {v u : VT} {w : World} {S : Nat → Prop} (h : IsV k i v) (g : IsV k i u) (hi : VT.In w S v) : VT.Alike v u := by
  cases v with
  | nil => exact hi.elim
  | mk k2 i2 s2 n2 p2 c2 f2 =>
    have hn : n2 = 0 := h.n
    exact ⟨g.k.trans h.k.symm, g.i.trans h.i.symm, g.s.trans h.s.symm, g.n.trans h.n.symm, fun j hj => absurd hj (by omega)⟩
theorem IsP.alk {n : Int} {t u : PtT} (h : IsP n t) (a : PtAlk t u) : IsP n u := by
  have l1 : 0 < t.lg.n := by rw [h.lg]; omega
  have a1 := a.lg.item 0 l1
  have l2 : 0 < (t.lg.item 0).n := by rw [h.l0]; omega
  have a2 := a1.item 0 l2
  have a3 := a.pd.item 0 (by rw [h.pd]; omega)
  exact ⟨a.num.trans h.num, a.cl.n.trans h.cl, a.lg.n.trans h.lg, a1.n.trans h.l0, a2.key.trans h.lk, h.lv.alk a2.v, a2.n.trans h.ln, (a2.loop 0 (by rw [h.ln]; omega)).trans h.ll, a.pd.n.trans h.pd, a3.key.trans h.pk, h.pv.alk a3.v, a3.n.trans h.pn⟩
theorem IsP.two {n : Int} {t u : PtT} {w : World} {S : Nat → Prop} (h : IsP n t) (g : IsP n u) (hi : PtIn w S t) : PtAlk t u := by
  refine ⟨g.num.trans h.num.symm, ⟨g.cl.trans h.cl.symm, fun j hj => absurd hj (by rw [h.cl]; omega)⟩, ⟨g.lg.trans h.lg.symm, fun j hj => ?_⟩, ⟨g.pd.trans h.pd.symm, fun j hj => ?_⟩⟩
  · have hj0 : j = 0 := by rw [h.lg] at hj; omega
    subst hj0
    refine ⟨g.l0.trans h.l0.symm, fun i hi2 => ?_⟩
    have hi0 : i = 0 := by rw [h.l0] at hi2; omega
    subst hi0
    have hr : RT.In w S ((t.lg.item 0).item 0) := LT.In.each (hi.lg.each 0 hj) 0 hi2
    exact ⟨g.lk.trans h.lk.symm, h.lv.two g.lv hr.v, g.ln.trans h.ln.symm, fun q hq => by
      rw [h.ln] at hq
      rw [show q = 0 by omega]
      exact g.ll.trans h.ll.symm⟩
  · have hj0 : j = 0 := by rw [h.pd] at hj; omega
    subst hj0
    have hr : RT.In w S (t.pd.item 0) := hi.pd.each 0 hj
    exact ⟨g.pk.trans h.pk.symm, h.pv.two g.pv hr.v, g.pn.trans h.pn.symm, fun q hq => absurd hq (by rw [h.pn]; omega)⟩
def pN (n : Int) (h : Nat) : PtT := ⟨n, ⟨none, 0, 0, fun _ => vt0⟩, ⟨some ⟨h + 1 + 1 + 1, 0, none⟩, 1, 1, fun _ => ⟨some ⟨h + 1 + 1, 0, none⟩, 1, 1, fun _ => ⟨⟨#[107]⟩, .mk 0 0 ⟨#[]⟩ 0 none 0 (fun _ => .nil), some ⟨h + 1, 0, none⟩, 1, 1, fun _ => n.tmod 10⟩⟩⟩, ⟨some ⟨h + 1 + 1 + 1 + 1, 0, none⟩, 1, 1, fun _ => ⟨⟨#[]⟩, .mk 1 n ⟨#[]⟩ 0 none 0 (fun _ => .nil), none, 0, 0, fun _ => 0⟩⟩⟩
theorem pN_is (n : Int) (h : Nat) : IsP n (pN n h) := ⟨rfl, rfl, rfl, rfl, rfl, ⟨rfl, rfl, rfl, rfl⟩, rfl, rfl, rfl, rfl, ⟨rfl, rfl, rfl, rfl⟩, rfl⟩
theorem pN_sz (n : Int) (h : Nat) : PtSz (pN n h) := by
  refine ⟨Nat.zero_le _, fun j hj => absurd hj (Nat.not_lt_zero _), by show 1 ≤ 10000; omega, fun j _ => by show 1 ≤ 10000; omega, fun j _ i _ => ?_, by show 1 ≤ 10000; omega, fun j _ => ?_⟩
  · simp [pN, RT.size, VT.total]
  · simp [pN, RT.size, VT.total]
theorem vt_in (w : World) (S : Nat → Prop) (k i : Int) (hk : -9223372036854775808 ≤ k ∧ k ≤ 9223372036854775807) (hi : -9223372036854775808 ≤ i ∧ i ≤ 9223372036854775807) : VT.In w S (.mk k i ⟨#[]⟩ 0 none 0 (fun _ => .nil)) :=
  ⟨⟨hk.1, hk.2, hi.1, hi.2, by show 0 ≤ _; omega, Nat.le_refl _, Nat.zero_le _, Nat.zero_le _, fun _ => ⟨rfl, rfl⟩⟩, fun h => absurd h (Nat.lt_irrefl _), fun j hj => absurd hj (Nat.not_lt_zero _)⟩
theorem one_in {α : Type} {E : El α} {w : World} {S : Nat → Prop} {b : Nat} {cs : Array Value} {e : TypeId} (x : α) (hb : Box w b cs e) (hS : S b) (hc : cs.toList = E.cells x) (hx : E.In w S x) : LT.In E w S ⟨some ⟨b, 0, none⟩, 1, 1, fun _ => x⟩ :=
  ⟨fun _ => ⟨b, 0, rfl, hS, hb.lt, fun j hj r u hu => by
    have hj0 : j = 0 := by have : j < 1 := hj; omega
    subst hj0
    rw [show 0 + 0 * E.size + r = r by omega, hb.cell]
    have hu' : (E.cells x)[r]? = some u := hu
    rw [← hc] at hu'
    simpa using hu'⟩, fun _ _ => hx, Nat.le_refl _, by show 1 ≤ _; omega, by show 1 ≤ maxLen; decide, fun h => by cases h⟩
theorem ints_in {w : World} {S : Nat → Prop} {b : Nat} {e : TypeId} (x : Int) (hb : Box w b #[.int .i64 x] e) (hS : S b) (hx : -9223372036854775808 ≤ x ∧ x ≤ 9223372036854775807) : Ints w S (some ⟨b, 0, none⟩) 1 1 (fun _ => x) :=
  ⟨fun _ => ⟨b, 0, rfl, hS, hb.lt, fun j hj => by
    have hj0 : j = 0 := by omega
    subst hj0
    rw [show 0 + 0 = 0 by omega, hb.cell]
    rfl⟩, Nat.le_refl _, by omega, by decide, fun _ _ => hx, fun h => by cases h⟩
def PtNew (n : Int) (w : World) (e : Ending) (w' : World) : Prop := ∃ t : PtT, e = .returned (.agg #[.int .i64 t.num, .slice t.cl.p t.cl.n t.cl.c, .slice t.lg.p t.lg.n t.lg.c, .slice t.pd.p t.pd.n t.pd.c]) ∧ IsP n t ∧ PtSz t ∧ PtIn w' (fun k => w.heap.size ≤ k) t ∧ Below w.heap.size w w'
set_option maxHeartbeats 4000000 in
theorem part_any (n : Int) (hn : -9223372036854775808 ≤ n ∧ n ≤ 9223372036854775807) (w : World) : Calls Try.prog 18 #[.int .i64 n] w fun e w' => PtNew n w e w' := by
  go_enter Try.func18, Try.ntmps18
  go_wp2
  obtain ⟨W1, h1⟩ : ∃ V, V = w.alloc (.cells #[.int .i64 n, .slice none 0 0, .slice (some ⟨w.heap.size + 1 + 1 + 1, 0, none⟩) 1 1, .slice (some ⟨w.heap.size + 1 + 1 + 1 + 1, 0, none⟩) 1 1] 39) := ⟨_, rfl⟩
  rw [← h1]
  obtain ⟨W2, h2⟩ : ∃ V, V = W1.alloc (.cells #[.int .i64 (n.tmod 10)] 3) := ⟨_, rfl⟩
  rw [← h2]
  obtain ⟨W3, h3⟩ : ∃ V, V = W2.alloc (.cells #[.string ⟨#[107]⟩, .int .i64 0, .int .i64 0, .string ⟨#[]⟩, .slice none 0 0, .slice (some ⟨w.heap.size + 1, 0, none⟩) 1 1] 99) := ⟨_, rfl⟩
  rw [← h3]
  obtain ⟨W4, h4⟩ : ∃ V, V = W3.alloc (.cells #[.slice (some ⟨w.heap.size + 1 + 1, 0, none⟩) 1 1] 37) := ⟨_, rfl⟩
  rw [← h4]
  obtain ⟨W5, h5⟩ : ∃ V, V = W4.alloc (.cells #[.string ⟨#[]⟩, .int .i64 1, .int .i64 n, .string ⟨#[]⟩, .slice none 0 0, .slice none 0 0] 99) := ⟨_, rfl⟩
  rw [← h5]
  have s1 : W1.heap.size = w.heap.size + 1 := by rw [h1]; simp
  have s2 : W2.heap.size = w.heap.size + 1 + 1 := by rw [h2]; simp [s1]
  have s3 : W3.heap.size = w.heap.size + 1 + 1 + 1 := by rw [h3]; simp [s2]
  have s4 : W4.heap.size = w.heap.size + 1 + 1 + 1 + 1 := by rw [h4]; simp [s3]
  have b1 : Below w.heap.size w W1 := by rw [h1]; exact (Below.refl _ _).alloc (Nat.le_refl _) _
  have b2 : Below W1.heap.size W1 W2 := by rw [h2]; exact (Below.refl _ _).alloc (Nat.le_refl _) _
  have b3 : Below W2.heap.size W2 W3 := by rw [h3]; exact (Below.refl _ _).alloc (Nat.le_refl _) _
  have b4 : Below W3.heap.size W3 W4 := by rw [h4]; exact (Below.refl _ _).alloc (Nat.le_refl _) _
  have b5 : Below W4.heap.size W4 W5 := by rw [h5]; exact (Below.refl _ _).alloc (Nat.le_refl _) _
  have x1 : Box W1 w.heap.size #[.int .i64 n, .slice none 0 0, .slice (some ⟨w.heap.size + 1 + 1 + 1, 0, none⟩) 1 1, .slice (some ⟨w.heap.size + 1 + 1 + 1 + 1, 0, none⟩) 1 1] 39 := by rw [h1]; exact Box.new _ _ _
  have x2 : Box W2 (w.heap.size + 1) #[.int .i64 (n.tmod 10)] 3 := by rw [← s1, h2]; exact Box.new _ _ _
  have x3 : Box W3 (w.heap.size + 1 + 1) #[.string ⟨#[107]⟩, .int .i64 0, .int .i64 0, .string ⟨#[]⟩, .slice none 0 0, .slice (some ⟨w.heap.size + 1, 0, none⟩) 1 1] 99 := by rw [← s2, h3]; exact Box.new _ _ _
  have x4 : Box W4 (w.heap.size + 1 + 1 + 1) #[.slice (some ⟨w.heap.size + 1 + 1, 0, none⟩) 1 1] 37 := by rw [← s3, h4]; exact Box.new _ _ _
  have x5 : Box W5 (w.heap.size + 1 + 1 + 1 + 1) #[.string ⟨#[]⟩, .int .i64 1, .int .i64 n, .string ⟨#[]⟩, .slice none 0 0, .slice none 0 0] 99 := by rw [← s4, h5]; exact Box.new _ _ _
  have y1 := (((x1.below b2).below b3).below b4).below b5
  have y2 := ((x2.below b3).below b4).below b5
  have y3 := (x3.below b4).below b5
  have y4 := x4.below b5
  have hB : Below w.heap.size w W5 := b1.trans ((b2.trans ((b3.trans ((b4.trans (b5.mono (by omega))).mono (by omega))).mono (by omega))).mono (by omega))
  have z0 := y1.cell 0
  have z1 := y1.cell 1
  have z2 := y1.cell 2
  have z3 := y1.cell 3
  simp at z0 z1 z2 z3
  have hmod : -9223372036854775808 ≤ n.tmod 10 ∧ n.tmod 10 ≤ 9223372036854775807 := by
    have t1 := Int.tmod_lt_of_pos n (show (0 : Int) < 10 by omega)
    have t2 := Int.lt_tmod_of_pos n (show (0 : Int) < 10 by omega)
    omega
  refine bodyPost_ret (v := .agg #[.int .i64 n, .slice none 0 0, .slice (some ⟨w.heap.size + 1 + 1 + 1, 0, none⟩) 1 1, .slice (some ⟨w.heap.size + 1 + 1 + 1 + 1, 0, none⟩) 1 1]) (by simp [results, Try.results18, go_sem, z0, z1, z2, z3]) rfl ?_
  refine ⟨pN n w.heap.size, rfl, pN_is n _, pN_sz n _, ⟨LT.In.none_ _ _ _ none 0 _ (Nat.zero_le _) (fun _ => rfl), one_in _ y4 (by show w.heap.size ≤ _; omega) rfl (one_in _ y3 (by show w.heap.size ≤ _; omega) rfl ⟨vt_in _ _ 0 0 (by omega) (by omega), ints_in _ y2 (by show w.heap.size ≤ _; omega) hmod, by show 1 ≤ 140737488355328; omega⟩), one_in _ x5 (by show w.heap.size ≤ _; omega) rfl ⟨vt_in _ _ 1 n (by omega) hn, ⟨fun h => absurd h (Nat.lt_irrefl _), Nat.le_refl _, Nat.zero_le _, Nat.zero_le _, fun j hj => absurd hj (Nat.not_lt_zero _), fun _ => ⟨rfl, rfl⟩⟩, by show 0 ≤ 140737488355328; omega⟩⟩, hB⟩
end Go.Proofs.Ytldkepokcbjlpaa
