import Derived.Test.YtieknmpdmdbdlaaGreatDoorExS
namespace Go.Proofs.YtieknmpdmdbdlaaGreatDoor
open Go.RowKit
set_option maxRecDepth 8000

/-- no variable of the join's own lies between lo and hi -/
def Out (lo hi : Nat) (t : Value) : Prop := ∀ c, t = .pointer (some ⟨c, 0, none⟩) → c < lo ∨ hi ≤ c
/-- a new variable of one cell -/
def Var (w0 w : World) (t : Value) : Prop := ∃ c, t = .pointer (some ⟨c, 0, none⟩) ∧ w0.heap.size ≤ c ∧ c < w.heap.size ∧ (∃ u, w.cell? ⟨c, 0, none⟩ = some u) ∧ w.frozen? ⟨c, 0, none⟩ = false
def Has (w : World) (t x : Value) : Prop := ∀ c, t = .pointer (some ⟨c, 0, none⟩) → w.cell? ⟨c, 0, none⟩ = some x
def G1 (w0 w : World) (t t3 t4 t5 : Value) (a b : Int) (v : Value) : Prop := ∃ lo hi, w0.heap.size ≤ lo ∧ Fun1 lo hi w t a b v ∧ Out lo hi t3 ∧ Out lo hi t4 ∧ Out lo hi t5
def G2 (w0 w : World) (t t3 t4 t5 : Value) (x y v : Value) : Prop := ∃ lo hi, w0.heap.size ≤ lo ∧ Fun2 lo hi w t x y v ∧ Out lo hi t3 ∧ Out lo hi t4 ∧ Out lo hi t5
theorem Fun1.le {lo hi : Nat} {w : World} {t : Value} {a b : Int} {v : Value} (h : Fun1 lo hi w t a b v) : hi ≤ w.heap.size := by obtain ⟨_, _, _, _, _, h, _⟩ := h; exact h
theorem Fun2.le {lo hi : Nat} {w : World} {t x y v : Value} (h : Fun2 lo hi w t x y v) : hi ≤ w.heap.size := by obtain ⟨_, _, _, _, _, h, _⟩ := h; exact h
theorem G1.on {w0 w w' : World} {t t3 t4 t5 : Value} {a b : Int} {v : Value} (h : G1 w0 w t t3 t4 t5 a b v) (hb : Below w.heap.size w w') : G1 w0 w' t t3 t4 t5 a b v := by
  obtain ⟨lo, hi, h1, h2, h3⟩ := h
  exact ⟨lo, hi, h1, h2.keep (fun k _ hk => hb.block k (by have := h2.le; omega)) hb.size, h3⟩
theorem G2.on {w0 w w' : World} {t t3 t4 t5 x y v : Value} (h : G2 w0 w t t3 t4 t5 x y v) (hb : Below w.heap.size w w') : G2 w0 w' t t3 t4 t5 x y v := by
  obtain ⟨lo, hi, h1, h2, h3⟩ := h
  exact ⟨lo, hi, h1, h2.keep (fun k _ hk => hb.block k (by have := h2.le; omega)) hb.size, h3⟩
theorem G1.set {w0 w : World} {t t3 t4 t5 : Value} {a b : Int} {v : Value} (h : G1 w0 w t t3 t4 t5 a b v) {c : Nat} (hc : t3 = .pointer (some ⟨c, 0, none⟩) ∨ t4 = .pointer (some ⟨c, 0, none⟩) ∨ t5 = .pointer (some ⟨c, 0, none⟩)) (x : Value) : G1 w0 (w.setCell ⟨c, 0, none⟩ x) t t3 t4 t5 a b v := by
  obtain ⟨lo, hi, h1, h2, h3, h4, h5⟩ := h
  have ho : c < lo ∨ hi ≤ c := by
    rcases hc with hc | hc | hc
    · exact h3 c hc
    · exact h4 c hc
    · exact h5 c hc
  exact ⟨lo, hi, h1, h2.keep (fun k hk1 hk2 => Below.heap_setCell w ⟨c, 0, none⟩ x k (by show k ≠ c; omega)) (by simp), h3, h4, h5⟩
theorem G2.set {w0 w : World} {t t3 t4 t5 x1 x2 v : Value} (h : G2 w0 w t t3 t4 t5 x1 x2 v) {c : Nat} (hc : t3 = .pointer (some ⟨c, 0, none⟩) ∨ t4 = .pointer (some ⟨c, 0, none⟩) ∨ t5 = .pointer (some ⟨c, 0, none⟩)) (x : Value) : G2 w0 (w.setCell ⟨c, 0, none⟩ x) t t3 t4 t5 x1 x2 v := by
  obtain ⟨lo, hi, h1, h2, h3, h4, h5⟩ := h
  have ho : c < lo ∨ hi ≤ c := by
    rcases hc with hc | hc | hc
    · exact h3 c hc
    · exact h4 c hc
    · exact h5 c hc
  exact ⟨lo, hi, h1, h2.keep (fun k hk1 hk2 => Below.heap_setCell w ⟨c, 0, none⟩ x k (by show k ≠ c; omega)) (by simp), h3, h4, h5⟩
theorem Var.on {w0 w w' : World} {t : Value} (h : Var w0 w t) (hb : Below w.heap.size w w') : Var w0 w' t := by
  obtain ⟨c, h1, h2, h3, ⟨u, h4⟩, h5⟩ := h
  exact ⟨c, h1, h2, Nat.lt_of_lt_of_le h3 hb.size, ⟨u, cell_on h4 hb⟩, (hb.frozen (p := ⟨c, 0, none⟩) h3).trans h5⟩
theorem Var.set {w0 w : World} {t : Value} (h : Var w0 w t) (c : Nat) (x : Value) : Var w0 (w.setCell ⟨c, 0, none⟩ x) t := by
  obtain ⟨d, h1, h2, h3, ⟨u, h4⟩, h5⟩ := h
  refine ⟨d, h1, h2, by simpa using h3, ?_, by simpa using h5⟩
  by_cases hd : c = d
  · subst hd
    exact ⟨x, World.cell?_setCell_same _ _ _ h4⟩
  · exact ⟨u, (World.cell?_setCell_other _ _ _ _ (by intro h; cases h; exact hd rfl)).trans h4⟩
theorem Has.on {w w' : World} {t x : Value} (h : Has w t x) (hb : Below w.heap.size w w') : Has w' t x := fun c hc => cell_on (h c hc) hb
theorem Has.set {w : World} {t x : Value} (h : Has w t x) {c : Nat} (hc : t ≠ .pointer (some ⟨c, 0, none⟩)) (y : Value) : Has (w.setCell ⟨c, 0, none⟩ y) t x := fun d hd =>
  (World.cell?_setCell_other _ _ _ _ (by intro h; cases h; exact hc hd)).trans (h d hd)
theorem Var.new (w0 w : World) (h : w0.heap.size ≤ w.heap.size) (x : Value) (T : TypeId) : Var w0 (w.alloc (.cells #[x] T)) (.pointer (some ⟨w.heap.size, 0, none⟩)) :=
  ⟨w.heap.size, rfl, h, by simp, ⟨x, by simp⟩, by simp⟩

theorem out_old {w0 w1 : World} {hi : Nat} {t : Value} {d : Prop} (h : d → Var w0 w1 t) (u : ¬ d → t = undef) : Out w1.heap.size hi t := by
  intro c hc
  by_cases hd : d
  · obtain ⟨c', h1, _, h3, _⟩ := h hd
    rw [hc] at h1
    cases h1
    exact Or.inl h3
  · have := u hd
    rw [hc] at this
    cases this

theorem G1.al9 {w0 w : World} {t t3 t4 t5 : Value} {a b : Int} {v : Value} (h : G1 w0 w t t3 t4 t5 a b v) (o : Obj) : G1 w0 (w.alloc o) t (.pointer (some ⟨w.heap.size, 0, none⟩)) t4 t5 a b v := by
  obtain ⟨lo, hi, h1, h2, o3, o4, o5⟩ := h
  exact ⟨lo, hi, h1, h2.keep (fun k _ hk => (below_al w o).block k (by have := h2.le; omega)) (below_al w o).size, fun c hc => (by cases hc; exact Or.inr h2.le), o4, o5⟩
theorem G2.al9 {w0 w : World} {t t3 t4 t5 : Value} {x y v : Value} (h : G2 w0 w t t3 t4 t5 x y v) (o : Obj) : G2 w0 (w.alloc o) t (.pointer (some ⟨w.heap.size, 0, none⟩)) t4 t5 x y v := by
  obtain ⟨lo, hi, h1, h2, o3, o4, o5⟩ := h
  exact ⟨lo, hi, h1, h2.keep (fun k _ hk => (below_al w o).block k (by have := h2.le; omega)) (below_al w o).size, fun c hc => (by cases hc; exact Or.inr h2.le), o4, o5⟩
theorem G1.al10 {w0 w : World} {t t3 t4 t5 : Value} {a b : Int} {v : Value} (h : G1 w0 w t t3 t4 t5 a b v) (o : Obj) : G1 w0 (w.alloc o) t t3 (.pointer (some ⟨w.heap.size, 0, none⟩)) t5 a b v := by
  obtain ⟨lo, hi, h1, h2, o3, o4, o5⟩ := h
  exact ⟨lo, hi, h1, h2.keep (fun k _ hk => (below_al w o).block k (by have := h2.le; omega)) (below_al w o).size, o3, fun c hc => (by cases hc; exact Or.inr h2.le), o5⟩
theorem G2.al10 {w0 w : World} {t t3 t4 t5 : Value} {x y v : Value} (h : G2 w0 w t t3 t4 t5 x y v) (o : Obj) : G2 w0 (w.alloc o) t t3 (.pointer (some ⟨w.heap.size, 0, none⟩)) t5 x y v := by
  obtain ⟨lo, hi, h1, h2, o3, o4, o5⟩ := h
  exact ⟨lo, hi, h1, h2.keep (fun k _ hk => (below_al w o).block k (by have := h2.le; omega)) (below_al w o).size, o3, fun c hc => (by cases hc; exact Or.inr h2.le), o5⟩
theorem G1.al11 {w0 w : World} {t t3 t4 t5 : Value} {a b : Int} {v : Value} (h : G1 w0 w t t3 t4 t5 a b v) (o : Obj) : G1 w0 (w.alloc o) t t3 t4 (.pointer (some ⟨w.heap.size, 0, none⟩)) a b v := by
  obtain ⟨lo, hi, h1, h2, o3, o4, o5⟩ := h
  exact ⟨lo, hi, h1, h2.keep (fun k _ hk => (below_al w o).block k (by have := h2.le; omega)) (below_al w o).size, o3, o4, fun c hc => (by cases hc; exact Or.inr h2.le)⟩
theorem G2.al11 {w0 w : World} {t t3 t4 t5 : Value} {x y v : Value} (h : G2 w0 w t t3 t4 t5 x y v) (o : Obj) : G2 w0 (w.alloc o) t t3 t4 (.pointer (some ⟨w.heap.size, 0, none⟩)) x y v := by
  obtain ⟨lo, hi, h1, h2, o3, o4, o5⟩ := h
  exact ⟨lo, hi, h1, h2.keep (fun k _ hk => (below_al w o).block k (by have := h2.le; omega)) (below_al w o).size, o3, o4, fun c hc => (by cases hc; exact Or.inr h2.le)⟩
theorem new_ne {w0 w : World} {t : Value} (h : Var w0 w t) : t ≠ .pointer (some ⟨w.heap.size, 0, none⟩) := by
  obtain ⟨c, rfl, _, h3, _⟩ := h
  intro hc
  cases hc
  omega

theorem has_set {w : World} {c : Nat} {u x : Value} (h : w.cell? ⟨c, 0, none⟩ = some u) : Has (w.setCell ⟨c, 0, none⟩ x) (.pointer (some ⟨c, 0, none⟩)) x := by
  intro d hd
  cases hd
  exact World.cell?_setCell_same _ _ _ h

/-- what is known while the three parts of a join are made -/
structure JK (w0 : World) (nb : Nat) (nm : ByteArray) (n1 m1 : TypeId) (n2 m2 : Value) (a b k1 i1 k2 i2 k i : Int) (D : Nat → Prop) (w : World) (t3 t4 t5 t6 t7 t8 t9 t10 t11 t12 t13 t14 : Value) : Prop where
  bel : Below w0.heap.size w0 w
  f0 : D 0 → t6 = .pointer (some ⟨nb, 1, none⟩)
  f1 : D 1 → t7 = .string nm
  f2 : D 2 → G2 w0 w t8 t3 t4 t5 (iv k1 i1) (iv k2 i2) (iv k i)
  f3 : D 3 → t9 = .pointer (some ⟨nb, 2, none⟩)
  f4 : D 4 → t10 = .iface n1 n2
  f5 : D 5 → G1 w0 w t11 t3 t4 t5 a b (iv k1 i1)
  f6 : D 6 → t12 = .pointer (some ⟨nb, 3, none⟩)
  f7 : D 7 → t13 = .iface m1 m2
  f8 : D 8 → G1 w0 w t14 t3 t4 t5 a b (iv k2 i2)
  f9 : D 9 → Var w0 w t3
  f10 : D 10 → Var w0 w t4
  f11 : D 11 → Var w0 w t5
  f12 : D 12 → Has w t3 t8
  f13 : D 13 → Has w t4 t11
  f14 : D 14 → Has w t5 t14
  u9 : ¬ D 9 → t3 = undef
  u10 : ¬ D 10 → t4 = undef
  u11 : ¬ D 11 → t5 = undef
  d34 : D 9 → D 10 → t3 ≠ t4
  d35 : D 9 → D 11 → t3 ≠ t5
  d45 : D 10 → D 11 → t4 ≠ t5
  q8 : D 8 → D 5
  q12 : D 12 → D 2 ∧ D 8 ∧ D 9 ∧ D 10 ∧ D 11
  q13 : D 13 → D 12
  q14 : D 14 → D 13
def JI (w0 : World) (n : Value) (nb : Nat) (nm : ByteArray) (n1 m1 : TypeId) (n2 m2 : Value) (a b k1 i1 k2 i2 k i : Int) (D : Nat → Prop) (c : Act) (w : World) : Prop :=
  ∃ t3 t4 t5 t6 t7 t8 t9 t10 t11 t12 t13 t14, c = { tmps := #[n, .pointer (some ⟨nb, 0, none⟩), .nilFunc, t3, t4, t5, t6, t7, t8, t9, t10, t11, t12, t13, t14, undef], defers := [] } ∧ JK w0 nb nm n1 m1 n2 m2 a b k1 i1 k2 i2 k i D w t3 t4 t5 t6 t7 t8 t9 t10 t11 t12 t13 t14

/-- joining gives what joins the two values -/
def Joins (nm : ByteArray) (x y v : Value) : Prop := ∀ w, Calls Tryz.prog 214 #[.string nm] w fun e w' => Below w.heap.size w w' ∧ ∃ t, e = .returned t ∧ Fun2 w.heap.size w'.heap.size w' t x y v

theorem comp_joined (lv : Int) (nm : ByteArray) (n1 m1 : TypeId) (n2 m2 : Value) (g1 g2 : Nat) (a b k1 i1 k2 i2 k i : Int) (HJ : Joins nm (iv k1 i1) (iv k2 i2) (iv k i)) (HL : Comp g1 n2 a b (iv k1 i1)) (HR : Comp g2 m2 a b (iv k2 i2)) (hg1 : Enters g1) (hg2 : Enters g2) (hM1 : Meth n1 g1) (hM2 : Meth m1 g2) :
    Comp 213 (.agg #[.int .i64 lv, .string nm, .iface n1 n2, .iface m1 m2]) a b (iv k i) := by
  intro w
  have hmf : ∀ (fn : Fn) (first cap : Array Value) (w : World), (Instr.makeFunc fn first cap).run Tryz.prog w = .ok (.func fn first cap) w := fun _ _ _ _ => rfl
  have HHJ := hid HJ
  have HHL := hid HL
  have HHR := hid HR
  clear HJ HL HR
  unfold Enters Meth at *
  go_enter Tryz.func213, Tryz.ntmps213
  go_wp2_with fail
  have HC1 : Hid ((w.alloc (.cells #[.int .i64 lv, .string nm, .iface n1 n2, .iface m1 m2] 86)).cell? ⟨w.heap.size, 1, none⟩ = some (.string nm)) := by show _ = _; simp
  have HC2 : Hid ((w.alloc (.cells #[.int .i64 lv, .string nm, .iface n1 n2, .iface m1 m2] 86)).cell? ⟨w.heap.size, 2, none⟩ = some (.iface n1 n2)) := by show _ = _; simp
  have HC3 : Hid ((w.alloc (.cells #[.int .i64 lv, .string nm, .iface n1 n2, .iface m1 m2] 86)).cell? ⟨w.heap.size, 3, none⟩ = some (.iface m1 m2)) := by show _ = _; simp
  have HB0 := hid (below_al w (.cells #[.int .i64 lv, .string nm, .iface n1 n2, .iface m1 m2] 86))
  have HZ0 : Hid ((w.alloc (.cells #[.int .i64 lv, .string nm, .iface n1 n2, .iface m1 m2] 86)).heap.size = w.heap.size + 1) := by show _ = _; simp
  generalize w.alloc (.cells #[.int .i64 lv, .string nm, .iface n1 n2, .iface m1 m2] 86) = w0 at *
  generalize hq : w.heap.size = nb at *
  refine wp_region_inv (by kernel_rfl) (JI w0 (.agg #[.int .i64 lv, .string nm, .iface n1 n2, .iface m1 m2]) nb nm n1 m1 n2 m2 a b k1 i1 k2 i2 k i) ?_ (by kernel_rfl) ?_ ?_ ?_
  · rintro D D' c w1 hD ⟨t3, t4, t5, t6, t7, t8, t9, t10, t11, t12, t13, t14, h, hK⟩
    have e : D = D' := funext fun j => propext (hD j)
    subst e
    exact ⟨t3, t4, t5, t6, t7, t8, t9, t10, t11, t12, t13, t14, h, hK⟩
  · intro D hD
    exact ⟨_, _, _, _, _, _, _, _, _, _, _, _, rfl, (Below.refl _ _).drew, fun h => absurd h (hD _), fun h => absurd h (hD _), fun h => absurd h (hD _), fun h => absurd h (hD _), fun h => absurd h (hD _), fun h => absurd h (hD _), fun h => absurd h (hD _), fun h => absurd h (hD _), fun h => absurd h (hD _), fun h => absurd h (hD _), fun h => absurd h (hD _), fun h => absurd h (hD _), fun h => absurd h (hD _), fun h => absurd h (hD _), fun h => absurd h (hD _), fun _ => rfl, fun _ => rfl, fun _ => rfl, fun h => absurd h (hD _), fun h => absurd h (hD _), fun h => absurd h (hD _), fun h => absurd h (hD _), fun h => absurd h (hD _), fun h => absurd h (hD _), fun h => absurd h (hD _)⟩
  · intro D c w1 hI j o hi hnd hdep
    obtain ⟨t3, t4, t5, t6, t7, t8, t9, t10, t11, t12, t13, t14, rfl, hK⟩ := hI
    have hlt : j < 15 := (Array.getElem?_eq_some_iff.1 hi).1
    match j, hlt with
    | 0, _ =>
      cases hi
      simp [wpOp, Region.wanted, Oper.wp, execOp, go_sem, Oper.upon, Act.eval, Act.put]
      exact Or.inl ⟨_, _, _, _, _, _, _, _, _, _, _, _, rfl, ⟨hK.bel, fun _ => rfl, fun h => hK.f1 (h.resolve_right (by decide)), fun h => hK.f2 (h.resolve_right (by decide)), fun h => hK.f3 (h.resolve_right (by decide)), fun h => hK.f4 (h.resolve_right (by decide)), fun h => hK.f5 (h.resolve_right (by decide)), fun h => hK.f6 (h.resolve_right (by decide)), fun h => hK.f7 (h.resolve_right (by decide)), fun h => hK.f8 (h.resolve_right (by decide)), fun h => hK.f9 (h.resolve_right (by decide)), fun h => hK.f10 (h.resolve_right (by decide)), fun h => hK.f11 (h.resolve_right (by decide)), fun h => hK.f12 (h.resolve_right (by decide)), fun h => hK.f13 (h.resolve_right (by decide)), fun h => hK.f14 (h.resolve_right (by decide)), fun h => hK.u9 (fun h9 => h (Or.inl h9)), fun h => hK.u10 (fun h9 => h (Or.inl h9)), fun h => hK.u11 (fun h9 => h (Or.inl h9)), fun h h' => hK.d34 (h.resolve_right (by decide)) (h'.resolve_right (by decide)), fun h h' => hK.d35 (h.resolve_right (by decide)) (h'.resolve_right (by decide)), fun h h' => hK.d45 (h.resolve_right (by decide)) (h'.resolve_right (by decide)), fun h => Or.inl (hK.q8 (h.resolve_right (by decide))), fun h => ⟨Or.inl (hK.q12 (h.resolve_right (by decide))).1, Or.inl (hK.q12 (h.resolve_right (by decide))).2.1, Or.inl (hK.q12 (h.resolve_right (by decide))).2.2.1, Or.inl (hK.q12 (h.resolve_right (by decide))).2.2.2.1, Or.inl (hK.q12 (h.resolve_right (by decide))).2.2.2.2⟩, fun h => Or.inl (hK.q13 (h.resolve_right (by decide))), fun h => Or.inl (hK.q14 (h.resolve_right (by decide)))⟩⟩
    | 1, _ =>
      cases hi
      simp [Region.binds] at hdep
      obtain rfl := hK.f0 hdep
      have c1 := cell_on HC1.out hK.bel
      simp [wpOp, Region.wanted, Oper.wp, execOp, go_sem, Oper.upon, Act.eval, Act.put, c1]
      exact Or.inl ⟨_, _, _, _, _, _, _, _, _, _, _, _, rfl, ⟨hK.bel, fun h => hK.f0 (h.resolve_right (by decide)), fun _ => rfl, fun h => hK.f2 (h.resolve_right (by decide)), fun h => hK.f3 (h.resolve_right (by decide)), fun h => hK.f4 (h.resolve_right (by decide)), fun h => hK.f5 (h.resolve_right (by decide)), fun h => hK.f6 (h.resolve_right (by decide)), fun h => hK.f7 (h.resolve_right (by decide)), fun h => hK.f8 (h.resolve_right (by decide)), fun h => hK.f9 (h.resolve_right (by decide)), fun h => hK.f10 (h.resolve_right (by decide)), fun h => hK.f11 (h.resolve_right (by decide)), fun h => hK.f12 (h.resolve_right (by decide)), fun h => hK.f13 (h.resolve_right (by decide)), fun h => hK.f14 (h.resolve_right (by decide)), fun h => hK.u9 (fun h9 => h (Or.inl h9)), fun h => hK.u10 (fun h9 => h (Or.inl h9)), fun h => hK.u11 (fun h9 => h (Or.inl h9)), fun h h' => hK.d34 (h.resolve_right (by decide)) (h'.resolve_right (by decide)), fun h h' => hK.d35 (h.resolve_right (by decide)) (h'.resolve_right (by decide)), fun h h' => hK.d45 (h.resolve_right (by decide)) (h'.resolve_right (by decide)), fun h => Or.inl (hK.q8 (h.resolve_right (by decide))), fun h => ⟨Or.inl (hK.q12 (h.resolve_right (by decide))).1, Or.inl (hK.q12 (h.resolve_right (by decide))).2.1, Or.inl (hK.q12 (h.resolve_right (by decide))).2.2.1, Or.inl (hK.q12 (h.resolve_right (by decide))).2.2.2.1, Or.inl (hK.q12 (h.resolve_right (by decide))).2.2.2.2⟩, fun h => Or.inl (hK.q13 (h.resolve_right (by decide))), fun h => Or.inl (hK.q14 (h.resolve_right (by decide)))⟩⟩
    | 2, _ =>
      cases hi
      simp [Region.binds] at hdep
      obtain rfl := hK.f1 hdep
      simp [wpOp, Region.wanted, Oper.wp, go_sem, Oper.upon, Act.eval, Act.put]
      refine Or.inl ((HHJ.out w1).mono ?_)
      rintro e w2 ⟨hb, u, rfl, hF⟩
      have o3 : Out w1.heap.size w2.heap.size t3 := out_old (hK.f9) (hK.u9)
      have o4 : Out w1.heap.size w2.heap.size t4 := out_old (hK.f10) (hK.u10)
      have o5 : Out w1.heap.size w2.heap.size t5 := out_old (hK.f11) (hK.u11)
      exact ⟨_, _, _, _, _, _, _, _, _, _, _, _, rfl, ⟨hK.bel.trans (hb.mono hK.bel.size), fun h => hK.f0 (h.resolve_right (by decide)), fun h => hK.f1 (h.resolve_right (by decide)), fun _ => ⟨_, _, hK.bel.size, hF, o3, o4, o5⟩, fun h => hK.f3 (h.resolve_right (by decide)), fun h => hK.f4 (h.resolve_right (by decide)), fun h => (hK.f5 (h.resolve_right (by decide))).on hb, fun h => hK.f6 (h.resolve_right (by decide)), fun h => hK.f7 (h.resolve_right (by decide)), fun h => (hK.f8 (h.resolve_right (by decide))).on hb, fun h => (hK.f9 (h.resolve_right (by decide))).on hb, fun h => (hK.f10 (h.resolve_right (by decide))).on hb, fun h => (hK.f11 (h.resolve_right (by decide))).on hb, fun h => absurd (hK.q12 (h.resolve_right (by decide))).1 hnd, fun h => (hK.f13 (h.resolve_right (by decide))).on hb, fun h => (hK.f14 (h.resolve_right (by decide))).on hb, fun h => hK.u9 (fun h9 => h (Or.inl h9)), fun h => hK.u10 (fun h9 => h (Or.inl h9)), fun h => hK.u11 (fun h9 => h (Or.inl h9)), fun h h' => hK.d34 (h.resolve_right (by decide)) (h'.resolve_right (by decide)), fun h h' => hK.d35 (h.resolve_right (by decide)) (h'.resolve_right (by decide)), fun h h' => hK.d45 (h.resolve_right (by decide)) (h'.resolve_right (by decide)), fun h => Or.inl (hK.q8 (h.resolve_right (by decide))), fun h => ⟨Or.inl (hK.q12 (h.resolve_right (by decide))).1, Or.inl (hK.q12 (h.resolve_right (by decide))).2.1, Or.inl (hK.q12 (h.resolve_right (by decide))).2.2.1, Or.inl (hK.q12 (h.resolve_right (by decide))).2.2.2.1, Or.inl (hK.q12 (h.resolve_right (by decide))).2.2.2.2⟩, fun h => Or.inl (hK.q13 (h.resolve_right (by decide))), fun h => Or.inl (hK.q14 (h.resolve_right (by decide)))⟩⟩
    | 3, _ =>
      cases hi
      simp [wpOp, Region.wanted, Oper.wp, execOp, go_sem, Oper.upon, Act.eval, Act.put]
      exact Or.inl ⟨_, _, _, _, _, _, _, _, _, _, _, _, rfl, ⟨hK.bel, fun h => hK.f0 (h.resolve_right (by decide)), fun h => hK.f1 (h.resolve_right (by decide)), fun h => hK.f2 (h.resolve_right (by decide)), fun _ => rfl, fun h => hK.f4 (h.resolve_right (by decide)), fun h => hK.f5 (h.resolve_right (by decide)), fun h => hK.f6 (h.resolve_right (by decide)), fun h => hK.f7 (h.resolve_right (by decide)), fun h => hK.f8 (h.resolve_right (by decide)), fun h => hK.f9 (h.resolve_right (by decide)), fun h => hK.f10 (h.resolve_right (by decide)), fun h => hK.f11 (h.resolve_right (by decide)), fun h => hK.f12 (h.resolve_right (by decide)), fun h => hK.f13 (h.resolve_right (by decide)), fun h => hK.f14 (h.resolve_right (by decide)), fun h => hK.u9 (fun h9 => h (Or.inl h9)), fun h => hK.u10 (fun h9 => h (Or.inl h9)), fun h => hK.u11 (fun h9 => h (Or.inl h9)), fun h h' => hK.d34 (h.resolve_right (by decide)) (h'.resolve_right (by decide)), fun h h' => hK.d35 (h.resolve_right (by decide)) (h'.resolve_right (by decide)), fun h h' => hK.d45 (h.resolve_right (by decide)) (h'.resolve_right (by decide)), fun h => Or.inl (hK.q8 (h.resolve_right (by decide))), fun h => ⟨Or.inl (hK.q12 (h.resolve_right (by decide))).1, Or.inl (hK.q12 (h.resolve_right (by decide))).2.1, Or.inl (hK.q12 (h.resolve_right (by decide))).2.2.1, Or.inl (hK.q12 (h.resolve_right (by decide))).2.2.2.1, Or.inl (hK.q12 (h.resolve_right (by decide))).2.2.2.2⟩, fun h => Or.inl (hK.q13 (h.resolve_right (by decide))), fun h => Or.inl (hK.q14 (h.resolve_right (by decide)))⟩⟩
    | 4, _ =>
      cases hi
      simp [Region.binds] at hdep
      obtain rfl := hK.f3 hdep
      have c1 := cell_on HC2.out hK.bel
      simp [wpOp, Region.wanted, Oper.wp, execOp, go_sem, Oper.upon, Act.eval, Act.put, c1]
      exact Or.inl ⟨_, _, _, _, _, _, _, _, _, _, _, _, rfl, ⟨hK.bel, fun h => hK.f0 (h.resolve_right (by decide)), fun h => hK.f1 (h.resolve_right (by decide)), fun h => hK.f2 (h.resolve_right (by decide)), fun h => hK.f3 (h.resolve_right (by decide)), fun _ => rfl, fun h => hK.f5 (h.resolve_right (by decide)), fun h => hK.f6 (h.resolve_right (by decide)), fun h => hK.f7 (h.resolve_right (by decide)), fun h => hK.f8 (h.resolve_right (by decide)), fun h => hK.f9 (h.resolve_right (by decide)), fun h => hK.f10 (h.resolve_right (by decide)), fun h => hK.f11 (h.resolve_right (by decide)), fun h => hK.f12 (h.resolve_right (by decide)), fun h => hK.f13 (h.resolve_right (by decide)), fun h => hK.f14 (h.resolve_right (by decide)), fun h => hK.u9 (fun h9 => h (Or.inl h9)), fun h => hK.u10 (fun h9 => h (Or.inl h9)), fun h => hK.u11 (fun h9 => h (Or.inl h9)), fun h h' => hK.d34 (h.resolve_right (by decide)) (h'.resolve_right (by decide)), fun h h' => hK.d35 (h.resolve_right (by decide)) (h'.resolve_right (by decide)), fun h h' => hK.d45 (h.resolve_right (by decide)) (h'.resolve_right (by decide)), fun h => Or.inl (hK.q8 (h.resolve_right (by decide))), fun h => ⟨Or.inl (hK.q12 (h.resolve_right (by decide))).1, Or.inl (hK.q12 (h.resolve_right (by decide))).2.1, Or.inl (hK.q12 (h.resolve_right (by decide))).2.2.1, Or.inl (hK.q12 (h.resolve_right (by decide))).2.2.2.1, Or.inl (hK.q12 (h.resolve_right (by decide))).2.2.2.2⟩, fun h => Or.inl (hK.q13 (h.resolve_right (by decide))), fun h => Or.inl (hK.q14 (h.resolve_right (by decide)))⟩⟩
    | 5, _ =>
      cases hi
      simp [Region.binds] at hdep
      obtain rfl := hK.f4 hdep.1
      simp [wpOp, Region.wanted, Oper.wp, execOp, go_sem, Oper.upon, Act.eval, Act.put, hM1, hg1]
      refine Or.inl ((HHL.out w1).mono ?_)
      rintro e w2 ⟨hb, u, rfl, hF⟩
      have o3 : Out w1.heap.size w2.heap.size t3 := out_old (hK.f9) (hK.u9)
      have o4 : Out w1.heap.size w2.heap.size t4 := out_old (hK.f10) (hK.u10)
      have o5 : Out w1.heap.size w2.heap.size t5 := out_old (hK.f11) (hK.u11)
      exact ⟨_, _, _, _, _, _, _, _, _, _, _, _, rfl, ⟨hK.bel.trans (hb.mono hK.bel.size), fun h => hK.f0 (h.resolve_right (by decide)), fun h => hK.f1 (h.resolve_right (by decide)), fun h => (hK.f2 (h.resolve_right (by decide))).on hb, fun h => hK.f3 (h.resolve_right (by decide)), fun h => hK.f4 (h.resolve_right (by decide)), fun _ => ⟨_, _, hK.bel.size, hF, o3, o4, o5⟩, fun h => hK.f6 (h.resolve_right (by decide)), fun h => hK.f7 (h.resolve_right (by decide)), fun h => (hK.f8 (h.resolve_right (by decide))).on hb, fun h => (hK.f9 (h.resolve_right (by decide))).on hb, fun h => (hK.f10 (h.resolve_right (by decide))).on hb, fun h => (hK.f11 (h.resolve_right (by decide))).on hb, fun h => (hK.f12 (h.resolve_right (by decide))).on hb, fun h => absurd (hK.q8 (hK.q12 (hK.q13 (h.resolve_right (by decide)))).2.1) hnd, fun h => (hK.f14 (h.resolve_right (by decide))).on hb, fun h => hK.u9 (fun h9 => h (Or.inl h9)), fun h => hK.u10 (fun h9 => h (Or.inl h9)), fun h => hK.u11 (fun h9 => h (Or.inl h9)), fun h h' => hK.d34 (h.resolve_right (by decide)) (h'.resolve_right (by decide)), fun h h' => hK.d35 (h.resolve_right (by decide)) (h'.resolve_right (by decide)), fun h h' => hK.d45 (h.resolve_right (by decide)) (h'.resolve_right (by decide)), fun h => Or.inl (hK.q8 (h.resolve_right (by decide))), fun h => ⟨Or.inl (hK.q12 (h.resolve_right (by decide))).1, Or.inl (hK.q12 (h.resolve_right (by decide))).2.1, Or.inl (hK.q12 (h.resolve_right (by decide))).2.2.1, Or.inl (hK.q12 (h.resolve_right (by decide))).2.2.2.1, Or.inl (hK.q12 (h.resolve_right (by decide))).2.2.2.2⟩, fun h => Or.inl (hK.q13 (h.resolve_right (by decide))), fun h => Or.inl (hK.q14 (h.resolve_right (by decide)))⟩⟩
    | 6, _ =>
      cases hi
      simp [wpOp, Region.wanted, Oper.wp, execOp, go_sem, Oper.upon, Act.eval, Act.put]
      exact Or.inl ⟨_, _, _, _, _, _, _, _, _, _, _, _, rfl, ⟨hK.bel, fun h => hK.f0 (h.resolve_right (by decide)), fun h => hK.f1 (h.resolve_right (by decide)), fun h => hK.f2 (h.resolve_right (by decide)), fun h => hK.f3 (h.resolve_right (by decide)), fun h => hK.f4 (h.resolve_right (by decide)), fun h => hK.f5 (h.resolve_right (by decide)), fun _ => rfl, fun h => hK.f7 (h.resolve_right (by decide)), fun h => hK.f8 (h.resolve_right (by decide)), fun h => hK.f9 (h.resolve_right (by decide)), fun h => hK.f10 (h.resolve_right (by decide)), fun h => hK.f11 (h.resolve_right (by decide)), fun h => hK.f12 (h.resolve_right (by decide)), fun h => hK.f13 (h.resolve_right (by decide)), fun h => hK.f14 (h.resolve_right (by decide)), fun h => hK.u9 (fun h9 => h (Or.inl h9)), fun h => hK.u10 (fun h9 => h (Or.inl h9)), fun h => hK.u11 (fun h9 => h (Or.inl h9)), fun h h' => hK.d34 (h.resolve_right (by decide)) (h'.resolve_right (by decide)), fun h h' => hK.d35 (h.resolve_right (by decide)) (h'.resolve_right (by decide)), fun h h' => hK.d45 (h.resolve_right (by decide)) (h'.resolve_right (by decide)), fun h => Or.inl (hK.q8 (h.resolve_right (by decide))), fun h => ⟨Or.inl (hK.q12 (h.resolve_right (by decide))).1, Or.inl (hK.q12 (h.resolve_right (by decide))).2.1, Or.inl (hK.q12 (h.resolve_right (by decide))).2.2.1, Or.inl (hK.q12 (h.resolve_right (by decide))).2.2.2.1, Or.inl (hK.q12 (h.resolve_right (by decide))).2.2.2.2⟩, fun h => Or.inl (hK.q13 (h.resolve_right (by decide))), fun h => Or.inl (hK.q14 (h.resolve_right (by decide)))⟩⟩
    | 7, _ =>
      cases hi
      simp [Region.binds] at hdep
      obtain rfl := hK.f6 hdep
      have c1 := cell_on HC3.out hK.bel
      simp [wpOp, Region.wanted, Oper.wp, execOp, go_sem, Oper.upon, Act.eval, Act.put, c1]
      exact Or.inl ⟨_, _, _, _, _, _, _, _, _, _, _, _, rfl, ⟨hK.bel, fun h => hK.f0 (h.resolve_right (by decide)), fun h => hK.f1 (h.resolve_right (by decide)), fun h => hK.f2 (h.resolve_right (by decide)), fun h => hK.f3 (h.resolve_right (by decide)), fun h => hK.f4 (h.resolve_right (by decide)), fun h => hK.f5 (h.resolve_right (by decide)), fun h => hK.f6 (h.resolve_right (by decide)), fun _ => rfl, fun h => hK.f8 (h.resolve_right (by decide)), fun h => hK.f9 (h.resolve_right (by decide)), fun h => hK.f10 (h.resolve_right (by decide)), fun h => hK.f11 (h.resolve_right (by decide)), fun h => hK.f12 (h.resolve_right (by decide)), fun h => hK.f13 (h.resolve_right (by decide)), fun h => hK.f14 (h.resolve_right (by decide)), fun h => hK.u9 (fun h9 => h (Or.inl h9)), fun h => hK.u10 (fun h9 => h (Or.inl h9)), fun h => hK.u11 (fun h9 => h (Or.inl h9)), fun h h' => hK.d34 (h.resolve_right (by decide)) (h'.resolve_right (by decide)), fun h h' => hK.d35 (h.resolve_right (by decide)) (h'.resolve_right (by decide)), fun h h' => hK.d45 (h.resolve_right (by decide)) (h'.resolve_right (by decide)), fun h => Or.inl (hK.q8 (h.resolve_right (by decide))), fun h => ⟨Or.inl (hK.q12 (h.resolve_right (by decide))).1, Or.inl (hK.q12 (h.resolve_right (by decide))).2.1, Or.inl (hK.q12 (h.resolve_right (by decide))).2.2.1, Or.inl (hK.q12 (h.resolve_right (by decide))).2.2.2.1, Or.inl (hK.q12 (h.resolve_right (by decide))).2.2.2.2⟩, fun h => Or.inl (hK.q13 (h.resolve_right (by decide))), fun h => Or.inl (hK.q14 (h.resolve_right (by decide)))⟩⟩
    | 8, _ =>
      cases hi
      simp [Region.binds] at hdep
      obtain rfl := hK.f7 hdep.1
      simp [wpOp, Region.wanted, Oper.wp, execOp, go_sem, Oper.upon, Act.eval, Act.put, hM2, hg2]
      refine Or.inl ((HHR.out w1).mono ?_)
      rintro e w2 ⟨hb, u, rfl, hF⟩
      have o3 : Out w1.heap.size w2.heap.size t3 := out_old (hK.f9) (hK.u9)
      have o4 : Out w1.heap.size w2.heap.size t4 := out_old (hK.f10) (hK.u10)
      have o5 : Out w1.heap.size w2.heap.size t5 := out_old (hK.f11) (hK.u11)
      exact ⟨_, _, _, _, _, _, _, _, _, _, _, _, rfl, ⟨hK.bel.trans (hb.mono hK.bel.size), fun h => hK.f0 (h.resolve_right (by decide)), fun h => hK.f1 (h.resolve_right (by decide)), fun h => (hK.f2 (h.resolve_right (by decide))).on hb, fun h => hK.f3 (h.resolve_right (by decide)), fun h => hK.f4 (h.resolve_right (by decide)), fun h => (hK.f5 (h.resolve_right (by decide))).on hb, fun h => hK.f6 (h.resolve_right (by decide)), fun h => hK.f7 (h.resolve_right (by decide)), fun _ => ⟨_, _, hK.bel.size, hF, o3, o4, o5⟩, fun h => (hK.f9 (h.resolve_right (by decide))).on hb, fun h => (hK.f10 (h.resolve_right (by decide))).on hb, fun h => (hK.f11 (h.resolve_right (by decide))).on hb, fun h => (hK.f12 (h.resolve_right (by decide))).on hb, fun h => (hK.f13 (h.resolve_right (by decide))).on hb, fun h => absurd (hK.q12 (hK.q13 (hK.q14 (h.resolve_right (by decide))))).2.1 hnd, fun h => hK.u9 (fun h9 => h (Or.inl h9)), fun h => hK.u10 (fun h9 => h (Or.inl h9)), fun h => hK.u11 (fun h9 => h (Or.inl h9)), fun h h' => hK.d34 (h.resolve_right (by decide)) (h'.resolve_right (by decide)), fun h h' => hK.d35 (h.resolve_right (by decide)) (h'.resolve_right (by decide)), fun h h' => hK.d45 (h.resolve_right (by decide)) (h'.resolve_right (by decide)), fun _ => Or.inl hdep.2, fun h => ⟨Or.inl (hK.q12 (h.resolve_right (by decide))).1, Or.inl (hK.q12 (h.resolve_right (by decide))).2.1, Or.inl (hK.q12 (h.resolve_right (by decide))).2.2.1, Or.inl (hK.q12 (h.resolve_right (by decide))).2.2.2.1, Or.inl (hK.q12 (h.resolve_right (by decide))).2.2.2.2⟩, fun h => Or.inl (hK.q13 (h.resolve_right (by decide))), fun h => Or.inl (hK.q14 (h.resolve_right (by decide)))⟩⟩
    | 9, _ =>
      cases hi
      simp [wpOp, Region.wanted, Oper.wp, execOp, go_sem, Oper.upon, Act.put]
      have hb : Below w1.heap.size w1 (w1.alloc (.cells #[.nilFunc] 147)) := below_al _ _
      exact Or.inl ⟨_, _, _, _, _, _, _, _, _, _, _, _, rfl, ⟨hK.bel.trans (hb.mono hK.bel.size), fun h => hK.f0 (h.resolve_right (by decide)), fun h => hK.f1 (h.resolve_right (by decide)), fun h => (hK.f2 (h.resolve_right (by decide))).al9 _, fun h => hK.f3 (h.resolve_right (by decide)), fun h => hK.f4 (h.resolve_right (by decide)), fun h => (hK.f5 (h.resolve_right (by decide))).al9 _, fun h => hK.f6 (h.resolve_right (by decide)), fun h => hK.f7 (h.resolve_right (by decide)), fun h => (hK.f8 (h.resolve_right (by decide))).al9 _, fun _ => Var.new w0 w1 hK.bel.size _ _, fun h => (hK.f10 (h.resolve_right (by decide))).on hb, fun h => (hK.f11 (h.resolve_right (by decide))).on hb, fun h => absurd (hK.q12 (h.resolve_right (by decide))).2.2.1 hnd, fun h => absurd (hK.q12 (hK.q13 (h.resolve_right (by decide)))).2.2.1 hnd, fun h => absurd (hK.q12 (hK.q13 (hK.q14 (h.resolve_right (by decide))))).2.2.1 hnd, fun h => absurd (Or.inr rfl) h, fun h => hK.u10 (fun h9 => h (Or.inl h9)), fun h => hK.u11 (fun h9 => h (Or.inl h9)), fun _ h' => (new_ne (hK.f10 (h'.resolve_right (by decide)))).symm, fun _ h' => (new_ne (hK.f11 (h'.resolve_right (by decide)))).symm, fun h h' => hK.d45 (h.resolve_right (by decide)) (h'.resolve_right (by decide)), fun h => Or.inl (hK.q8 (h.resolve_right (by decide))), fun h => ⟨Or.inl (hK.q12 (h.resolve_right (by decide))).1, Or.inl (hK.q12 (h.resolve_right (by decide))).2.1, Or.inl (hK.q12 (h.resolve_right (by decide))).2.2.1, Or.inl (hK.q12 (h.resolve_right (by decide))).2.2.2.1, Or.inl (hK.q12 (h.resolve_right (by decide))).2.2.2.2⟩, fun h => Or.inl (hK.q13 (h.resolve_right (by decide))), fun h => Or.inl (hK.q14 (h.resolve_right (by decide)))⟩⟩
    | 10, _ =>
      cases hi
      simp [wpOp, Region.wanted, Oper.wp, execOp, go_sem, Oper.upon, Act.put]
      have hb : Below w1.heap.size w1 (w1.alloc (.cells #[.nilFunc] 44)) := below_al _ _
      exact Or.inl ⟨_, _, _, _, _, _, _, _, _, _, _, _, rfl, ⟨hK.bel.trans (hb.mono hK.bel.size), fun h => hK.f0 (h.resolve_right (by decide)), fun h => hK.f1 (h.resolve_right (by decide)), fun h => (hK.f2 (h.resolve_right (by decide))).al10 _, fun h => hK.f3 (h.resolve_right (by decide)), fun h => hK.f4 (h.resolve_right (by decide)), fun h => (hK.f5 (h.resolve_right (by decide))).al10 _, fun h => hK.f6 (h.resolve_right (by decide)), fun h => hK.f7 (h.resolve_right (by decide)), fun h => (hK.f8 (h.resolve_right (by decide))).al10 _, fun h => (hK.f9 (h.resolve_right (by decide))).on hb, fun _ => Var.new w0 w1 hK.bel.size _ _, fun h => (hK.f11 (h.resolve_right (by decide))).on hb, fun h => absurd (hK.q12 (h.resolve_right (by decide))).2.2.2.1 hnd, fun h => absurd (hK.q12 (hK.q13 (h.resolve_right (by decide)))).2.2.2.1 hnd, fun h => absurd (hK.q12 (hK.q13 (hK.q14 (h.resolve_right (by decide))))).2.2.2.1 hnd, fun h => hK.u9 (fun h9 => h (Or.inl h9)), fun h => absurd (Or.inr rfl) h, fun h => hK.u11 (fun h9 => h (Or.inl h9)), fun h _ => new_ne (hK.f9 (h.resolve_right (by decide))), fun h h' => hK.d35 (h.resolve_right (by decide)) (h'.resolve_right (by decide)), fun _ h' => (new_ne (hK.f11 (h'.resolve_right (by decide)))).symm, fun h => Or.inl (hK.q8 (h.resolve_right (by decide))), fun h => ⟨Or.inl (hK.q12 (h.resolve_right (by decide))).1, Or.inl (hK.q12 (h.resolve_right (by decide))).2.1, Or.inl (hK.q12 (h.resolve_right (by decide))).2.2.1, Or.inl (hK.q12 (h.resolve_right (by decide))).2.2.2.1, Or.inl (hK.q12 (h.resolve_right (by decide))).2.2.2.2⟩, fun h => Or.inl (hK.q13 (h.resolve_right (by decide))), fun h => Or.inl (hK.q14 (h.resolve_right (by decide)))⟩⟩
    | 11, _ =>
      cases hi
      simp [wpOp, Region.wanted, Oper.wp, execOp, go_sem, Oper.upon, Act.put]
      have hb : Below w1.heap.size w1 (w1.alloc (.cells #[.nilFunc] 44)) := below_al _ _
      exact Or.inl ⟨_, _, _, _, _, _, _, _, _, _, _, _, rfl, ⟨hK.bel.trans (hb.mono hK.bel.size), fun h => hK.f0 (h.resolve_right (by decide)), fun h => hK.f1 (h.resolve_right (by decide)), fun h => (hK.f2 (h.resolve_right (by decide))).al11 _, fun h => hK.f3 (h.resolve_right (by decide)), fun h => hK.f4 (h.resolve_right (by decide)), fun h => (hK.f5 (h.resolve_right (by decide))).al11 _, fun h => hK.f6 (h.resolve_right (by decide)), fun h => hK.f7 (h.resolve_right (by decide)), fun h => (hK.f8 (h.resolve_right (by decide))).al11 _, fun h => (hK.f9 (h.resolve_right (by decide))).on hb, fun h => (hK.f10 (h.resolve_right (by decide))).on hb, fun _ => Var.new w0 w1 hK.bel.size _ _, fun h => absurd (hK.q12 (h.resolve_right (by decide))).2.2.2.2 hnd, fun h => absurd (hK.q12 (hK.q13 (h.resolve_right (by decide)))).2.2.2.2 hnd, fun h => absurd (hK.q12 (hK.q13 (hK.q14 (h.resolve_right (by decide))))).2.2.2.2 hnd, fun h => hK.u9 (fun h9 => h (Or.inl h9)), fun h => hK.u10 (fun h9 => h (Or.inl h9)), fun h => absurd (Or.inr rfl) h, fun h h' => hK.d34 (h.resolve_right (by decide)) (h'.resolve_right (by decide)), fun h _ => new_ne (hK.f9 (h.resolve_right (by decide))), fun h _ => new_ne (hK.f10 (h.resolve_right (by decide))), fun h => Or.inl (hK.q8 (h.resolve_right (by decide))), fun h => ⟨Or.inl (hK.q12 (h.resolve_right (by decide))).1, Or.inl (hK.q12 (h.resolve_right (by decide))).2.1, Or.inl (hK.q12 (h.resolve_right (by decide))).2.2.1, Or.inl (hK.q12 (h.resolve_right (by decide))).2.2.2.1, Or.inl (hK.q12 (h.resolve_right (by decide))).2.2.2.2⟩, fun h => Or.inl (hK.q13 (h.resolve_right (by decide))), fun h => Or.inl (hK.q14 (h.resolve_right (by decide)))⟩⟩
    | 12, _ =>
      cases hi
      simp [Region.binds] at hdep
      have d9 := hdep.1
      have d2 := hdep.2.1
      have d8 := hdep.2.2.1
      have d10 : D 10 := by simp_all
      have d11 : D 11 := by simp_all
      obtain ⟨c, rfl, hc0, hc1, ⟨u, hcu⟩, hcf⟩ := hK.f9 d9
      obtain ⟨lo, hi', hlo, hFu, ho⟩ := hK.f2 d2
      obtain ⟨fn, cap, rfl, hrest⟩ := hFu
      have hor : (Value.pointer (some ⟨c, 0, none⟩) = .pointer (some ⟨c, 0, none⟩) ∨ t4 = .pointer (some ⟨c, 0, none⟩) ∨ t5 = .pointer (some ⟨c, 0, none⟩)) := Or.inl rfl
      have hst : (store ⟨c, 0, none⟩ (.func (.func fn) #[] cap)).run Tryz.prog w1 = .ok () (w1.setCell ⟨c, 0, none⟩ (.func (.func fn) #[] cap)) := (run_store _ _ _ _ _ rfl).trans (by simp [hcu, hcf])
      simp [wpOp, Region.wanted, Oper.wp, execOp, go_sem, Oper.upon, Act.eval, Act.put, hst]
      exact Or.inl ⟨_, _, _, _, _, _, _, _, _, _, _, _, rfl, ⟨hK.bel.setCell (p := ⟨c, 0, none⟩) hc0 _, fun h => hK.f0 (h.resolve_right (by decide)), fun h => hK.f1 (h.resolve_right (by decide)), fun h => (hK.f2 (h.resolve_right (by decide))).set hor _, fun h => hK.f3 (h.resolve_right (by decide)), fun h => hK.f4 (h.resolve_right (by decide)), fun h => (hK.f5 (h.resolve_right (by decide))).set hor _, fun h => hK.f6 (h.resolve_right (by decide)), fun h => hK.f7 (h.resolve_right (by decide)), fun h => (hK.f8 (h.resolve_right (by decide))).set hor _, fun h => (hK.f9 (h.resolve_right (by decide))).set c _, fun h => (hK.f10 (h.resolve_right (by decide))).set c _, fun h => (hK.f11 (h.resolve_right (by decide))).set c _, fun _ => has_set hcu, fun h => (hK.f13 (h.resolve_right (by decide))).set (Ne.symm (hK.d34 d9 d10)) _, fun h => (hK.f14 (h.resolve_right (by decide))).set (Ne.symm (hK.d35 d9 d11)) _, fun h => hK.u9 (fun h9 => h (Or.inl h9)), fun h => hK.u10 (fun h9 => h (Or.inl h9)), fun h => hK.u11 (fun h9 => h (Or.inl h9)), fun h h' => hK.d34 (h.resolve_right (by decide)) (h'.resolve_right (by decide)), fun h h' => hK.d35 (h.resolve_right (by decide)) (h'.resolve_right (by decide)), fun h h' => hK.d45 (h.resolve_right (by decide)) (h'.resolve_right (by decide)), fun h => Or.inl (hK.q8 (h.resolve_right (by decide))), fun _ => ⟨Or.inl d2, Or.inl d8, Or.inl d9, Or.inl d10, Or.inl d11⟩, fun h => Or.inl (hK.q13 (h.resolve_right (by decide))), fun h => Or.inl (hK.q14 (h.resolve_right (by decide)))⟩⟩
    | 13, _ =>
      cases hi
      simp [Region.binds] at hdep
      have d12 : D 12 := by simp_all
      obtain ⟨d2, d8, d9, d10, d11⟩ := hK.q12 d12
      obtain ⟨c, rfl, hc0, hc1, ⟨u, hcu⟩, hcf⟩ := hK.f10 d10
      obtain ⟨lo, hi', hlo, hFu, ho⟩ := hK.f5 (hK.q8 d8)
      obtain ⟨fn, cap, rfl, hrest⟩ := hFu
      have hor : (t3 = .pointer (some ⟨c, 0, none⟩) ∨ Value.pointer (some ⟨c, 0, none⟩) = .pointer (some ⟨c, 0, none⟩) ∨ t5 = .pointer (some ⟨c, 0, none⟩)) := Or.inr (Or.inl rfl)
      have hst : (store ⟨c, 0, none⟩ (.func (.func fn) #[] cap)).run Tryz.prog w1 = .ok () (w1.setCell ⟨c, 0, none⟩ (.func (.func fn) #[] cap)) := (run_store _ _ _ _ _ rfl).trans (by simp [hcu, hcf])
      simp [wpOp, Region.wanted, Oper.wp, execOp, go_sem, Oper.upon, Act.eval, Act.put, hst]
      exact Or.inl ⟨_, _, _, _, _, _, _, _, _, _, _, _, rfl, ⟨hK.bel.setCell (p := ⟨c, 0, none⟩) hc0 _, fun h => hK.f0 (h.resolve_right (by decide)), fun h => hK.f1 (h.resolve_right (by decide)), fun h => (hK.f2 (h.resolve_right (by decide))).set hor _, fun h => hK.f3 (h.resolve_right (by decide)), fun h => hK.f4 (h.resolve_right (by decide)), fun h => (hK.f5 (h.resolve_right (by decide))).set hor _, fun h => hK.f6 (h.resolve_right (by decide)), fun h => hK.f7 (h.resolve_right (by decide)), fun h => (hK.f8 (h.resolve_right (by decide))).set hor _, fun h => (hK.f9 (h.resolve_right (by decide))).set c _, fun h => (hK.f10 (h.resolve_right (by decide))).set c _, fun h => (hK.f11 (h.resolve_right (by decide))).set c _, fun h => (hK.f12 (h.resolve_right (by decide))).set (hK.d34 d9 d10) _, fun _ => has_set hcu, fun h => (hK.f14 (h.resolve_right (by decide))).set (Ne.symm (hK.d45 d10 d11)) _, fun h => hK.u9 (fun h9 => h (Or.inl h9)), fun h => hK.u10 (fun h9 => h (Or.inl h9)), fun h => hK.u11 (fun h9 => h (Or.inl h9)), fun h h' => hK.d34 (h.resolve_right (by decide)) (h'.resolve_right (by decide)), fun h h' => hK.d35 (h.resolve_right (by decide)) (h'.resolve_right (by decide)), fun h h' => hK.d45 (h.resolve_right (by decide)) (h'.resolve_right (by decide)), fun h => Or.inl (hK.q8 (h.resolve_right (by decide))), fun h => ⟨Or.inl (hK.q12 (h.resolve_right (by decide))).1, Or.inl (hK.q12 (h.resolve_right (by decide))).2.1, Or.inl (hK.q12 (h.resolve_right (by decide))).2.2.1, Or.inl (hK.q12 (h.resolve_right (by decide))).2.2.2.1, Or.inl (hK.q12 (h.resolve_right (by decide))).2.2.2.2⟩, fun _ => Or.inl d12, fun h => Or.inl (hK.q14 (h.resolve_right (by decide)))⟩⟩
    | 14, _ =>
      cases hi
      simp [Region.binds] at hdep
      have d13 : D 13 := by simp_all
      obtain ⟨d2, d8, d9, d10, d11⟩ := hK.q12 (hK.q13 d13)
      obtain ⟨c, rfl, hc0, hc1, ⟨u, hcu⟩, hcf⟩ := hK.f11 d11
      obtain ⟨lo, hi', hlo, hFu, ho⟩ := hK.f8 d8
      obtain ⟨fn, cap, rfl, hrest⟩ := hFu
      have hor : (t3 = .pointer (some ⟨c, 0, none⟩) ∨ t4 = .pointer (some ⟨c, 0, none⟩) ∨ Value.pointer (some ⟨c, 0, none⟩) = .pointer (some ⟨c, 0, none⟩)) := Or.inr (Or.inr rfl)
      have hst : (store ⟨c, 0, none⟩ (.func (.func fn) #[] cap)).run Tryz.prog w1 = .ok () (w1.setCell ⟨c, 0, none⟩ (.func (.func fn) #[] cap)) := (run_store _ _ _ _ _ rfl).trans (by simp [hcu, hcf])
      simp [wpOp, Region.wanted, Oper.wp, execOp, go_sem, Oper.upon, Act.eval, Act.put, hst]
      exact Or.inl ⟨_, _, _, _, _, _, _, _, _, _, _, _, rfl, ⟨hK.bel.setCell (p := ⟨c, 0, none⟩) hc0 _, fun h => hK.f0 (h.resolve_right (by decide)), fun h => hK.f1 (h.resolve_right (by decide)), fun h => (hK.f2 (h.resolve_right (by decide))).set hor _, fun h => hK.f3 (h.resolve_right (by decide)), fun h => hK.f4 (h.resolve_right (by decide)), fun h => (hK.f5 (h.resolve_right (by decide))).set hor _, fun h => hK.f6 (h.resolve_right (by decide)), fun h => hK.f7 (h.resolve_right (by decide)), fun h => (hK.f8 (h.resolve_right (by decide))).set hor _, fun h => (hK.f9 (h.resolve_right (by decide))).set c _, fun h => (hK.f10 (h.resolve_right (by decide))).set c _, fun h => (hK.f11 (h.resolve_right (by decide))).set c _, fun h => (hK.f12 (h.resolve_right (by decide))).set (hK.d35 d9 d11) _, fun h => (hK.f13 (h.resolve_right (by decide))).set (hK.d45 d10 d11) _, fun _ => has_set hcu, fun h => hK.u9 (fun h9 => h (Or.inl h9)), fun h => hK.u10 (fun h9 => h (Or.inl h9)), fun h => hK.u11 (fun h9 => h (Or.inl h9)), fun h h' => hK.d34 (h.resolve_right (by decide)) (h'.resolve_right (by decide)), fun h h' => hK.d35 (h.resolve_right (by decide)) (h'.resolve_right (by decide)), fun h h' => hK.d45 (h.resolve_right (by decide)) (h'.resolve_right (by decide)), fun h => Or.inl (hK.q8 (h.resolve_right (by decide))), fun h => ⟨Or.inl (hK.q12 (h.resolve_right (by decide))).1, Or.inl (hK.q12 (h.resolve_right (by decide))).2.1, Or.inl (hK.q12 (h.resolve_right (by decide))).2.2.1, Or.inl (hK.q12 (h.resolve_right (by decide))).2.2.2.1, Or.inl (hK.q12 (h.resolve_right (by decide))).2.2.2.2⟩, fun h => Or.inl (hK.q13 (h.resolve_right (by decide))), fun _ => Or.inl d13⟩⟩
  · intro D c w1 hI hall
    obtain ⟨t3, t4, t5, t6, t7, t8, t9, t10, t11, t12, t13, t14, rfl, hK⟩ := hI
    obtain ⟨lo2, hi2, hl2, F2, _⟩ := hK.f2 (hall 2 (by decide))
    obtain ⟨lo5, hi5, hl5, F5, _⟩ := hK.f5 (hall 5 (by decide))
    obtain ⟨lo8, hi8, hl8, F8, _⟩ := hK.f8 (hall 8 (by decide))
    obtain ⟨c3, rfl, hc3, hd3, _⟩ := hK.f9 (hall 9 (by decide))
    obtain ⟨c4, rfl, hc4, hd4, _⟩ := hK.f10 (hall 10 (by decide))
    obtain ⟨c5, rfl, hc5, hd5, _⟩ := hK.f11 (hall 11 (by decide))
    have x3 := hK.f12 (hall 12 (by decide)) c3 rfl
    have x4 := hK.f13 (hall 13 (by decide)) c4 rfl
    have x5 := hK.f14 (hall 14 (by decide)) c5 rfl
    have hz0 := HZ0.out
    have hbw : Below w.heap.size w w1 := by
      rw [hq]
      exact HB0.out.trans (hK.bel.mono (by omega))
    have HF : Hid (Fun1 w.heap.size w1.heap.size w1 (.func (.func 215) #[] #[.pointer (some ⟨c3, 0, none⟩), .pointer (some ⟨c4, 0, none⟩), .pointer (some ⟨c5, 0, none⟩)]) a b (iv k i)) := by
      refine ⟨215, _, rfl, enters_of Tryz.func215 (by kernel_rfl) rfl, by omega, Nat.le_refl _, fun w2 sb hw hs => ?_⟩
      have hz : w1.heap.size ≤ w2.heap.size := by
        have h1 := hw (w1.heap.size - 1) (by omega) (by omega)
        rcases Nat.lt_or_ge (w1.heap.size - 1) w2.heap.size with h2 | h2
        · omega
        · rw [Array.getElem?_eq_none h2, Array.getElem?_eq_getElem (by omega)] at h1
          cases h1
      have hl2' := F2.le
      have hl5' := F5.le
      have hl8' := F8.le
      exact join_run sb c3 c4 c5 t8 t11 t14 lo2 hi2 lo5 hi5 lo8 hi8 a b k1 i1 k2 i2 k i w2 hs
        ((World.cell?_of_block (w := w1) (hw c3 (by omega) hd3)).trans x3) ((World.cell?_of_block (w := w1) (hw c4 (by omega) hd4)).trans x4) ((World.cell?_of_block (w := w1) (hw c5 (by omega) hd5)).trans x5)
        (F2.keep (fun q h1 h2 => hw q (by omega) (by omega)) hz) (F5.keep (fun q h1 h2 => hw q (by omega) (by omega)) hz) (F8.keep (fun q h1 h2 => hw q (by omega) (by omega)) hz)
    have HBW := hid hbw
    clear hbw x3 x4 x5 F2 F5 F8 hK hall
    go_wp2_with fail
    go_ret
    exact ⟨HBW.out, _, rfl, HF.out⟩
end Go.Proofs.YtieknmpdmdbdlaaGreatDoor
