import Derived.Test.YtieknmpdmdbdlaaGreatDoorExR
import Derived.Test.YtieknmpdmdbdlaaGreatDoorExP
import Derived.Test.YtieknmpdmdbdlaaGreatDoorExT
namespace Go.Proofs.YtieknmpdmdbdlaaGreatDoor
open Go.RowKit
set_option maxRecDepth 8000

/-- a function value that gives v of every scope with a and b; it reads only the blocks from lo up to hi -/
def Fun1 (lo hi : Nat) (w : World) (t : Value) (a b : Int) (v : Value) : Prop :=
  ∃ f cap, t = .func (.func f) #[] cap ∧ Enters f ∧ lo ≤ hi ∧ hi ≤ w.heap.size ∧ ∀ w1 sb, (∀ k, lo ≤ k → k < hi → w1.heap[k]? = w.heap[k]?) → Scp w1 sb a b → Calls Tryz.prog f (#[.pointer (some ⟨sb, 0, none⟩)] ++ cap) w1 fun e w' => Below w1.heap.size w1 w' ∧ e = .returned v
/-- a function value that gives v of x and y -/
def Fun2 (lo hi : Nat) (w : World) (t : Value) (x y v : Value) : Prop :=
  ∃ f cap, t = .func (.func f) #[] cap ∧ Enters f ∧ lo ≤ hi ∧ hi ≤ w.heap.size ∧ ∀ w1, (∀ k, lo ≤ k → k < hi → w1.heap[k]? = w.heap[k]?) → Calls Tryz.prog f (#[x, y] ++ cap) w1 fun e w' => Below w1.heap.size w1 w' ∧ e = .returned v
theorem Fun1.keep {lo hi : Nat} {w w' : World} {t : Value} {a b : Int} {v : Value} (h : Fun1 lo hi w t a b v) (hk : ∀ k, lo ≤ k → k < hi → w'.heap[k]? = w.heap[k]?) (hs : w.heap.size ≤ w'.heap.size) : Fun1 lo hi w' t a b v := by
  obtain ⟨f, cap, h1, h2, h3, h4, h5⟩ := h
  exact ⟨f, cap, h1, h2, h3, by omega, fun w1 sb hw hs => h5 w1 sb (fun k hk1 hk2 => (hw k hk1 hk2).trans (hk k hk1 hk2)) hs⟩
theorem Fun2.keep {lo hi : Nat} {w w' : World} {t x y v : Value} (h : Fun2 lo hi w t x y v) (hk : ∀ k, lo ≤ k → k < hi → w'.heap[k]? = w.heap[k]?) (hs : w.heap.size ≤ w'.heap.size) : Fun2 lo hi w' t x y v := by
  obtain ⟨f, cap, h1, h2, h3, h4, h5⟩ := h
  exact ⟨f, cap, h1, h2, h3, by omega, fun w1 hw => h5 w1 (fun k hk1 hk2 => (hw k hk1 hk2).trans (hk k hk1 hk2))⟩

/-- compile of a node, by its method m -/
def Comp (m : Nat) (x : Value) (a b : Int) (v : Value) : Prop :=
  ∀ w, Calls Tryz.prog m #[x] w fun e w' => Below w.heap.size w w' ∧ ∃ t, e = .returned t ∧ Fun1 w.heap.size w'.heap.size w' t a b v
/-- the method of a node's type -/
def Meth (ty : TypeId) (m : Nat) : Prop := ∀ (x : Value) (w : World), (method 341 ty x "eddy/expr.compile").run Tryz.prog w = .ok (m, x) w

theorem comp_val (a b : Int) (ha : I64 a) : Comp 243 (.agg #[.string valB]) a b (intV a) := by
  intro w
  have hmf : ∀ (fn : Fn) (first cap : Array Value) (w : World), (Instr.makeFunc fn first cap).run Tryz.prog w = .ok (.func fn first cap) w := fun _ _ _ _ => rfl
  unfold valB
  go_enter Tryz.func243, Tryz.ntmps243
  go_wp2_with fail
  go_ret
  exact ⟨below_al _ _, _, rfl, 245, #[], rfl, enters_of Tryz.func245 (by kernel_rfl) rfl, by simp, Nat.le_refl _, fun w1 sb _ hs => scope_val sb a b w1 ha hs⟩
theorem comp_acc (a b : Int) (hb : I64 b) : Comp 243 (.agg #[.string accB]) a b (intV b) := by
  intro w
  have hmf : ∀ (fn : Fn) (first cap : Array Value) (w : World), (Instr.makeFunc fn first cap).run Tryz.prog w = .ok (.func fn first cap) w := fun _ _ _ _ => rfl
  unfold accB
  go_enter Tryz.func243, Tryz.ntmps243
  go_wp2_with fail
  go_ret
  exact ⟨below_al _ _, _, rfl, 209, #[], rfl, enters_of Tryz.func209 (by kernel_rfl) rfl, by simp, Nat.le_refl _, fun w1 sb _ hs => scope_acc sb a b w1 hb hs⟩

/-- a value without text and items -/
def iv (k i : Int) : Value := .agg #[.int .i64 k, .int .i64 i, .string ⟨#[]⟩, .slice none 0 0]

theorem V4.drew {w : World} {vb : Nat} {k i : Int} (h : V4 w vb k i) : V4 w.drew vb k i := ⟨h.c0, h.c1, h.c2, h.c3, h.fz⟩
theorem V4.set {w : World} {vb : Nat} {k i : Int} (h : V4 w vb k i) (k' i' : Int) : V4 ((((w.setCell ⟨vb, 0, none⟩ (.int .i64 k')).setCell ⟨vb, 1, none⟩ (.int .i64 i')).setCell ⟨vb, 2, none⟩ (.string ⟨#[]⟩)).setCell ⟨vb, 3, none⟩ (.slice none 0 0)) vb k' i' := by
  obtain ⟨h0, h1, h2, h3, hf⟩ := h
  exact ⟨by simp [go_sem, h0], by simp [go_sem, h1], by simp [go_sem, h2], by simp [go_sem, h3], fun o => by simp [hf o]⟩
/-- what is known while a join is run -/
structure RK (w0 : World) (sb : Nat) (u6 u7 u10 : Value) (k1 i1 k2 i2 k i : Int) (D : Nat → Prop) (w : World) (t6 t7 t8 t9 t10 t11 t12 t13 : Value) : Prop where
  bel : Below w0.heap.size w0 w
  f0 : D 0 → t6 = u6
  f1 : D 1 → t7 = u7
  f2 : D 2 → t8 = .pointer (some ⟨sb, 0, none⟩)
  f3 : D 3 → t9 = iv k1 i1
  f4 : D 4 → t10 = u10
  f5 : D 5 → t11 = .pointer (some ⟨sb, 0, none⟩)
  f6 : D 6 → t12 = iv k2 i2
  f7 : D 7 → t13 = iv k i
  f8 : D 8 → V4 w w0.heap.size k i
  u8 : ¬ D 8 → V4 w w0.heap.size 0 0
def RI (w0 : World) (sb b3 b4 b5 : Nat) (u6 u7 u10 : Value) (k1 i1 k2 i2 k i : Int) (D : Nat → Prop) (c : Act) (w : World) : Prop :=
  ∃ t6 t7 t8 t9 t10 t11 t12 t13, c = { tmps := #[.pointer (some ⟨sb, 0, none⟩), .pointer (some ⟨b3, 0, none⟩), .pointer (some ⟨b4, 0, none⟩), .pointer (some ⟨b5, 0, none⟩), undef, .pointer (some ⟨w0.heap.size, 0, none⟩), t6, t7, t8, t9, t10, t11, t12, t13], defers := [] } ∧ RK w0 sb u6 u7 u10 k1 i1 k2 i2 k i D w t6 t7 t8 t9 t10 t11 t12 t13

theorem join_run (sb b3 b4 b5 : Nat) (t8 t11 t14 : Value) (lo2 hi2 lo5 hi5 lo8 hi8 : Nat) (a b k1 i1 k2 i2 k i : Int) (w : World) (hs : Scp w sb a b)
    (c3 : w.cell? ⟨b3, 0, none⟩ = some t8) (c4 : w.cell? ⟨b4, 0, none⟩ = some t11) (c5 : w.cell? ⟨b5, 0, none⟩ = some t14)
    (F2 : Fun2 lo2 hi2 w t8 (iv k1 i1) (iv k2 i2) (iv k i)) (F5 : Fun1 lo5 hi5 w t11 a b (iv k1 i1)) (F8 : Fun1 lo8 hi8 w t14 a b (iv k2 i2)) :
    Calls Tryz.prog 215 #[.pointer (some ⟨sb, 0, none⟩), .pointer (some ⟨b3, 0, none⟩), .pointer (some ⟨b4, 0, none⟩), .pointer (some ⟨b5, 0, none⟩)] w fun e w' => Below w.heap.size w w' ∧ e = .returned (iv k i) := by
  obtain ⟨f8, cap8, rfl, e8, _, h8, C8⟩ := F2
  obtain ⟨f11, cap11, rfl, e11, _, h11, C11⟩ := F5
  obtain ⟨f14, cap14, rfl, e14, _, h14, C14⟩ := F8
  have H8 := hid C8
  have H11 := hid C11
  have H14 := hid C14
  have HS := hid hs
  clear C8 C11 C14 hs
  have HC3 := hid c3
  have HC4 := hid c4
  have HC5 := hid c5
  clear c3 c4 c5
  unfold Enters at *
  go_enter Tryz.func215, Tryz.ntmps215
  go_wp2_with fail
  refine wp_region_inv (by kernel_rfl) (RI w sb b3 b4 b5 (.func (.func f8) #[] cap8) (.func (.func f11) #[] cap11) (.func (.func f14) #[] cap14) k1 i1 k2 i2 k i) ?_ (by kernel_rfl) ?_ ?_ ?_
  · rintro D D' c w1 hD ⟨t6, t7, t8, t9, t10, t11, t12, t13, h, hK⟩
    have e : D = D' := funext fun j => propext (hD j)
    subst e
    exact ⟨t6, t7, t8, t9, t10, t11, t12, t13, h, hK⟩
  · intro D hD
    exact ⟨_, _, _, _, _, _, _, _, rfl, (below_al _ _).drew, fun h => absurd h (hD _), fun h => absurd h (hD _), fun h => absurd h (hD _), fun h => absurd h (hD _), fun h => absurd h (hD _), fun h => absurd h (hD _), fun h => absurd h (hD _), fun h => absurd h (hD _), fun h => absurd h (hD _), fun _ => (V4.new w 0 0).drew⟩
  · intro D c w1 hI j o hi hnd hdep
    obtain ⟨t6, t7, t8, t9, t10, t11, t12, t13, rfl, hK⟩ := hI
    have hlt : j < 9 := (Array.getElem?_eq_some_iff.1 hi).1
    match j, hlt with
    | 0, _ =>
      cases hi
      have c3 := cell_on HC3.out hK.bel
      simp [wpOp, Region.wanted, Oper.wp, execOp, go_sem, Oper.upon, Act.eval, Act.put, c3]
      exact Or.inl ⟨_, _, _, _, _, _, _, _, rfl, ⟨hK.bel, fun _ => rfl, fun h => hK.f1 (h.resolve_right (by decide)), fun h => hK.f2 (h.resolve_right (by decide)), fun h => hK.f3 (h.resolve_right (by decide)), fun h => hK.f4 (h.resolve_right (by decide)), fun h => hK.f5 (h.resolve_right (by decide)), fun h => hK.f6 (h.resolve_right (by decide)), fun h => hK.f7 (h.resolve_right (by decide)), fun h => hK.f8 (h.resolve_right (by decide)), fun h => hK.u8 (fun h8 => h (Or.inl h8))⟩⟩
    | 1, _ =>
      cases hi
      have c4 := cell_on HC4.out hK.bel
      simp [wpOp, Region.wanted, Oper.wp, execOp, go_sem, Oper.upon, Act.eval, Act.put, c4]
      exact Or.inl ⟨_, _, _, _, _, _, _, _, rfl, ⟨hK.bel, fun h => hK.f0 (h.resolve_right (by decide)), fun _ => rfl, fun h => hK.f2 (h.resolve_right (by decide)), fun h => hK.f3 (h.resolve_right (by decide)), fun h => hK.f4 (h.resolve_right (by decide)), fun h => hK.f5 (h.resolve_right (by decide)), fun h => hK.f6 (h.resolve_right (by decide)), fun h => hK.f7 (h.resolve_right (by decide)), fun h => hK.f8 (h.resolve_right (by decide)), fun h => hK.u8 (fun h8 => h (Or.inl h8))⟩⟩
    | 2, _ =>
      cases hi
      simp [wpOp, Region.wanted, Oper.wp, execOp, go_sem, Oper.upon, Act.eval, Act.put]
      exact Or.inl ⟨_, _, _, _, _, _, _, _, rfl, ⟨hK.bel, fun h => hK.f0 (h.resolve_right (by decide)), fun h => hK.f1 (h.resolve_right (by decide)), fun _ => rfl, fun h => hK.f3 (h.resolve_right (by decide)), fun h => hK.f4 (h.resolve_right (by decide)), fun h => hK.f5 (h.resolve_right (by decide)), fun h => hK.f6 (h.resolve_right (by decide)), fun h => hK.f7 (h.resolve_right (by decide)), fun h => hK.f8 (h.resolve_right (by decide)), fun h => hK.u8 (fun h8 => h (Or.inl h8))⟩⟩
    | 3, _ =>
      cases hi
      simp [Region.binds] at hdep
      obtain rfl := hK.f1 hdep.1
      obtain rfl := hK.f2 hdep.2
      simp [wpOp, Region.wanted, Oper.wp, execOp, go_sem, Oper.upon, Act.eval, Act.put, e11]
      refine Or.inl ((H11.out w1 sb (fun q _ hq => hK.bel.block q (by omega)) (HS.out.on hK.bel)).mono ?_)
      rintro e w2 ⟨hb, rfl⟩
      exact ⟨_, _, _, _, _, _, _, _, rfl, ⟨hK.bel.trans (hb.mono hK.bel.size), fun h => hK.f0 (h.resolve_right (by decide)), fun h => hK.f1 (h.resolve_right (by decide)), fun h => hK.f2 (h.resolve_right (by decide)), fun _ => rfl, fun h => hK.f4 (h.resolve_right (by decide)), fun h => hK.f5 (h.resolve_right (by decide)), fun h => hK.f6 (h.resolve_right (by decide)), fun h => hK.f7 (h.resolve_right (by decide)), fun h => (hK.f8 (h.resolve_right (by decide))).on hb, fun h => (hK.u8 (fun h8 => h (Or.inl h8))).on hb⟩⟩
    | 4, _ =>
      cases hi
      have c5 := cell_on HC5.out hK.bel
      simp [wpOp, Region.wanted, Oper.wp, execOp, go_sem, Oper.upon, Act.eval, Act.put, c5]
      exact Or.inl ⟨_, _, _, _, _, _, _, _, rfl, ⟨hK.bel, fun h => hK.f0 (h.resolve_right (by decide)), fun h => hK.f1 (h.resolve_right (by decide)), fun h => hK.f2 (h.resolve_right (by decide)), fun h => hK.f3 (h.resolve_right (by decide)), fun _ => rfl, fun h => hK.f5 (h.resolve_right (by decide)), fun h => hK.f6 (h.resolve_right (by decide)), fun h => hK.f7 (h.resolve_right (by decide)), fun h => hK.f8 (h.resolve_right (by decide)), fun h => hK.u8 (fun h8 => h (Or.inl h8))⟩⟩
    | 5, _ =>
      cases hi
      simp [wpOp, Region.wanted, Oper.wp, execOp, go_sem, Oper.upon, Act.eval, Act.put]
      exact Or.inl ⟨_, _, _, _, _, _, _, _, rfl, ⟨hK.bel, fun h => hK.f0 (h.resolve_right (by decide)), fun h => hK.f1 (h.resolve_right (by decide)), fun h => hK.f2 (h.resolve_right (by decide)), fun h => hK.f3 (h.resolve_right (by decide)), fun h => hK.f4 (h.resolve_right (by decide)), fun _ => rfl, fun h => hK.f6 (h.resolve_right (by decide)), fun h => hK.f7 (h.resolve_right (by decide)), fun h => hK.f8 (h.resolve_right (by decide)), fun h => hK.u8 (fun h8 => h (Or.inl h8))⟩⟩
    | 6, _ =>
      cases hi
      simp [Region.binds] at hdep
      obtain rfl := hK.f4 hdep.1
      obtain rfl := hK.f5 hdep.2.1
      simp [wpOp, Region.wanted, Oper.wp, execOp, go_sem, Oper.upon, Act.eval, Act.put, e14]
      refine Or.inl ((H14.out w1 sb (fun q _ hq => hK.bel.block q (by omega)) (HS.out.on hK.bel)).mono ?_)
      rintro e w2 ⟨hb, rfl⟩
      exact ⟨_, _, _, _, _, _, _, _, rfl, ⟨hK.bel.trans (hb.mono hK.bel.size), fun h => hK.f0 (h.resolve_right (by decide)), fun h => hK.f1 (h.resolve_right (by decide)), fun h => hK.f2 (h.resolve_right (by decide)), fun h => hK.f3 (h.resolve_right (by decide)), fun h => hK.f4 (h.resolve_right (by decide)), fun h => hK.f5 (h.resolve_right (by decide)), fun _ => rfl, fun h => hK.f7 (h.resolve_right (by decide)), fun h => (hK.f8 (h.resolve_right (by decide))).on hb, fun h => (hK.u8 (fun h8 => h (Or.inl h8))).on hb⟩⟩
    | 7, _ =>
      cases hi
      simp [Region.binds] at hdep
      obtain rfl := hK.f0 hdep.1
      obtain rfl := hK.f3 hdep.2.1
      obtain rfl := hK.f6 hdep.2.2
      simp [wpOp, Region.wanted, Oper.wp, execOp, go_sem, Oper.upon, Act.eval, Act.put, e8]
      refine Or.inl ((H8.out w1 (fun q _ hq => hK.bel.block q (by omega))).mono ?_)
      rintro e w2 ⟨hb, rfl⟩
      exact ⟨_, _, _, _, _, _, _, _, rfl, ⟨hK.bel.trans (hb.mono hK.bel.size), fun h => hK.f0 (h.resolve_right (by decide)), fun h => hK.f1 (h.resolve_right (by decide)), fun h => hK.f2 (h.resolve_right (by decide)), fun h => hK.f3 (h.resolve_right (by decide)), fun h => hK.f4 (h.resolve_right (by decide)), fun h => hK.f5 (h.resolve_right (by decide)), fun h => hK.f6 (h.resolve_right (by decide)), fun _ => rfl, fun h => (hK.f8 (h.resolve_right (by decide))).on hb, fun h => (hK.u8 (fun h8 => h (Or.inl h8))).on hb⟩⟩
    | 8, _ =>
      cases hi
      simp [Region.binds] at hdep
      obtain rfl := hK.f7 hdep.1
      obtain ⟨v0, v1, v2, v3, vf⟩ := hK.u8 hnd
      unfold iv
      simp [wpOp, Region.wanted, Oper.wp, execOp, go_sem, Oper.upon, Act.eval, Act.put, v0, v1, v2, v3, vf]
      exact Or.inl ⟨_, _, _, _, _, _, _, _, rfl, ⟨below_set4 hK.bel (Nat.le_refl _) _ _ _ _, fun h => hK.f0 (h.resolve_right (by decide)), fun h => hK.f1 (h.resolve_right (by decide)), fun h => hK.f2 (h.resolve_right (by decide)), fun h => hK.f3 (h.resolve_right (by decide)), fun h => hK.f4 (h.resolve_right (by decide)), fun h => hK.f5 (h.resolve_right (by decide)), fun h => hK.f6 (h.resolve_right (by decide)), fun h => hK.f7 (h.resolve_right (by decide)), fun _ => (hK.u8 hnd).set k i, fun h => absurd (Or.inr rfl) h⟩⟩
  · intro D c w1 hI hall
    obtain ⟨t6, t7, t8, t9, t10, t11, t12, t13, rfl, hK⟩ := hI
    obtain ⟨v0, v1, v2, v3, vf⟩ := hK.f8 (hall 8 (by decide))
    go_wp2_with fail
    exact bodyPost_ret (v := iv k i) (by simp [results, Tryz.results215, go_sem, iv, v0, v1, v2, v3]) rfl ⟨hK.bel, rfl⟩
end Go.Proofs.YtieknmpdmdbdlaaGreatDoor
