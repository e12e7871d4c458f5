import Derived.Test.YtieknmpdmdbdlaaGreatDoorExW
import Derived.Test.YtieknmpdmdbdlaaGreatDoorExQ
namespace Go.Proofs.YtieknmpdmdbdlaaGreatDoor
open Go.RowKit
set_option maxRecDepth 8000

theorem fresh_iv (k i : Int) (w : World) : Calls Tryz.prog 18 #[iv k i] w fun e w' => Below w.heap.size w w' ∧ e = .returned (iv k i) := by
  unfold iv
  go_enter Tryz.func18, Tryz.ntmps18
  go_wp2
  exact bodyPost_ret (v := iv k i) (by simp [results, Tryz.results18, go_sem, iv]) rfl ⟨below_al2 _ _ _, rfl⟩

/-- a record with a value alone -/
def recV (a : Int) : Value := .agg #[.string ⟨#[]⟩, .int .i64 1, .int .i64 a, .string ⟨#[]⟩, .slice none 0 0, .slice none 0 0]
/-- the record's six cells -/
structure R6 (w : World) (rb : Nat) (a : Int) : Prop where
  c0 : w.cell? ⟨rb, 0, none⟩ = some (.string ⟨#[]⟩)
  c1 : w.cell? ⟨rb, 1, none⟩ = some (.int .i64 1)
  c2 : w.cell? ⟨rb, 2, none⟩ = some (.int .i64 a)
  c3 : w.cell? ⟨rb, 3, none⟩ = some (.string ⟨#[]⟩)
  c4 : w.cell? ⟨rb, 4, none⟩ = some (.slice none 0 0)
  c5 : w.cell? ⟨rb, 5, none⟩ = some (.slice none 0 0)
theorem R6.on {w w' : World} {rb : Nat} {a : Int} (h : R6 w rb a) (hb : Below w.heap.size w w') : R6 w' rb a :=
  ⟨cell_on h.c0 hb, cell_on h.c1 hb, cell_on h.c2 hb, cell_on h.c3 hb, cell_on h.c4 hb, cell_on h.c5 hb⟩
theorem three (w : World) (a b : Int) : R6 (((w.alloc (.cells #[.string ⟨#[]⟩, .int .i64 1, .int .i64 a, .string ⟨#[]⟩, .slice none 0 0, .slice none 0 0] 37)).alloc (.cells #[.int .i64 1, .int .i64 b, .string ⟨#[]⟩, .slice none 0 0] 24)).alloc (.cells #[.int .i64 0, .int .i64 0, .string ⟨#[]⟩, .slice none 0 0] 24)) w.heap.size a ∧ V4 (((w.alloc (.cells #[.string ⟨#[]⟩, .int .i64 1, .int .i64 a, .string ⟨#[]⟩, .slice none 0 0, .slice none 0 0] 37)).alloc (.cells #[.int .i64 1, .int .i64 b, .string ⟨#[]⟩, .slice none 0 0] 24)).alloc (.cells #[.int .i64 0, .int .i64 0, .string ⟨#[]⟩, .slice none 0 0] 24)) (w.heap.size + 1) 1 b ∧ V4 (((w.alloc (.cells #[.string ⟨#[]⟩, .int .i64 1, .int .i64 a, .string ⟨#[]⟩, .slice none 0 0, .slice none 0 0] 37)).alloc (.cells #[.int .i64 1, .int .i64 b, .string ⟨#[]⟩, .slice none 0 0] 24)).alloc (.cells #[.int .i64 0, .int .i64 0, .string ⟨#[]⟩, .slice none 0 0] 24)) (w.heap.size + 1 + 1) 0 0 ∧ Below w.heap.size w (((w.alloc (.cells #[.string ⟨#[]⟩, .int .i64 1, .int .i64 a, .string ⟨#[]⟩, .slice none 0 0, .slice none 0 0] 37)).alloc (.cells #[.int .i64 1, .int .i64 b, .string ⟨#[]⟩, .slice none 0 0] 24)).alloc (.cells #[.int .i64 0, .int .i64 0, .string ⟨#[]⟩, .slice none 0 0] 24)) ∧ (((w.alloc (.cells #[.string ⟨#[]⟩, .int .i64 1, .int .i64 a, .string ⟨#[]⟩, .slice none 0 0, .slice none 0 0] 37)).alloc (.cells #[.int .i64 1, .int .i64 b, .string ⟨#[]⟩, .slice none 0 0] 24)).alloc (.cells #[.int .i64 0, .int .i64 0, .string ⟨#[]⟩, .slice none 0 0] 24)).heap.size = w.heap.size + 1 + 1 + 1 := by
  refine ⟨⟨by simp [go_sem], by simp [go_sem], by simp [go_sem], by simp [go_sem], by simp [go_sem], by simp [go_sem]⟩, ⟨by simp [go_sem], by simp [go_sem], by simp [go_sem], by simp [go_sem], fun o => by simp [go_sem]⟩, ⟨by simp [go_sem], by simp [go_sem], by simp [go_sem], by simp [go_sem], fun o => by simp [go_sem]⟩, ?_, by simp⟩
  exact (below_al2 _ _ _).alloc (by simp; omega) _
theorem scope_new (w : World) (a b : Int) : Scp (w.alloc (.cells #[.string ⟨#[]⟩, .int .i64 1, .int .i64 a, .string ⟨#[]⟩, .slice none 0 0, .slice none 0 0, .int .i64 1, .int .i64 b, .string ⟨#[]⟩, .slice none 0 0] 61)) w.heap.size a b :=
  ⟨by simp, by simp, by simp, by simp, by simp, by simp, by simp, by simp⟩

theorem answer_any (t : Value) (lo hi : Nat) (a b k i : Int) (w : World) (hF : Fun1 lo hi w t a b (iv k i)) : Calls Tryz.prog 11 #[t, recV a, intV b] w fun e w' => Below w.heap.size w w' ∧ e = .returned (iv k i) := by
  obtain ⟨f, cap, rfl, hen, _, hle, hC⟩ := hF
  have HC := hid hC
  have HFr := hid (fresh_iv k i)
  clear hC
  unfold Enters at hen
  unfold recV intV
  go_enter Tryz.func11, Tryz.ntmps11
  go_wp2_with fail
  obtain ⟨_, _, hR, hB0, hz⟩ := three w a b
  generalize ((w.alloc (.cells #[.string ⟨#[]⟩, .int .i64 1, .int .i64 a, .string ⟨#[]⟩, .slice none 0 0, .slice none 0 0] 37)).alloc (.cells #[.int .i64 1, .int .i64 b, .string ⟨#[]⟩, .slice none 0 0] 24)).alloc (.cells #[.int .i64 0, .int .i64 0, .string ⟨#[]⟩, .slice none 0 0] 24) = w0 at *
  have hS := scope_new w0 a b
  rw [hz] at hS
  have HR := hid (hR.on (below_al w0 (.cells #[.string ⟨#[]⟩, .int .i64 1, .int .i64 a, .string ⟨#[]⟩, .slice none 0 0, .slice none 0 0, .int .i64 1, .int .i64 b, .string ⟨#[]⟩, .slice none 0 0] 61)))
  have HB := hid (hB0.trans ((below_al w0 (.cells #[.string ⟨#[]⟩, .int .i64 1, .int .i64 a, .string ⟨#[]⟩, .slice none 0 0, .slice none 0 0, .int .i64 1, .int .i64 b, .string ⟨#[]⟩, .slice none 0 0] 61)).mono hB0.size))
  generalize w0.alloc (.cells #[.string ⟨#[]⟩, .int .i64 1, .int .i64 a, .string ⟨#[]⟩, .slice none 0 0, .slice none 0 0, .int .i64 1, .int .i64 b, .string ⟨#[]⟩, .slice none 0 0] 61) = w1 at *
  clear hR hB0
  refine (HC.out w1 (w.heap.size + 1 + 1 + 1) (fun q _ hq => HB.out.block q (by omega)) hS).mono ?_
  rintro e w2 ⟨hb2, rfl⟩
  have HR2 := hid (HR.out.on hb2)
  have HB2 := hid (HB.out.trans (hb2.mono HB.out.size))
  clear hb2
  go_wp2_with fail
  refine (HFr.out w2).mono ?_
  rintro e w3 ⟨hb3, rfl⟩
  obtain ⟨v0, v1, v2, v3, vf⟩ := HR2.out.on hb3
  have HB3 := hid (HB2.out.trans (hb3.mono HB2.out.size))
  clear hb3
  unfold iv
  go_wp2_with fail
  exact bodyPost_ret (v := iv k i) (by simp [results, Tryz.results11, go_sem, iv, v0, v1, v2, v3]) rfl ⟨below_set4 HB3.out (by omega) _ _ _ _, rfl⟩

/-- a function value of a scope -/
def H1 (w : World) (t : Value) (a b : Int) (v : Value) : Prop := ∃ lo hi, Fun1 lo hi w t a b v
theorem H1.on {w w' : World} {t : Value} {a b : Int} {v : Value} (h : H1 w t a b v) (hb : Below w.heap.size w w') : H1 w' t a b v := by
  obtain ⟨lo, hi, h2⟩ := h
  exact ⟨lo, hi, h2.keep (fun k _ hk => hb.block k (by have := h2.le; omega)) hb.size⟩
/-- what is known while an expression is compiled and answered -/
structure EK (wS w0 : World) (rb : Nat) (n1 : TypeId) (n2 : Value) (a b k i : Int) (D : Nat → Prop) (w : World) (t0 t1 t2 t3 t4 : Value) : Prop where
  b0 : ¬ D 5 → Below w0.heap.size w0 w
  b1 : Below wS.heap.size wS w
  f0 : D 0 → t0 = .iface n1 n2
  f1 : D 1 → D 5 ∨ H1 w t1 a b (iv k i)
  f2 : D 2 → t2 = recV a
  f3 : D 3 → t3 = intV b
  f4 : D 4 → t4 = iv k i
  f5 : D 5 → V4 w rb k i
  q5 : D 5 → D 0 ∧ D 1 ∧ D 2 ∧ D 3 ∧ D 4
def EI (s : ByteArray) (wS w0 : World) (nb : Nat) (n1 : TypeId) (n2 : Value) (a b k i : Int) (D : Nat → Prop) (c : Act) (w : World) : Prop :=
  ∃ t0 t1 t2 t3 t4, c = { tmps := #[.string s, recV a, intV b, undef, .pointer (some ⟨nb, 0, none⟩), .pointer (some ⟨nb + 1, 0, none⟩), .pointer (some ⟨nb + 1 + 1, 0, none⟩), .nilIface, .iface n1 n2, .nilIface, .tuple #[.iface n1 n2, .nilIface], .string s, .tuple #[.iface n1 n2, .nilIface], .iface n1 n2, .nilIface, .nilIface, .bool false, undef, undef, t0, t1, t2, t3, t4], defers := [] } ∧ EK wS w0 (nb + 1 + 1) n1 n2 a b k i D w t0 t1 t2 t3 t4

theorem eval_any (s : ByteArray) (n1 : TypeId) (n2 : Value) (g1 : Nat) (a b k i : Int) (w : World) (HP : ∀ w, Calls Tryz.prog 10 #[.string s] w fun e w' => Below w.heap.size w w' ∧ e = .returned (.tuple #[.iface n1 n2, .nilIface])) (HL : Comp g1 n2 a b (iv k i)) (hg1 : Enters g1) (hM1 : Meth n1 g1) :
    Calls Tryz.prog 9 #[.string s, recV a, intV b] w fun e w' => Below w.heap.size w w' ∧ e = .returned (.tuple #[iv k i, .nilIface]) := by
  have HHP := hid HP
  have HHL := hid HL
  have HA := hid (fun t lo hi w h => answer_any t lo hi a b k i w h)
  clear HP HL
  unfold Enters Meth recV intV at *
  go_enter Tryz.func9, Tryz.ntmps9
  go_wp2_with fail
  obtain ⟨hR, hV, hZ, hB0, hz⟩ := three w a b
  generalize ((w.alloc (.cells #[.string ⟨#[]⟩, .int .i64 1, .int .i64 a, .string ⟨#[]⟩, .slice none 0 0, .slice none 0 0] 37)).alloc (.cells #[.int .i64 1, .int .i64 b, .string ⟨#[]⟩, .slice none 0 0] 24)).alloc (.cells #[.int .i64 0, .int .i64 0, .string ⟨#[]⟩, .slice none 0 0] 24) = w0 at *
  have HR := hid hR
  have HV := hid hV
  have HZ := hid hZ
  have HB := hid hB0
  clear hR hV hZ hB0
  refine (HHP.out w0).mono ?_
  rintro e w1 ⟨hb1, rfl⟩
  have HR1 := hid (HR.out.on hb1)
  have HV1 := hid (HV.out.on hb1)
  have HZ1 := hid (HZ.out.on hb1)
  have HB1 := hid (HB.out.trans (hb1.mono HB.out.size))
  clear hb1
  go_wp2_with fail
  obtain ⟨nb, hq⟩ : ∃ nb, nb = w.heap.size := ⟨_, rfl⟩
  rw [← hq] at HR1 HV1 HZ1
  simp only [← hq]
  refine wp_region_inv (by kernel_rfl) (EI s w w1 nb n1 n2 a b k i) ?_ (by kernel_rfl) ?_ ?_ ?_
  · rintro D D' c w1 hD ⟨t0, t1, t2, t3, t4, h, hK⟩
    have e : D = D' := funext fun j => propext (hD j)
    subst e
    exact ⟨t0, t1, t2, t3, t4, h, hK⟩
  · intro D hD
    exact ⟨_, _, _, _, _, rfl, fun _ => (Below.refl _ _).drew, HB1.out.drew, fun h => absurd h (hD _), fun h => absurd h (hD _), fun h => absurd h (hD _), fun h => absurd h (hD _), fun h => absurd h (hD _), fun h => absurd h (hD _), fun h => absurd h (hD _)⟩
  · intro D c w2 hI j o hi hnd hdep
    obtain ⟨t0, t1, t2, t3, t4, rfl, hK⟩ := hI
    have hlt : j < 7 := (Array.getElem?_eq_some_iff.1 hi).1
    have hbs := hK.b1
    match j, hlt with
    | 0, _ =>
      cases hi
      simp [wpOp, Region.wanted, Oper.wp, execOp, go_sem, Oper.upon, Act.eval, Act.put]
      exact Or.inl ⟨_, _, _, _, _, rfl, ⟨fun h => (hK.b0 (fun x => h (Or.inl x))), hK.b1, fun _ => rfl, fun h => (hK.f1 (h.resolve_right (by decide))).imp Or.inl (fun h2 => h2), fun h => hK.f2 (h.resolve_right (by decide)), fun h => hK.f3 (h.resolve_right (by decide)), fun h => hK.f4 (h.resolve_right (by decide)), fun h => (hK.f5 (h.resolve_right (by decide))), fun h => ⟨Or.inl (hK.q5 (h.resolve_right (by decide))).1, Or.inl (hK.q5 (h.resolve_right (by decide))).2.1, Or.inl (hK.q5 (h.resolve_right (by decide))).2.2.1, Or.inl (hK.q5 (h.resolve_right (by decide))).2.2.2.1, Or.inl (hK.q5 (h.resolve_right (by decide))).2.2.2.2⟩⟩⟩
    | 1, _ =>
      cases hi
      simp [Region.binds] at hdep
      obtain rfl := hK.f0 hdep
      simp [wpOp, Region.wanted, Oper.wp, execOp, go_sem, Oper.upon, Act.eval, Act.put, hM1, hg1]
      refine Or.inl ((HHL.out w2).mono ?_)
      rintro e w3 ⟨hb, u, rfl, hF⟩
      exact ⟨_, _, _, _, _, rfl, ⟨fun h => (hK.b0 (fun x => h (Or.inl x))).trans (hb.mono (hK.b0 (fun x => h (Or.inl x))).size), hK.b1.trans (hb.mono hK.b1.size), fun h => hK.f0 (h.resolve_right (by decide)), fun _ => Or.inr ⟨_, _, hF⟩, fun h => hK.f2 (h.resolve_right (by decide)), fun h => hK.f3 (h.resolve_right (by decide)), fun h => hK.f4 (h.resolve_right (by decide)), fun h => (hK.f5 (h.resolve_right (by decide))).on hb, fun h => ⟨Or.inl (hK.q5 (h.resolve_right (by decide))).1, Or.inl (hK.q5 (h.resolve_right (by decide))).2.1, Or.inl (hK.q5 (h.resolve_right (by decide))).2.2.1, Or.inl (hK.q5 (h.resolve_right (by decide))).2.2.2.1, Or.inl (hK.q5 (h.resolve_right (by decide))).2.2.2.2⟩⟩⟩
    | 2, _ =>
      cases hi
      have hb0 := hK.b0 (fun h => hnd (hK.q5 h).2.2.1)
      obtain ⟨v0, v1, v2, v3, v4, v5⟩ := HR1.out.on hb0
      simp [wpOp, Region.wanted, Oper.wp, execOp, go_sem, Oper.upon, Act.eval, Act.put, v0, v1, v2, v3, v4, v5]
      exact Or.inl ⟨_, _, _, _, _, rfl, ⟨fun h => (hK.b0 (fun x => h (Or.inl x))), hK.b1, fun h => hK.f0 (h.resolve_right (by decide)), fun h => (hK.f1 (h.resolve_right (by decide))).imp Or.inl (fun h2 => h2), fun _ => rfl, fun h => hK.f3 (h.resolve_right (by decide)), fun h => hK.f4 (h.resolve_right (by decide)), fun h => (hK.f5 (h.resolve_right (by decide))), fun h => ⟨Or.inl (hK.q5 (h.resolve_right (by decide))).1, Or.inl (hK.q5 (h.resolve_right (by decide))).2.1, Or.inl (hK.q5 (h.resolve_right (by decide))).2.2.1, Or.inl (hK.q5 (h.resolve_right (by decide))).2.2.2.1, Or.inl (hK.q5 (h.resolve_right (by decide))).2.2.2.2⟩⟩⟩
    | 3, _ =>
      cases hi
      have hb0 := hK.b0 (fun h => hnd (hK.q5 h).2.2.2.1)
      obtain ⟨v0, v1, v2, v3, vf⟩ := HV1.out.on hb0
      simp [wpOp, Region.wanted, Oper.wp, execOp, go_sem, Oper.upon, Act.eval, Act.put, v0, v1, v2, v3]
      exact Or.inl ⟨_, _, _, _, _, rfl, ⟨fun h => (hK.b0 (fun x => h (Or.inl x))), hK.b1, fun h => hK.f0 (h.resolve_right (by decide)), fun h => (hK.f1 (h.resolve_right (by decide))).imp Or.inl (fun h2 => h2), fun h => hK.f2 (h.resolve_right (by decide)), fun _ => rfl, fun h => hK.f4 (h.resolve_right (by decide)), fun h => (hK.f5 (h.resolve_right (by decide))), fun h => ⟨Or.inl (hK.q5 (h.resolve_right (by decide))).1, Or.inl (hK.q5 (h.resolve_right (by decide))).2.1, Or.inl (hK.q5 (h.resolve_right (by decide))).2.2.1, Or.inl (hK.q5 (h.resolve_right (by decide))).2.2.2.1, Or.inl (hK.q5 (h.resolve_right (by decide))).2.2.2.2⟩⟩⟩
    | 4, _ =>
      cases hi
      have h5 : ¬ D 5 := fun h => hnd (hK.q5 h).2.2.2.2
      simp [Region.binds] at hdep
      obtain ⟨lo, hi', hF⟩ := (hK.f1 hdep.1).resolve_left h5
      obtain rfl := hK.f2 hdep.2.1
      obtain rfl := hK.f3 (by simp_all)
      unfold recV intV
      simp [wpOp, Region.wanted, Oper.wp, go_sem, Oper.upon, Act.eval, Act.put]
      refine Or.inl ((HA.out t1 lo hi' w2 hF).mono ?_)
      rintro e w3 ⟨hb, rfl⟩
      exact ⟨_, _, _, _, _, rfl, ⟨fun h => (hK.b0 (fun x => h (Or.inl x))).trans (hb.mono (hK.b0 (fun x => h (Or.inl x))).size), hK.b1.trans (hb.mono hK.b1.size), fun h => hK.f0 (h.resolve_right (by decide)), fun h => (hK.f1 (h.resolve_right (by decide))).imp Or.inl (fun h2 => h2.on hb), fun h => hK.f2 (h.resolve_right (by decide)), fun h => hK.f3 (h.resolve_right (by decide)), fun _ => rfl, fun h => (hK.f5 (h.resolve_right (by decide))).on hb, fun h => ⟨Or.inl (hK.q5 (h.resolve_right (by decide))).1, Or.inl (hK.q5 (h.resolve_right (by decide))).2.1, Or.inl (hK.q5 (h.resolve_right (by decide))).2.2.1, Or.inl (hK.q5 (h.resolve_right (by decide))).2.2.2.1, Or.inl (hK.q5 (h.resolve_right (by decide))).2.2.2.2⟩⟩⟩
    | 5, _ =>
      cases hi
      simp [Region.binds] at hdep
      obtain rfl := hK.f4 (by simp_all)
      have hb0 := hK.b0 hnd
      obtain ⟨v0, v1, v2, v3, vf⟩ := HZ1.out.on hb0
      unfold iv
      simp [wpOp, Region.wanted, Oper.wp, execOp, go_sem, Oper.upon, Act.eval, Act.put, v0, v1, v2, v3, vf]
      exact Or.inl ⟨_, _, _, _, _, rfl, ⟨fun h => absurd (Or.inr rfl) h, below_set4 hK.b1 (by omega) _ _ _ _, fun h => hK.f0 (h.resolve_right (by decide)), fun _ => Or.inl (Or.inr rfl), fun h => hK.f2 (h.resolve_right (by decide)), fun h => hK.f3 (h.resolve_right (by decide)), fun h => hK.f4 (h.resolve_right (by decide)), fun _ => (HZ1.out.on hb0).set _ _, fun _ => ⟨Or.inl (by simp_all), Or.inl (by simp_all), Or.inl (by simp_all), Or.inl (by simp_all), Or.inl (by simp_all)⟩⟩⟩
    | 6, _ =>
      cases hi
      simp [wpOp, Region.wanted, Oper.wp, execOp, go_sem, Oper.upon, Act.eval, Act.put]
      exact Or.inl ⟨_, _, _, _, _, rfl, ⟨fun h => (hK.b0 (fun x => h (Or.inl x))), hK.b1, fun h => hK.f0 (h.resolve_right (by decide)), fun h => (hK.f1 (h.resolve_right (by decide))).imp Or.inl (fun h2 => h2), fun h => hK.f2 (h.resolve_right (by decide)), fun h => hK.f3 (h.resolve_right (by decide)), fun h => hK.f4 (h.resolve_right (by decide)), fun h => (hK.f5 (h.resolve_right (by decide))), fun h => ⟨Or.inl (hK.q5 (h.resolve_right (by decide))).1, Or.inl (hK.q5 (h.resolve_right (by decide))).2.1, Or.inl (hK.q5 (h.resolve_right (by decide))).2.2.1, Or.inl (hK.q5 (h.resolve_right (by decide))).2.2.2.1, Or.inl (hK.q5 (h.resolve_right (by decide))).2.2.2.2⟩⟩⟩
  · intro D c w2 hI hall
    obtain ⟨t0, t1, t2, t3, t4, rfl, hK⟩ := hI
    obtain ⟨v0, v1, v2, v3, vf⟩ := hK.f5 (hall 5 (by decide))
    go_wp2_with fail
    exact bodyPost_ret (v := .tuple #[iv k i, .nilIface]) (by simp [results, Tryz.results9, go_sem, iv, v0, v1, v2, v3]) rfl ⟨hK.b1, rfl⟩
end Go.Proofs.YtieknmpdmdbdlaaGreatDoor
