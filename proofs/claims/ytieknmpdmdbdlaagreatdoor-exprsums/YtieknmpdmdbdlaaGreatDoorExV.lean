import Derived.Test.YtieknmpdmdbdlaaGreatDoorExU
namespace Go.Proofs.YtieknmpdmdbdlaaGreatDoor
open Go.RowKit
set_option maxRecDepth 8000

/-- what a sign for two ints comes to: kind and int -/
def okK (ok : Bool) : Int := if ok then 1 else 0
def okI (ok : Bool) (n : Int) : Int := if ok then n else 0
theorem res_iv (n : Int) (ok : Bool) : resV n ok = iv (okK ok) (okI ok n) := by cases ok <;> rfl
/-- function f reckons n of a and b -/
def Recks (f : Nat) (a b n : Int) (ok : Bool) : Prop := ∀ w, Calls Tryz.prog f #[.int .i64 a, .int .i64 b] w fun e w' => w' = w ∧ e = pairO n ok

theorem ofInts_fun (f : Nat) (a b n : Int) (ok : Bool) (hf : Enters f) (hr : Recks f a b n ok) (w : World) : Calls Tryz.prog 106 #[fnV f] w fun e w' => Below w.heap.size w w' ∧ ∃ t, e = .returned t ∧ Fun2 w.heap.size w'.heap.size w' t (iv 1 a) (iv 1 b) (iv (okK ok) (okI ok n)) := by
  refine (ofInts_any f w).mono ?_
  rintro e w' ⟨hb, rfl, hc, hl⟩
  refine ⟨hb, _, rfl, 130, _, rfl, enters_of Tryz.func130 (by kernel_rfl) rfl, by omega, Nat.le_refl _, fun w1 hw => ?_⟩
  rw [← res_iv]
  exact ofIntsC_any a b w.heap.size f w1 n ok ((World.cell?_of_block (w := w') (hw w.heap.size (Nat.le_refl _) hl)).trans hc) hf hr

theorem joins_minus (a b n : Int) (ok : Bool) (hr : Recks 219 a b n ok) : Joins ⟨#[45]⟩ (iv 1 a) (iv 1 b) (iv (okK ok) (okI ok n)) := by
  intro w
  have HF := hid (fun w => ofInts_fun 219 a b n ok (enters_of Tryz.func219 (by kernel_rfl) rfl) hr w)
  clear hr
  unfold fnV at HF
  go_enter Tryz.func214, Tryz.ntmps214
  go_wp2_with fail
  refine (HF.out _).mono ?_
  rintro e w1 ⟨hb, t, rfl, hF⟩
  obtain ⟨g, cap, rfl, hrest⟩ := hF
  have HR := hid (And.intro hb hrest)
  clear hb hrest
  go_wp2_with fail
  go_ret
  exact ⟨HR.out.1, _, rfl, g, cap, rfl, HR.out.2⟩

theorem joins_times (a b n : Int) (ok : Bool) (hr : Recks 220 a b n ok) : Joins ⟨#[42]⟩ (iv 1 a) (iv 1 b) (iv (okK ok) (okI ok n)) := by
  intro w
  have HF := hid (fun w => ofInts_fun 220 a b n ok (enters_of Tryz.func220 (by kernel_rfl) rfl) hr w)
  clear hr
  unfold fnV at HF
  go_enter Tryz.func214, Tryz.ntmps214
  go_wp2_with fail
  refine (HF.out _).mono ?_
  rintro e w1 ⟨hb, t, rfl, hF⟩
  obtain ⟨g, cap, rfl, hrest⟩ := hF
  have HR := hid (And.intro hb hrest)
  clear hb hrest
  go_wp2_with fail
  go_ret
  exact ⟨HR.out.1, _, rfl, g, cap, rfl, HR.out.2⟩

theorem joins_over (a b n : Int) (ok : Bool) (hr : Recks 221 a b n ok) : Joins ⟨#[47]⟩ (iv 1 a) (iv 1 b) (iv (okK ok) (okI ok n)) := by
  intro w
  have HF := hid (fun w => ofInts_fun 221 a b n ok (enters_of Tryz.func221 (by kernel_rfl) rfl) hr w)
  clear hr
  unfold fnV at HF
  go_enter Tryz.func214, Tryz.ntmps214
  go_wp2_with fail
  refine (HF.out _).mono ?_
  rintro e w1 ⟨hb, t, rfl, hF⟩
  obtain ⟨g, cap, rfl, hrest⟩ := hF
  have HR := hid (And.intro hb hrest)
  clear hb hrest
  go_wp2_with fail
  go_ret
  exact ⟨HR.out.1, _, rfl, g, cap, rfl, HR.out.2⟩

theorem joins_rest (a b n : Int) (ok : Bool) (hr : Recks 222 a b n ok) : Joins ⟨#[37]⟩ (iv 1 a) (iv 1 b) (iv (okK ok) (okI ok n)) := by
  intro w
  have HF := hid (fun w => ofInts_fun 222 a b n ok (enters_of Tryz.func222 (by kernel_rfl) rfl) hr w)
  clear hr
  unfold fnV at HF
  go_enter Tryz.func214, Tryz.ntmps214
  go_wp2_with fail
  refine (HF.out _).mono ?_
  rintro e w1 ⟨hb, t, rfl, hF⟩
  obtain ⟨g, cap, rfl, hrest⟩ := hF
  have HR := hid (And.intro hb hrest)
  clear hb hrest
  go_wp2_with fail
  go_ret
  exact ⟨HR.out.1, _, rfl, g, cap, rfl, HR.out.2⟩

/-- a function value of two values, kept behind w0 -/
def H2 (w0 w : World) (t x y v : Value) : Prop := ∃ lo hi, w0.heap.size ≤ lo ∧ Fun2 lo hi w t x y v
theorem H2.on {w0 w w' : World} {t x y v : Value} (h : H2 w0 w t x y v) (hb : Below w.heap.size w w') : H2 w0 w' t x y v := by
  obtain ⟨lo, hi, h1, h2⟩ := h
  exact ⟨lo, hi, h1, h2.keep (fun k _ hk => hb.block k (by have := h2.le; omega)) hb.size⟩
/-- what is known while a made function is called -/
structure AK (wS w0 : World) (rb : Nat) (x y : Value) (k i : Int) (D : Nat → Prop) (w : World) (t0 t1 t2 t3 : Value) : Prop where
  b0 : ¬ D 4 → Below w0.heap.size w0 w
  b1 : Below wS.heap.size wS w
  f0 : D 0 → D 4 ∨ H2 w0 w t0 x y (iv k i)
  f1 : D 1 → t1 = x
  f2 : D 2 → t2 = y
  f3 : D 3 → t3 = iv k i
  f4 : D 4 → V4 w rb k i
  q4 : D 4 → D 0 ∧ D 1 ∧ D 2 ∧ D 3

def addI (n1 : Value) (n2 : Value) (wS w0 : World) (nb : Nat) (x y : Value) (k i : Int) (D : Nat → Prop) (c : Act) (w : World) : Prop :=
  ∃ t0 t1 t2 t3, c = { tmps := #[n1, n2, .pointer (some ⟨nb, 0, none⟩), .pointer (some ⟨nb + 1, 0, none⟩), .pointer (some ⟨nb + 1 + 1, 0, none⟩), .bool false, .pointer (some ⟨nb, 0, none⟩), .int .i64 1, .bool false, .bool false, undef, undef, undef, .bool false, undef, undef, undef, undef, undef, undef, .bool false, .pointer (some ⟨nb, 0, none⟩), .int .i64 1, .bool false, .bool false, undef, undef, undef, .bool false, undef, undef, undef, undef, undef, undef, undef, t0, t1, t2, t3], defers := [] } ∧ AK wS w0 (nb + 1 + 1) x y k i D w t0 t1 t2 t3
theorem added_ints (a b n : Int) (ok : Bool) (hr : Recks 107 a b n ok) (w : World) : Calls Tryz.prog 218 #[iv 1 a, iv 1 b] w fun e w' => Below w.heap.size w w' ∧ e = .returned (iv (okK ok) (okI ok n)) := by
  have HF := hid (fun w => ofInts_fun 107 a b n ok (enters_of Tryz.func107 (by kernel_rfl) rfl) hr w)
  clear hr
  unfold fnV at HF
  rw [show iv 1 a = .agg #[.int .i64 1, .int .i64 a, .string ⟨#[]⟩, .slice none 0 0] from rfl, show iv 1 b = .agg #[.int .i64 1, .int .i64 b, .string ⟨#[]⟩, .slice none 0 0] from rfl]
  go_enter Tryz.func218, Tryz.ntmps218
  go_wp2_with fail
  have HA := hid (((V4.new w 1 a).on (below_al _ (.cells #[.int .i64 1, .int .i64 b, .string ⟨#[]⟩, .slice none 0 0] 24))).on (below_al _ (.cells #[.int .i64 0, .int .i64 0, .string ⟨#[]⟩, .slice none 0 0] 24)))
  have HBb := hid ((V4.new (w.alloc (.cells #[.int .i64 1, .int .i64 a, .string ⟨#[]⟩, .slice none 0 0] 24)) 1 b).on (below_al _ (.cells #[.int .i64 0, .int .i64 0, .string ⟨#[]⟩, .slice none 0 0] 24)))
  have HR := hid (V4.new ((w.alloc (.cells #[.int .i64 1, .int .i64 a, .string ⟨#[]⟩, .slice none 0 0] 24)).alloc (.cells #[.int .i64 1, .int .i64 b, .string ⟨#[]⟩, .slice none 0 0] 24)) 0 0)
  have HB0 := hid ((below_al2 w (.cells #[.int .i64 1, .int .i64 a, .string ⟨#[]⟩, .slice none 0 0] 24) (.cells #[.int .i64 1, .int .i64 b, .string ⟨#[]⟩, .slice none 0 0] 24)).alloc (by simp; omega) (.cells #[.int .i64 0, .int .i64 0, .string ⟨#[]⟩, .slice none 0 0] 24))
  rw [show (w.alloc (.cells #[.int .i64 1, .int .i64 a, .string ⟨#[]⟩, .slice none 0 0] 24)).heap.size = w.heap.size + 1 by simp] at HBb
  rw [show ((w.alloc (.cells #[.int .i64 1, .int .i64 a, .string ⟨#[]⟩, .slice none 0 0] 24)).alloc (.cells #[.int .i64 1, .int .i64 b, .string ⟨#[]⟩, .slice none 0 0] 24)).heap.size = w.heap.size + 1 + 1 by simp] at HR
  generalize ((w.alloc (.cells #[.int .i64 1, .int .i64 a, .string ⟨#[]⟩, .slice none 0 0] 24)).alloc (.cells #[.int .i64 1, .int .i64 b, .string ⟨#[]⟩, .slice none 0 0] 24)).alloc (.cells #[.int .i64 0, .int .i64 0, .string ⟨#[]⟩, .slice none 0 0] 24) = w0 at *
  obtain ⟨nb, hq⟩ : ∃ nb, nb = w.heap.size := ⟨_, rfl⟩
  rw [← hq] at HA HBb HR
  simp only [← hq]
  refine wp_region_inv (by kernel_rfl) (addI (iv 1 a) (iv 1 b) w w0 nb (iv 1 a) (iv 1 b) (okK ok) (okI ok n)) ?_ (by kernel_rfl) ?_ ?_ ?_
  · rintro D D' c w1 hD ⟨t0, t1, t2, t3, h, hK⟩
    have e : D = D' := funext fun j => propext (hD j)
    subst e
    exact ⟨t0, t1, t2, t3, h, hK⟩
  · intro D hD
    exact ⟨_, _, _, _, rfl, fun _ => (Below.refl _ _).drew, HB0.out.drew, fun h => absurd h (hD _), fun h => absurd h (hD _), fun h => absurd h (hD _), fun h => absurd h (hD _), fun h => absurd h (hD _), fun h => absurd h (hD _)⟩
  · intro D c w1 hI j o hi hnd hdep
    obtain ⟨t0, t1, t2, t3, rfl, hK⟩ := hI
    have hlt : j < 5 := (Array.getElem?_eq_some_iff.1 hi).1
    have hbs := hK.b1
    match j, hlt with
    | 0, _ =>
      cases hi
      have hb0 := hK.b0 (fun h => hnd (hK.q4 h).1)
      simp [wpOp, Region.wanted, Oper.wp, go_sem, Oper.upon, Act.eval, Act.put]
      refine Or.inl ((HF.out w1).mono ?_)
      rintro e w2 ⟨hb, u, rfl, hF⟩
      exact ⟨_, _, _, _, rfl, ⟨fun h => (hK.b0 (fun x => h (Or.inl x))).trans (hb.mono (hK.b0 (fun x => h (Or.inl x))).size), hK.b1.trans (hb.mono hK.b1.size), fun _ => Or.inr ⟨_, _, hb0.size, hF⟩, fun h => hK.f1 (h.resolve_right (by decide)), fun h => hK.f2 (h.resolve_right (by decide)), fun h => hK.f3 (h.resolve_right (by decide)), fun h => (hK.f4 (h.resolve_right (by decide))).on hb, fun h => ⟨Or.inl (hK.q4 (h.resolve_right (by decide))).1, Or.inl (hK.q4 (h.resolve_right (by decide))).2.1, Or.inl (hK.q4 (h.resolve_right (by decide))).2.2.1, Or.inl (hK.q4 (h.resolve_right (by decide))).2.2.2⟩⟩⟩
    | 1, _ =>
      cases hi
      have hb0 := hK.b0 (fun h => hnd (hK.q4 h).2.1)
      obtain ⟨v0, v1, v2, v3, vf⟩ := HA.out.on hb0
      simp [wpOp, Region.wanted, Oper.wp, execOp, go_sem, Oper.upon, Act.eval, Act.put, v0, v1, v2, v3]
      exact Or.inl ⟨_, _, _, _, rfl, ⟨fun h => (hK.b0 (fun x => h (Or.inl x))), hK.b1, fun h => (hK.f0 (h.resolve_right (by decide))).imp Or.inl (fun h2 => h2), fun _ => rfl, fun h => hK.f2 (h.resolve_right (by decide)), fun h => hK.f3 (h.resolve_right (by decide)), fun h => (hK.f4 (h.resolve_right (by decide))), fun h => ⟨Or.inl (hK.q4 (h.resolve_right (by decide))).1, Or.inl (hK.q4 (h.resolve_right (by decide))).2.1, Or.inl (hK.q4 (h.resolve_right (by decide))).2.2.1, Or.inl (hK.q4 (h.resolve_right (by decide))).2.2.2⟩⟩⟩
    | 2, _ =>
      cases hi
      have hb0 := hK.b0 (fun h => hnd (hK.q4 h).2.2.1)
      obtain ⟨v0, v1, v2, v3, vf⟩ := HBb.out.on hb0
      simp [wpOp, Region.wanted, Oper.wp, execOp, go_sem, Oper.upon, Act.eval, Act.put, v0, v1, v2, v3]
      exact Or.inl ⟨_, _, _, _, rfl, ⟨fun h => (hK.b0 (fun x => h (Or.inl x))), hK.b1, fun h => (hK.f0 (h.resolve_right (by decide))).imp Or.inl (fun h2 => h2), fun h => hK.f1 (h.resolve_right (by decide)), fun _ => rfl, fun h => hK.f3 (h.resolve_right (by decide)), fun h => (hK.f4 (h.resolve_right (by decide))), fun h => ⟨Or.inl (hK.q4 (h.resolve_right (by decide))).1, Or.inl (hK.q4 (h.resolve_right (by decide))).2.1, Or.inl (hK.q4 (h.resolve_right (by decide))).2.2.1, Or.inl (hK.q4 (h.resolve_right (by decide))).2.2.2⟩⟩⟩
    | 3, _ =>
      cases hi
      have h4 : ¬ D 4 := fun h => hnd (hK.q4 h).2.2.2
      simp [Region.binds] at hdep
      obtain ⟨lo, hi', hlo, fn, cap, rfl, hen, _, _, hC⟩ := (hK.f0 hdep.1).resolve_left h4
      obtain rfl := hK.f1 hdep.2.1
      obtain rfl := hK.f2 (by simp_all)
      unfold Enters at hen
      simp [wpOp, Region.wanted, Oper.wp, execOp, go_sem, Oper.upon, Act.eval, Act.put, hen]
      refine Or.inl ((hC w1 (fun _ _ _ => rfl)).mono ?_)
      rintro e w2 ⟨hb, rfl⟩
      exact ⟨_, _, _, _, rfl, ⟨fun h => (hK.b0 (fun x => h (Or.inl x))).trans (hb.mono (hK.b0 (fun x => h (Or.inl x))).size), hK.b1.trans (hb.mono hK.b1.size), fun h => (hK.f0 (h.resolve_right (by decide))).imp Or.inl (fun h2 => h2.on hb), fun h => hK.f1 (h.resolve_right (by decide)), fun h => hK.f2 (h.resolve_right (by decide)), fun _ => rfl, fun h => (hK.f4 (h.resolve_right (by decide))).on hb, fun h => ⟨Or.inl (hK.q4 (h.resolve_right (by decide))).1, Or.inl (hK.q4 (h.resolve_right (by decide))).2.1, Or.inl (hK.q4 (h.resolve_right (by decide))).2.2.1, Or.inl (hK.q4 (h.resolve_right (by decide))).2.2.2⟩⟩⟩
    | 4, _ =>
      cases hi
      simp [Region.binds] at hdep
      obtain rfl := hK.f3 (by simp_all)
      have hb0 := hK.b0 hnd
      obtain ⟨v0, v1, v2, v3, vf⟩ := HR.out.on hb0
      unfold iv
      simp [wpOp, Region.wanted, Oper.wp, execOp, go_sem, Oper.upon, Act.eval, Act.put, v0, v1, v2, v3, vf]
      exact Or.inl ⟨_, _, _, _, rfl, ⟨fun h => absurd (Or.inr rfl) h, below_set4 hK.b1 (by omega) _ _ _ _, fun _ => Or.inl (Or.inr rfl), fun h => hK.f1 (h.resolve_right (by decide)), fun h => hK.f2 (h.resolve_right (by decide)), fun h => hK.f3 (h.resolve_right (by decide)), fun _ => (HR.out.on hb0).set _ _, fun _ => ⟨Or.inl (by simp_all), Or.inl (by simp_all), Or.inl (by simp_all), Or.inl (by simp_all)⟩⟩⟩
  · intro D c w1 hI hall
    obtain ⟨t0, t1, t2, t3, rfl, hK⟩ := hI
    obtain ⟨v0, v1, v2, v3, vf⟩ := hK.f4 (hall 4 (by decide))
    go_wp2_with fail
    exact bodyPost_ret (v := iv (okK ok) (okI ok n)) (by simp [results, Tryz.results218, go_sem, iv, v0, v1, v2, v3]) rfl ⟨hK.b1, rfl⟩

def negI (n1 : Value) (wS w0 : World) (nb : Nat) (x y : Value) (k i : Int) (D : Nat → Prop) (c : Act) (w : World) : Prop :=
  ∃ t0 t1 t2 t3, c = { tmps := #[n1, .pointer (some ⟨nb, 0, none⟩), .pointer (some ⟨nb + 1, 0, none⟩), t0, t1, t2, t3], defers := [] } ∧ AK wS w0 (nb + 1) x y k i D w t0 t1 t2 t3
theorem negated_int (b n : Int) (ok : Bool) (hr : Recks 219 0 b n ok) (w : World) : Calls Tryz.prog 235 #[iv 1 b] w fun e w' => Below w.heap.size w w' ∧ e = .returned (iv (okK ok) (okI ok n)) := by
  have HF := hid (fun w => ofInts_fun 219 0 b n ok (enters_of Tryz.func219 (by kernel_rfl) rfl) hr w)
  have HI := hid (fun w => intOf_any 0 w)
  clear hr
  unfold fnV at HF
  rw [show iv 1 b = .agg #[.int .i64 1, .int .i64 b, .string ⟨#[]⟩, .slice none 0 0] from rfl]
  go_enter Tryz.func235, Tryz.ntmps235
  go_wp2_with fail
  have HA := hid ((V4.new w 1 b).on (below_al _ (.cells #[.int .i64 0, .int .i64 0, .string ⟨#[]⟩, .slice none 0 0] 24)))
  have HR := hid (V4.new (w.alloc (.cells #[.int .i64 1, .int .i64 b, .string ⟨#[]⟩, .slice none 0 0] 24)) 0 0)
  have HB0 := hid (below_al2 w (.cells #[.int .i64 1, .int .i64 b, .string ⟨#[]⟩, .slice none 0 0] 24) (.cells #[.int .i64 0, .int .i64 0, .string ⟨#[]⟩, .slice none 0 0] 24))
  rw [show (w.alloc (.cells #[.int .i64 1, .int .i64 b, .string ⟨#[]⟩, .slice none 0 0] 24)).heap.size = w.heap.size + 1 by simp] at HR
  generalize (w.alloc (.cells #[.int .i64 1, .int .i64 b, .string ⟨#[]⟩, .slice none 0 0] 24)).alloc (.cells #[.int .i64 0, .int .i64 0, .string ⟨#[]⟩, .slice none 0 0] 24) = w0 at *
  obtain ⟨nb, hq⟩ : ∃ nb, nb = w.heap.size := ⟨_, rfl⟩
  rw [← hq] at HA HR
  simp only [← hq]
  refine wp_region_inv (by kernel_rfl) (negI (iv 1 b) w w0 nb (iv 1 0) (iv 1 b) (okK ok) (okI ok n)) ?_ (by kernel_rfl) ?_ ?_ ?_
  · rintro D D' c w1 hD ⟨t0, t1, t2, t3, h, hK⟩
    have e : D = D' := funext fun j => propext (hD j)
    subst e
    exact ⟨t0, t1, t2, t3, h, hK⟩
  · intro D hD
    exact ⟨_, _, _, _, rfl, fun _ => (Below.refl _ _).drew, HB0.out.drew, fun h => absurd h (hD _), fun h => absurd h (hD _), fun h => absurd h (hD _), fun h => absurd h (hD _), fun h => absurd h (hD _), fun h => absurd h (hD _)⟩
  · intro D c w1 hI j o hi hnd hdep
    obtain ⟨t0, t1, t2, t3, rfl, hK⟩ := hI
    have hlt : j < 5 := (Array.getElem?_eq_some_iff.1 hi).1
    have hbs := hK.b1
    match j, hlt with
    | 0, _ =>
      cases hi
      have hb0 := hK.b0 (fun h => hnd (hK.q4 h).1)
      simp [wpOp, Region.wanted, Oper.wp, go_sem, Oper.upon, Act.eval, Act.put]
      refine Or.inl ((HF.out w1).mono ?_)
      rintro e w2 ⟨hb, u, rfl, hF⟩
      exact ⟨_, _, _, _, rfl, ⟨fun h => (hK.b0 (fun x => h (Or.inl x))).trans (hb.mono (hK.b0 (fun x => h (Or.inl x))).size), hK.b1.trans (hb.mono hK.b1.size), fun _ => Or.inr ⟨_, _, hb0.size, hF⟩, fun h => hK.f1 (h.resolve_right (by decide)), fun h => hK.f2 (h.resolve_right (by decide)), fun h => hK.f3 (h.resolve_right (by decide)), fun h => (hK.f4 (h.resolve_right (by decide))).on hb, fun h => ⟨Or.inl (hK.q4 (h.resolve_right (by decide))).1, Or.inl (hK.q4 (h.resolve_right (by decide))).2.1, Or.inl (hK.q4 (h.resolve_right (by decide))).2.2.1, Or.inl (hK.q4 (h.resolve_right (by decide))).2.2.2⟩⟩⟩
    | 1, _ =>
      cases hi
      have hb0 := hK.b0 (fun h => hnd (hK.q4 h).2.1)
      simp [wpOp, Region.wanted, Oper.wp, go_sem, Oper.upon, Act.eval, Act.put]
      refine Or.inl ((HI.out w1).mono ?_)
      rintro e w2 ⟨hw2, rfl⟩
      have hb : Below w1.heap.size w1 w2 := hw2 ▸ below_al _ _
      exact ⟨_, _, _, _, rfl, ⟨fun h => (hK.b0 (fun x => h (Or.inl x))).trans (hb.mono (hK.b0 (fun x => h (Or.inl x))).size), hK.b1.trans (hb.mono hK.b1.size), fun h => (hK.f0 (h.resolve_right (by decide))).imp Or.inl (fun h2 => h2.on hb), fun _ => rfl, fun h => hK.f2 (h.resolve_right (by decide)), fun h => hK.f3 (h.resolve_right (by decide)), fun h => (hK.f4 (h.resolve_right (by decide))).on hb, fun h => ⟨Or.inl (hK.q4 (h.resolve_right (by decide))).1, Or.inl (hK.q4 (h.resolve_right (by decide))).2.1, Or.inl (hK.q4 (h.resolve_right (by decide))).2.2.1, Or.inl (hK.q4 (h.resolve_right (by decide))).2.2.2⟩⟩⟩
    | 2, _ =>
      cases hi
      have hb0 := hK.b0 (fun h => hnd (hK.q4 h).2.2.1)
      obtain ⟨v0, v1, v2, v3, vf⟩ := HA.out.on hb0
      simp [wpOp, Region.wanted, Oper.wp, execOp, go_sem, Oper.upon, Act.eval, Act.put, v0, v1, v2, v3]
      exact Or.inl ⟨_, _, _, _, rfl, ⟨fun h => (hK.b0 (fun x => h (Or.inl x))), hK.b1, fun h => (hK.f0 (h.resolve_right (by decide))).imp Or.inl (fun h2 => h2), fun h => hK.f1 (h.resolve_right (by decide)), fun _ => rfl, fun h => hK.f3 (h.resolve_right (by decide)), fun h => (hK.f4 (h.resolve_right (by decide))), fun h => ⟨Or.inl (hK.q4 (h.resolve_right (by decide))).1, Or.inl (hK.q4 (h.resolve_right (by decide))).2.1, Or.inl (hK.q4 (h.resolve_right (by decide))).2.2.1, Or.inl (hK.q4 (h.resolve_right (by decide))).2.2.2⟩⟩⟩
    | 3, _ =>
      cases hi
      have h4 : ¬ D 4 := fun h => hnd (hK.q4 h).2.2.2
      simp [Region.binds] at hdep
      obtain ⟨lo, hi', hlo, fn, cap, rfl, hen, _, _, hC⟩ := (hK.f0 hdep.1).resolve_left h4
      obtain rfl := hK.f1 hdep.2.1
      obtain rfl := hK.f2 (by simp_all)
      unfold Enters at hen
      simp [wpOp, Region.wanted, Oper.wp, execOp, go_sem, Oper.upon, Act.eval, Act.put, hen]
      refine Or.inl ((hC w1 (fun _ _ _ => rfl)).mono ?_)
      rintro e w2 ⟨hb, rfl⟩
      exact ⟨_, _, _, _, rfl, ⟨fun h => (hK.b0 (fun x => h (Or.inl x))).trans (hb.mono (hK.b0 (fun x => h (Or.inl x))).size), hK.b1.trans (hb.mono hK.b1.size), fun h => (hK.f0 (h.resolve_right (by decide))).imp Or.inl (fun h2 => h2.on hb), fun h => hK.f1 (h.resolve_right (by decide)), fun h => hK.f2 (h.resolve_right (by decide)), fun _ => rfl, fun h => (hK.f4 (h.resolve_right (by decide))).on hb, fun h => ⟨Or.inl (hK.q4 (h.resolve_right (by decide))).1, Or.inl (hK.q4 (h.resolve_right (by decide))).2.1, Or.inl (hK.q4 (h.resolve_right (by decide))).2.2.1, Or.inl (hK.q4 (h.resolve_right (by decide))).2.2.2⟩⟩⟩
    | 4, _ =>
      cases hi
      simp [Region.binds] at hdep
      obtain rfl := hK.f3 (by simp_all)
      have hb0 := hK.b0 hnd
      obtain ⟨v0, v1, v2, v3, vf⟩ := HR.out.on hb0
      unfold iv
      simp [wpOp, Region.wanted, Oper.wp, execOp, go_sem, Oper.upon, Act.eval, Act.put, v0, v1, v2, v3, vf]
      exact Or.inl ⟨_, _, _, _, rfl, ⟨fun h => absurd (Or.inr rfl) h, below_set4 hK.b1 (by omega) _ _ _ _, fun _ => Or.inl (Or.inr rfl), fun h => hK.f1 (h.resolve_right (by decide)), fun h => hK.f2 (h.resolve_right (by decide)), fun h => hK.f3 (h.resolve_right (by decide)), fun _ => (HR.out.on hb0).set _ _, fun _ => ⟨Or.inl (by simp_all), Or.inl (by simp_all), Or.inl (by simp_all), Or.inl (by simp_all)⟩⟩⟩
  · intro D c w1 hI hall
    obtain ⟨t0, t1, t2, t3, rfl, hK⟩ := hI
    obtain ⟨v0, v1, v2, v3, vf⟩ := hK.f4 (hall 4 (by decide))
    go_wp2_with fail
    exact bodyPost_ret (v := iv (okK ok) (okI ok n)) (by simp [results, Tryz.results235, go_sem, iv, v0, v1, v2, v3]) rfl ⟨hK.b1, rfl⟩

end Go.Proofs.YtieknmpdmdbdlaaGreatDoor
