import Derived.Test.YtieknmpdmdbdlaaGreatDoorExV
namespace Go.Proofs.YtieknmpdmdbdlaaGreatDoor
open Go.RowKit
set_option maxRecDepth 8000

theorem joins_plus (a b n : Int) (ok : Bool) (hr : Recks 107 a b n ok) : Joins ⟨#[43]⟩ (iv 1 a) (iv 1 b) (iv (okK ok) (okI ok n)) := by
  intro w
  have hmf : ∀ (fn : Fn) (first cap : Array Value) (w : World), (Instr.makeFunc fn first cap).run Tryz.prog w = .ok (.func fn first cap) w := fun _ _ _ _ => rfl
  have HF := hid (fun w => added_ints a b n ok hr w)
  clear hr
  go_enter Tryz.func214, Tryz.ntmps214
  go_wp2_with fail
  go_ret
  exact ⟨Below.refl _ _, _, rfl, 218, _, rfl, enters_of Tryz.func218 (by kernel_rfl) rfl, Nat.le_refl _, Nat.le_refl _, fun w1 _ => HF.out w1⟩

/-- what is known while a sign ahead is run -/
structure PK (w0 : World) (sb : Nat) (u5 u6 : Value) (k1 i1 k i : Int) (D : Nat → Prop) (w : World) (t5 t6 t7 t8 t9 : Value) : Prop where
  bel : Below w0.heap.size w0 w
  f0 : D 0 → t5 = u5
  f1 : D 1 → t6 = u6
  f2 : D 2 → t7 = .pointer (some ⟨sb, 0, none⟩)
  f3 : D 3 → t8 = iv k1 i1
  f4 : D 4 → t9 = iv k i
  f5 : D 5 → V4 w w0.heap.size k i
  u5 : ¬ D 5 → V4 w w0.heap.size 0 0
def PI (w0 : World) (sb b3 b4 : Nat) (u5 u6 : Value) (k1 i1 k i : Int) (D : Nat → Prop) (c : Act) (w : World) : Prop :=
  ∃ t5 t6 t7 t8 t9, c = { tmps := #[.pointer (some ⟨sb, 0, none⟩), .pointer (some ⟨b3, 0, none⟩), .pointer (some ⟨b4, 0, none⟩), undef, .pointer (some ⟨w0.heap.size, 0, none⟩), t5, t6, t7, t8, t9], defers := [] } ∧ PK w0 sb u5 u6 k1 i1 k i D w t5 t6 t7 t8 t9

theorem prefixed_run (sb b3 b4 f5 : Nat) (t11 : Value) (lo5 hi5 : Nat) (a b k1 i1 k i : Int) (w : World) (hs : Scp w sb a b) (e5 : Enters f5)
    (H5 : ∀ w, Calls Tryz.prog f5 #[iv k1 i1] w fun e w' => Below w.heap.size w w' ∧ e = .returned (iv k i))
    (c3 : w.cell? ⟨b3, 0, none⟩ = some (fnV f5)) (c4 : w.cell? ⟨b4, 0, none⟩ = some t11) (F5 : Fun1 lo5 hi5 w t11 a b (iv k1 i1)) :
    Calls Tryz.prog 237 #[.pointer (some ⟨sb, 0, none⟩), .pointer (some ⟨b3, 0, none⟩), .pointer (some ⟨b4, 0, none⟩)] w fun e w' => Below w.heap.size w w' ∧ e = .returned (iv k i) := by
  obtain ⟨f11, cap11, rfl, e11, _, h11, C11⟩ := F5
  have HH5 := hid H5
  have H11 := hid C11
  have HS := hid hs
  have HC3 := hid c3
  have HC4 := hid c4
  clear C11 hs H5 c3 c4
  unfold Enters at *
  go_enter Tryz.func237, Tryz.ntmps237
  go_wp2_with fail
  refine wp_region_inv (by kernel_rfl) (PI w sb b3 b4 (fnV f5) (.func (.func f11) #[] cap11) k1 i1 k i) ?_ (by kernel_rfl) ?_ ?_ ?_
  · rintro D D' c w1 hD ⟨t5, t6, t7, t8, t9, h, hK⟩
    have e : D = D' := funext fun j => propext (hD j)
    subst e
    exact ⟨t5, t6, t7, t8, t9, h, hK⟩
  · intro D hD
    exact ⟨_, _, _, _, _, rfl, (below_al _ _).drew, fun h => absurd h (hD _), fun h => absurd h (hD _), fun h => absurd h (hD _), fun h => absurd h (hD _), fun h => absurd h (hD _), fun h => absurd h (hD _), fun _ => (V4.new w 0 0).drew⟩
  · intro D c w1 hI j o hi hnd hdep
    obtain ⟨t5, t6, t7, t8, t9, rfl, hK⟩ := hI
    have hlt : j < 6 := (Array.getElem?_eq_some_iff.1 hi).1
    match j, hlt with
    | 0, _ =>
      cases hi
      have c3 := cell_on HC3.out hK.bel
      simp [wpOp, Region.wanted, Oper.wp, execOp, go_sem, Oper.upon, Act.eval, Act.put, c3]
      exact Or.inl ⟨_, _, _, _, _, rfl, ⟨hK.bel, fun _ => rfl, fun h => hK.f1 (h.resolve_right (by decide)), fun h => hK.f2 (h.resolve_right (by decide)), fun h => hK.f3 (h.resolve_right (by decide)), fun h => hK.f4 (h.resolve_right (by decide)), fun h => (hK.f5 (h.resolve_right (by decide))), fun h => (hK.u5 (fun h8 => h (Or.inl h8)))⟩⟩
    | 1, _ =>
      cases hi
      have c4 := cell_on HC4.out hK.bel
      simp [wpOp, Region.wanted, Oper.wp, execOp, go_sem, Oper.upon, Act.eval, Act.put, c4]
      exact Or.inl ⟨_, _, _, _, _, rfl, ⟨hK.bel, fun h => hK.f0 (h.resolve_right (by decide)), fun _ => rfl, fun h => hK.f2 (h.resolve_right (by decide)), fun h => hK.f3 (h.resolve_right (by decide)), fun h => hK.f4 (h.resolve_right (by decide)), fun h => (hK.f5 (h.resolve_right (by decide))), fun h => (hK.u5 (fun h8 => h (Or.inl h8)))⟩⟩
    | 2, _ =>
      cases hi
      simp [wpOp, Region.wanted, Oper.wp, execOp, go_sem, Oper.upon, Act.eval, Act.put]
      exact Or.inl ⟨_, _, _, _, _, rfl, ⟨hK.bel, fun h => hK.f0 (h.resolve_right (by decide)), fun h => hK.f1 (h.resolve_right (by decide)), fun _ => rfl, fun h => hK.f3 (h.resolve_right (by decide)), fun h => hK.f4 (h.resolve_right (by decide)), fun h => (hK.f5 (h.resolve_right (by decide))), fun h => (hK.u5 (fun h8 => h (Or.inl h8)))⟩⟩
    | 3, _ =>
      cases hi
      simp [Region.binds] at hdep
      obtain rfl := hK.f1 hdep.1
      obtain rfl := hK.f2 hdep.2
      simp [wpOp, Region.wanted, Oper.wp, execOp, go_sem, Oper.upon, Act.eval, Act.put, e11]
      refine Or.inl ((H11.out w1 sb (fun q _ hq => hK.bel.block q (by omega)) (HS.out.on hK.bel)).mono ?_)
      rintro e w2 ⟨hb, rfl⟩
      exact ⟨_, _, _, _, _, rfl, ⟨hK.bel.trans (hb.mono hK.bel.size), fun h => hK.f0 (h.resolve_right (by decide)), fun h => hK.f1 (h.resolve_right (by decide)), fun h => hK.f2 (h.resolve_right (by decide)), fun _ => rfl, fun h => hK.f4 (h.resolve_right (by decide)), fun h => (hK.f5 (h.resolve_right (by decide))).on hb, fun h => (hK.u5 (fun h8 => h (Or.inl h8))).on hb⟩⟩
    | 4, _ =>
      cases hi
      simp [Region.binds] at hdep
      obtain rfl := hK.f0 hdep.1
      obtain rfl := hK.f3 (by simp_all)
      unfold fnV
      simp [wpOp, Region.wanted, Oper.wp, execOp, go_sem, Oper.upon, Act.eval, Act.put, e5]
      refine Or.inl ((HH5.out w1).mono ?_)
      rintro e w2 ⟨hb, rfl⟩
      exact ⟨_, _, _, _, _, rfl, ⟨hK.bel.trans (hb.mono hK.bel.size), fun h => hK.f0 (h.resolve_right (by decide)), fun h => hK.f1 (h.resolve_right (by decide)), fun h => hK.f2 (h.resolve_right (by decide)), fun h => hK.f3 (h.resolve_right (by decide)), fun _ => rfl, fun h => (hK.f5 (h.resolve_right (by decide))).on hb, fun h => (hK.u5 (fun h8 => h (Or.inl h8))).on hb⟩⟩
    | 5, _ =>
      cases hi
      simp [Region.binds] at hdep
      obtain rfl := hK.f4 (by simp_all)
      obtain ⟨v0, v1, v2, v3, vf⟩ := hK.u5 hnd
      unfold iv
      simp [wpOp, Region.wanted, Oper.wp, execOp, go_sem, Oper.upon, Act.eval, Act.put, v0, v1, v2, v3, vf]
      exact Or.inl ⟨_, _, _, _, _, rfl, ⟨below_set4 hK.bel (Nat.le_refl _) _ _ _ _, fun h => hK.f0 (h.resolve_right (by decide)), fun h => hK.f1 (h.resolve_right (by decide)), fun h => hK.f2 (h.resolve_right (by decide)), fun h => hK.f3 (h.resolve_right (by decide)), fun h => hK.f4 (h.resolve_right (by decide)), fun _ => (hK.u5 hnd).set k i, fun h => absurd (Or.inr rfl) h⟩⟩
  · intro D c w1 hI hall
    obtain ⟨t5, t6, t7, t8, t9, rfl, hK⟩ := hI
    obtain ⟨v0, v1, v2, v3, vf⟩ := hK.f5 (hall 5 (by decide))
    go_wp2_with fail
    exact bodyPost_ret (v := iv k i) (by simp [results, Tryz.results237, go_sem, iv, v0, v1, v2, v3]) rfl ⟨hK.bel, rfl⟩

theorem comp_neg (n1 : TypeId) (n2 : Value) (g1 : Nat) (a b x n : Int) (ok : Bool) (hr : Recks 219 0 x n ok) (HL : Comp g1 n2 a b (iv 1 x)) (hg1 : Enters g1) (hM1 : Meth n1 g1) :
    Comp 234 (.agg #[.int .i64 7, .string ⟨#[45]⟩, .iface n1 n2]) a b (iv (okK ok) (okI ok n)) := by
  intro w
  have hmf : ∀ (fn : Fn) (first cap : Array Value) (w : World), (Instr.makeFunc fn first cap).run Tryz.prog w = .ok (.func fn first cap) w := fun _ _ _ _ => rfl
  have hst : ∀ (f : Fn) (x y : Array Value) (p : Addr) (w : World), (store p (.func f x y)).run Tryz.prog w = stored Tryz.prog w p (.func f x y) .plain := fun _ _ _ _ _ => run_store _ _ _ _ _ rfl
  have HHL := hid HL
  have HN := hid (fun w => negated_int x n ok hr w)
  clear HL hr
  unfold Enters Meth at *
  go_enter Tryz.func234, Tryz.ntmps234
  go_wp2_with fail
  have HC1 : Hid ((w.alloc (.cells #[.int .i64 7, .string ⟨#[45]⟩, .iface n1 n2] 106)).cell? ⟨w.heap.size, 1, none⟩ = some (.string ⟨#[45]⟩)) := by show _ = _; simp
  have HB0 := hid (below_al w (.cells #[.int .i64 7, .string ⟨#[45]⟩, .iface n1 n2] 106))
  have HZ0 : Hid ((w.alloc (.cells #[.int .i64 7, .string ⟨#[45]⟩, .iface n1 n2] 106)).heap.size = w.heap.size + 1) := by show _ = _; simp
  generalize w.alloc (.cells #[.int .i64 7, .string ⟨#[45]⟩, .iface n1 n2] 106) = w0 at *
  refine (HHL.out w0).mono ?_
  rintro e w1 ⟨hb, t, rfl, hF⟩
  have c1 := cell_on HC1.out hb
  obtain ⟨f11, cap11, rfl, hrest⟩ := hF
  have HF : Hid (Fun1 w0.heap.size w1.heap.size w1 (.func (.func f11) #[] cap11) a b (iv 1 x)) := ⟨f11, cap11, rfl, hrest⟩
  have HB1 := hid hb
  clear hb hrest
  have c1' := cell_al2 c1
  go_wp2_with fail
  go_ret
  have hz0 := HZ0.out
  have hs1 := HB1.out.size
  have hbw : Below w.heap.size w w1 := HB0.out.trans (HB1.out.mono (by omega))
  refine ⟨(hbw.alloc hbw.size _).alloc (by simp; have := hbw.size; omega) _, _, rfl, 237, _, rfl, enters_of Tryz.func237 (by kernel_rfl) rfl, by simp; omega, Nat.le_refl _, fun w2 sb hw hs => ?_⟩
  have q3 : ((w1.alloc (.cells #[.func (.func 235) #[] #[]] 58)).alloc (.cells #[.func (.func f11) #[] cap11] 44)).cell? ⟨w1.heap.size, 0, none⟩ = some (.func (.func 235) #[] #[]) := by simp [go_sem]
  have q4 : ((w1.alloc (.cells #[.func (.func 235) #[] #[]] 58)).alloc (.cells #[.func (.func f11) #[] cap11] 44)).cell? ⟨w1.heap.size + 1, 0, none⟩ = some (.func (.func f11) #[] cap11) := by simp [go_sem]
  have hsz : ((w1.alloc (.cells #[.func (.func 235) #[] #[]] 58)).alloc (.cells #[.func (.func f11) #[] cap11] 44)).heap.size = w1.heap.size + 2 := by simp
  have hal : Below w1.heap.size w1 ((w1.alloc (.cells #[.func (.func 235) #[] #[]] 58)).alloc (.cells #[.func (.func f11) #[] cap11] 44)) := below_al2 _ _ _
  generalize (w1.alloc (.cells #[.func (.func 235) #[] #[]] 58)).alloc (.cells #[.func (.func f11) #[] cap11] 44) = w3 at *
  have hz : w3.heap.size ≤ w2.heap.size := by
    have h1 := hw (w3.heap.size - 1) (by omega) (by omega)
    rcases Nat.lt_or_ge (w3.heap.size - 1) w2.heap.size with h2 | h2
    · omega
    · rw [Array.getElem?_eq_none h2, Array.getElem?_eq_getElem (by omega)] at h1
      cases h1
  have hF := HF.out
  have hle := hF.le
  exact prefixed_run sb w1.heap.size (w1.heap.size + 1) 235 (.func (.func f11) #[] cap11) w0.heap.size w1.heap.size a b 1 x (okK ok) (okI ok n) w2 hs (enters_of Tryz.func235 (by kernel_rfl) rfl) HN.out
    ((World.cell?_of_block (w := w3) (hw w1.heap.size (by omega) (by omega))).trans q3) ((World.cell?_of_block (w := w3) (hw (w1.heap.size + 1) (by omega) (by omega))).trans q4)
    (hF.keep (fun q h1 h2 => (hw q (by omega) (by omega)).trans (hal.block q h2)) (by omega))
end Go.Proofs.YtieknmpdmdbdlaaGreatDoor
