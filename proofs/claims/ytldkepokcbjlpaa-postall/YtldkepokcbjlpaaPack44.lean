import Derived.Test.YtldkepokcbjlpaaPack43
namespace Go.Proofs.Ytldkepokcbjlpaa
open Go.RowKit Go.Conc
set_option maxRecDepth 60000
theorem Fr.later {w W w' : World} {K K' : Nat → Prop} (h : Fr W K w' K') (hb : Below w.heap.size w W) : Fr w K w' K' :=
  ⟨⟨h.but.os.trans hb.os, h.but.tape.trans hb.tape, h.but.output.trans hb.output, Nat.le_trans hb.size h.but.size, fun k hl hn => (h.but.block k (Nat.lt_of_lt_of_le hl hb.size) hn).trans (hb.block k hl)⟩, fun k hk => (h.cs k hk).imp_right fun e => Nat.le_trans hb.size e, h.lt⟩
theorem Fr.then_ {w w' w2 : World} {K K' : Nat → Prop} (h : Fr w K w' K') (hb : Below w'.heap.size w' w2) : Fr w K w2 K' :=
  ⟨⟨hb.os.trans h.but.os, hb.tape.trans h.but.tape, hb.output.trans h.but.output, Nat.le_trans h.but.size hb.size, fun k hl hn => (hb.block k (Nat.lt_of_lt_of_le hl h.but.size)).trans (h.but.block k hl hn)⟩, h.cs, fun k hk => Nat.lt_of_lt_of_le (h.lt k hk) hb.size⟩
theorem Fr.trans {w w1 w2 : World} {K K1 K2 : Nat → Prop} (h : Fr w K w1 K1) (g : Fr w1 K1 w2 K2) : Fr w K w2 K2 := by
  refine ⟨⟨g.but.os.trans h.but.os, g.but.tape.trans h.but.tape, g.but.output.trans h.but.output, Nat.le_trans h.but.size g.but.size, fun k hl hn => ?_⟩, fun k hk => ?_, g.lt⟩
  · exact (g.but.block k (Nat.lt_of_lt_of_le hl h.but.size) (fun e => by rcases h.cs k e with h1 | h1; exact hn h1; omega)).trans (h.but.block k hl hn)
  · rcases g.cs k hk with h1 | h1
    · exact h.cs k h1
    · exact .inr (Nat.le_trans h.but.size h1)
/-- the reference alone made a step that changed nothing -/
theorem PR.stillR {w0 w w1 w2 : World} {b rb : Nat} {P : Ps} {R : Rp} {ts : List (Nat × PtT)} {pt : LT PtT} {tk : LT Int} {m : Nat} {F : Nat → Prop} (h : PR w0 w b rb P R ts pt tk m F) (s : QS w b P w1 P (lets ts)) (r : RSet w1 rb R w2 R) : PR w0 w2 b rb P R ts pt tk m F ∧ Fr w (Pc P b R rb pt tk) w2 (Pc P b R rb pt tk) := by
  obtain ⟨h1, _⟩ := h.still s (Below.refl _ _)
  have hg := h1.g.rset r
  have hkp : ∀ k, k < w1.heap.size → ¬ R.C rb k → w2.heap[k]? = w1.heap[k]? := fun k hl hn => r.but.block k hl hn
  refine ⟨⟨hg, r.inv, h.rt, h.rf, h.rs, h.rn, h.rx, h.fl, fun e => ?_⟩, Fr.of s (r.but.wide fun _ hk => .inl hk) (fun _ hk => .inl hk) (fun k hk => (hg.dl k (.inl hk)).2.1)⟩
  have hu := h1.un e
  refine ⟨hu.ru.kept fun k hk hl => hkp k hl (fun e2 => ?_), hu.pk, hu.len, hu.ord, hu.p2, hu.p0, hu.wl, fun i hi => ⟨(hu.pi i hi).1.kept r.but.size (fun k hk hl => hkp k hl (fun e3 => hk.2.2 (.inl (.inl e3)))), (hu.pi i hi).2⟩⟩
  rcases hk with hk | hk
  · exact (hu.ru.pne k hk).1 e2
  · exact hu.ru.tne k hk e2
def PlP (w0 w : World) (b rb : Nat) (P : Ps) (R : Rp) (pt : LT PtT) (tk : LT Int) (F : Nat → Prop) (e : Ending) (w' : World) : Prop := ∃ (last : Int) (P' : Ps) (R' : Rp) (ts' : List (Nat × PtT)) (pt' : LT PtT) (tk' : LT Int) (m' : Nat), e = .returned (.tuple #[.int .i64 last, .bool true]) ∧ PR w0 w' b rb P' R' ts' pt' tk' m' F ∧ Fr w (Pc P b R rb pt tk) w' (Pc P' b R' rb pt' tk')
set_option maxHeartbeats 8000000 in
theorem pl_else (o : OpP) (last : Int) {w0 w : World} {b rb : Nat} {P : Ps} {R : Rp} {ts : List (Nat × PtT)} {pt : LT PtT} {tk : LT Int} {m : Nat} {F : Nat → Prop} (h : PR w0 w b rb P R ts pt tk m F) (hk : o.kind < 1 ∨ 7 < o.kind) : Calls Try.prog 24 #[.pointer (some ⟨b, 0, none⟩), .pointer (some ⟨rb, 0, none⟩), .agg #[.int .i64 o.kind, .bool o.snd, .bool o.abs, .int .i64 o.id, .int .i64 o.task, .int .i64 o.pt.num, .slice o.pt.cl.p o.pt.cl.n o.pt.cl.c, .slice o.pt.lg.p o.pt.lg.n o.pt.lg.c, .slice o.pt.pd.p o.pt.pd.n o.pt.pd.c, .bool o.ok], .int .i64 last] w fun e w' => PlP w0 w b rb P R pt tk F e w' := by
  obtain ⟨W, hW⟩ : ∃ V, V = w.alloc (.cells #[.int .i64 o.kind, .bool o.snd, .bool o.abs, .int .i64 o.id, .int .i64 o.task, .int .i64 o.pt.num, .slice o.pt.cl.p o.pt.cl.n o.pt.cl.c, .slice o.pt.lg.p o.pt.lg.n o.pt.lg.c, .slice o.pt.pd.p o.pt.pd.n o.pt.pd.c, .bool o.ok] 41) := ⟨_, rfl⟩
  have hB : Below w.heap.size w W := by rw [hW]; exact (Below.refl _ _).alloc (Nat.le_refl _) _
  have hX : Box W w.heap.size #[.int .i64 o.kind, .bool o.snd, .bool o.abs, .int .i64 o.id, .int .i64 o.task, .int .i64 o.pt.num, .slice o.pt.cl.p o.pt.cl.n o.pt.cl.c, .slice o.pt.lg.p o.pt.lg.n o.pt.lg.c, .slice o.pt.pd.p o.pt.pd.n o.pt.pd.c, .bool o.ok] 41 := by rw [hW]; exact Box.new _ _ _
  have HB := hid hB
  have HX := hid hX
  have HW := hid hW
  have hJW := h.below hB
  have HJW := hid hJW
  have hp0 := hJW.g.i.box.lt
  have x0 := hX.cell 0
  have x1 := hX.cell 1
  have x2 := hX.cell 2
  have x3 := hX.cell 3
  have x4 := hX.cell 4
  have x5 := hX.cell 5
  have x6 := hX.cell 6
  have x7 := hX.cell 7
  have x8 := hX.cell 8
  have x9 := hX.cell 9
  have ol := hX.lt
  simp at x0 x1 x2 x3 x4 x5 x6 x7 x8 x9
  have HN := hid (number_any o last W)
  obtain ⟨id, hid0⟩ : ∃ x, x = o.num last := ⟨_, rfl⟩
  rw [← hid0] at HN
  have HK := hid hk
  have HXn : Hid (¬ P.C b w.heap.size ∧ w.heap.size ≠ P.ch ∧ ¬ Dr R rb pt tk w.heap.size) := ⟨fun e => by have := h.g.i.lt e; omega, fun e => by have := h.g.inb.lt; omega, fun e => by have := (h.g.dl _ (.inl e)).2.1; omega⟩
  clear hid0 h hJW hX hW hB hk
  go_enter Try.func24, Try.ntmps24
  go_wp2_with fail
  rw [← HW.out]
  refine HN.out.mono ?_
  rintro e w1 ⟨rfl, hb1⟩
  have HB1 := hid (HB.out.trans (hb1.mono HB.out.size))
  have HX1 := hid (HX.out.below hb1)
  have HJ1 := hid (HJW.out.below hb1)
  clear HN HX HW HB HJW hb1 hp0 ol x0 x1 x2 x3 x4 x5 x6 x7 x8 x9
  have x0 := HX1.out.cell 0
  have ol := HX1.out.lt
  have hp0 := HJ1.out.g.i.box.lt
  simp at x0
  have hk := HK.out
  have k1 : (o.kind == 1) = false := by rw [beq_eq_false_iff_ne]; omega
  have k2 : (o.kind == 2) = false := by rw [beq_eq_false_iff_ne]; omega
  have k3 : (o.kind == 3) = false := by rw [beq_eq_false_iff_ne]; omega
  have k4 : (o.kind == 4) = false := by rw [beq_eq_false_iff_ne]; omega
  have k5 : (o.kind == 5) = false := by rw [beq_eq_false_iff_ne]; omega
  have k6 : (o.kind == 6) = false := by rw [beq_eq_false_iff_ne]; omega
  have k7 : (o.kind == 7) = false := by rw [beq_eq_false_iff_ne]; omega
  clear hk
  go_wp2
  exact bodyPost_ret (v := .tuple #[.int .i64 last, .bool true]) (by simp [results, Try.results24, go_sem]) rfl ⟨last, P, R, ts, pt, tk, m, rfl, HJ1.out, ((HJ1.out.same (Below.refl _ _)).2).later HB1.out⟩
set_option maxHeartbeats 8000000 in
theorem pl_stat (o : OpP) (last : Int) {w0 w : World} {b rb : Nat} {P : Ps} {R : Rp} {ts : List (Nat × PtT)} {pt : LT PtT} {tk : LT Int} {m : Nat} {F : Nat → Prop} (h : PR w0 w b rb P R ts pt tk m F) (hk : o.kind = 6) : Calls Try.prog 24 #[.pointer (some ⟨b, 0, none⟩), .pointer (some ⟨rb, 0, none⟩), .agg #[.int .i64 o.kind, .bool o.snd, .bool o.abs, .int .i64 o.id, .int .i64 o.task, .int .i64 o.pt.num, .slice o.pt.cl.p o.pt.cl.n o.pt.cl.c, .slice o.pt.lg.p o.pt.lg.n o.pt.lg.c, .slice o.pt.pd.p o.pt.pd.n o.pt.pd.c, .bool o.ok], .int .i64 last] w fun e w' => PlP w0 w b rb P R pt tk F e w' := by
  obtain ⟨W, hW⟩ : ∃ V, V = w.alloc (.cells #[.int .i64 o.kind, .bool o.snd, .bool o.abs, .int .i64 o.id, .int .i64 o.task, .int .i64 o.pt.num, .slice o.pt.cl.p o.pt.cl.n o.pt.cl.c, .slice o.pt.lg.p o.pt.lg.n o.pt.lg.c, .slice o.pt.pd.p o.pt.pd.n o.pt.pd.c, .bool o.ok] 41) := ⟨_, rfl⟩
  have hB : Below w.heap.size w W := by rw [hW]; exact (Below.refl _ _).alloc (Nat.le_refl _) _
  have hX : Box W w.heap.size #[.int .i64 o.kind, .bool o.snd, .bool o.abs, .int .i64 o.id, .int .i64 o.task, .int .i64 o.pt.num, .slice o.pt.cl.p o.pt.cl.n o.pt.cl.c, .slice o.pt.lg.p o.pt.lg.n o.pt.lg.c, .slice o.pt.pd.p o.pt.pd.n o.pt.pd.c, .bool o.ok] 41 := by rw [hW]; exact Box.new _ _ _
  have HB := hid hB
  have HX := hid hX
  have HW := hid hW
  have hJW := h.below hB
  have HJW := hid hJW
  have hp0 := hJW.g.i.box.lt
  have x0 := hX.cell 0
  have x1 := hX.cell 1
  have x2 := hX.cell 2
  have x3 := hX.cell 3
  have x4 := hX.cell 4
  have x5 := hX.cell 5
  have x6 := hX.cell 6
  have x7 := hX.cell 7
  have x8 := hX.cell 8
  have x9 := hX.cell 9
  have ol := hX.lt
  simp at x0 x1 x2 x3 x4 x5 x6 x7 x8 x9
  have HN := hid (number_any o last W)
  obtain ⟨id, hid0⟩ : ∃ x, x = o.num last := ⟨_, rfl⟩
  rw [← hid0] at HN
  have HK := hid hk
  have HXn : Hid (¬ P.C b w.heap.size ∧ w.heap.size ≠ P.ch ∧ ¬ Dr R rb pt tk w.heap.size) := ⟨fun e => by have := h.g.i.lt e; omega, fun e => by have := h.g.inb.lt; omega, fun e => by have := (h.g.dl _ (.inl e)).2.1; omega⟩
  clear hid0 h hJW hX hW hB hk
  go_enter Try.func24, Try.ntmps24
  go_wp2_with fail
  rw [← HW.out]
  refine HN.out.mono ?_
  rintro e w1 ⟨rfl, hb1⟩
  have HB1 := hid (HB.out.trans (hb1.mono HB.out.size))
  have HX1 := hid (HX.out.below hb1)
  have HJ1 := hid (HJW.out.below hb1)
  clear HN HX HW HB HJW hb1 hp0 ol x0 x1 x2 x3 x4 x5 x6 x7 x8 x9
  have x0 := HX1.out.cell 0
  have ol := HX1.out.lt
  have hp0 := HJ1.out.g.i.box.lt
  simp at x0
  rw [HK.out] at x0
  have HS := hid (Status_any id w1 b P HJ1.out.g.i)
  go_wp2_with fail
  refine HS.out.mono ?_
  rintro e w2 ⟨rfl, hb2⟩
  have HJ2 := hid (HJ1.out.same hb2)
  have HR := hid (rstat_any id w2 rb R HJ2.out.1.ri)
  rw [HJ2.out.1.stat] at HR
  clear hb2 HS x0 ol hp0
  go_wp2_with fail
  refine HR.out.mono ?_
  rintro e w3 ⟨rfl, hb3⟩
  have HJ3 := hid (HJ2.out.1.same hb3)
  clear HR hb3
  go_wp2
  exact bodyPost_ret (v := .tuple #[.int .i64 last, .bool true]) (by simp [results, Try.results24, go_sem]) rfl ⟨last, P, R, ts, pt, tk, m, rfl, HJ3.out.1, ((HJ2.out.2.trans HJ3.out.2).later HB1.out)⟩
set_option maxHeartbeats 8000000 in
theorem pl_trig (o : OpP) (last : Int) {w0 w : World} {b rb : Nat} {P : Ps} {R : Rp} {ts : List (Nat × PtT)} {pt : LT PtT} {tk : LT Int} {m : Nat} {F : Nat → Prop} (h : PR w0 w b rb P R ts pt tk m F) (hk : o.kind = 1) : Calls Try.prog 24 #[.pointer (some ⟨b, 0, none⟩), .pointer (some ⟨rb, 0, none⟩), .agg #[.int .i64 o.kind, .bool o.snd, .bool o.abs, .int .i64 o.id, .int .i64 o.task, .int .i64 o.pt.num, .slice o.pt.cl.p o.pt.cl.n o.pt.cl.c, .slice o.pt.lg.p o.pt.lg.n o.pt.lg.c, .slice o.pt.pd.p o.pt.pd.n o.pt.pd.c, .bool o.ok], .int .i64 last] w fun e w' => PlP w0 w b rb P R pt tk F e w' := by
  obtain ⟨W, hW⟩ : ∃ V, V = w.alloc (.cells #[.int .i64 o.kind, .bool o.snd, .bool o.abs, .int .i64 o.id, .int .i64 o.task, .int .i64 o.pt.num, .slice o.pt.cl.p o.pt.cl.n o.pt.cl.c, .slice o.pt.lg.p o.pt.lg.n o.pt.lg.c, .slice o.pt.pd.p o.pt.pd.n o.pt.pd.c, .bool o.ok] 41) := ⟨_, rfl⟩
  have hB : Below w.heap.size w W := by rw [hW]; exact (Below.refl _ _).alloc (Nat.le_refl _) _
  have hX : Box W w.heap.size #[.int .i64 o.kind, .bool o.snd, .bool o.abs, .int .i64 o.id, .int .i64 o.task, .int .i64 o.pt.num, .slice o.pt.cl.p o.pt.cl.n o.pt.cl.c, .slice o.pt.lg.p o.pt.lg.n o.pt.lg.c, .slice o.pt.pd.p o.pt.pd.n o.pt.pd.c, .bool o.ok] 41 := by rw [hW]; exact Box.new _ _ _
  have HB := hid hB
  have HX := hid hX
  have HW := hid hW
  have hJW := h.below hB
  have HJW := hid hJW
  have hp0 := hJW.g.i.box.lt
  have x0 := hX.cell 0
  have x1 := hX.cell 1
  have x2 := hX.cell 2
  have x3 := hX.cell 3
  have x4 := hX.cell 4
  have x5 := hX.cell 5
  have x6 := hX.cell 6
  have x7 := hX.cell 7
  have x8 := hX.cell 8
  have x9 := hX.cell 9
  have ol := hX.lt
  simp at x0 x1 x2 x3 x4 x5 x6 x7 x8 x9
  have HN := hid (number_any o last W)
  obtain ⟨id, hid0⟩ : ∃ x, x = o.num last := ⟨_, rfl⟩
  rw [← hid0] at HN
  have HK := hid hk
  have HXn : Hid (¬ P.C b w.heap.size ∧ w.heap.size ≠ P.ch ∧ ¬ Dr R rb pt tk w.heap.size) := ⟨fun e => by have := h.g.i.lt e; omega, fun e => by have := h.g.inb.lt; omega, fun e => by have := (h.g.dl _ (.inl e)).2.1; omega⟩
  clear hid0 h hJW hX hW hB hk
  go_enter Try.func24, Try.ntmps24
  go_wp2_with fail
  rw [← HW.out]
  refine HN.out.mono ?_
  rintro e w1 ⟨rfl, hb1⟩
  have HB1 := hid (HB.out.trans (hb1.mono HB.out.size))
  have HX1 := hid (HX.out.below hb1)
  have HJ1 := hid (HJW.out.below hb1)
  clear HN HX HW HB HJW hb1 hp0 ol x0 x1 x2 x3 x4 x5 x6 x7 x8 x9
  have x0 := HX1.out.cell 0
  have ol := HX1.out.lt
  have hp0 := HJ1.out.g.i.box.lt
  simp at x0
  rw [HK.out] at x0
  have HS := hid (trigger_any w1 b P HJ1.out.g.i)
  have HE := hid HJ1.out.trigE
  by_cases t0 : P.trigE = 0
  · have HT := hid t0
    clear t0
    go_wp2_with fail
    refine HS.out.mono ?_
    rintro e w2 ⟨P2, hQ⟩
    obtain ⟨rfl, p2, c2, rfl⟩ := hQ.y HT.out
    have HD := hid (Dr.qs HJ1.out (hQ.s.qs HJ1.out.g.i HJ1.out.g.inb rfl rfl))
    have HQ := hid hQ.s
    have HR := hid (rtrig_any w2 rb R HD.out.1)
    clear hQ HS x0 ol hp0
    go_wp2_with fail
    refine HR.out.mono ?_
    rintro e w3 ⟨R3, hQ3⟩
    obtain ⟨rfl, p3, c3, rfl⟩ := hQ3.y (by rw [HE.out.1]; exact HT.out)
    have HF := hid (HJ1.out.trig (by
      have := HT.out
      unfold Ps.trigE at this
      split at this
      · cases this
      · rename_i e9; exact Classical.not_not.1 e9) HQ.out hQ3.s)
    rw [HE.out.2]
    clear HR hQ3 HD
    go_wp2
    exact bodyPost_ret (v := .tuple #[.int .i64 P.next, .bool true]) (by simp [results, Try.results24, go_sem]) rfl ⟨P.next, (P.push p2 c2 1), (R.push p3 c3), [], nP, nI, 0, rfl, HF.out.1, (HF.out.2.later HB1.out)⟩
  · have HT := hid t0
    have ht : (P.trigE == 0) = false := by simp [t0]
    clear t0
    go_wp2_with fail
    refine HS.out.mono ?_
    rintro e w2 ⟨P2, hQ⟩
    obtain ⟨rfl, rfl⟩ := hQ.n HT.out
    have HQ := hid (hQ.s.qs HJ1.out.g.i HJ1.out.g.inb rfl rfl)
    have HD := hid (Dr.qs HJ1.out HQ.out)
    have HR := hid (rtrig_any w2 rb R HD.out.1)
    clear hQ HS x0 ol hp0
    go_wp2_with fail
    refine HR.out.mono ?_
    rintro e w3 ⟨R3, hQ3⟩
    obtain ⟨rfl, rfl⟩ := hQ3.n (by rw [HE.out.1]; exact HT.out)
    have HF := hid (HJ1.out.stillR HQ.out hQ3.s)
    rw [HE.out.1]
    clear HR hQ3 HD
    go_wp2
    exact bodyPost_ret (v := .tuple #[.int .i64 last, .bool true]) (by simp [results, Try.results24, go_sem]) rfl ⟨last, P2, R3, ts, pt, tk, m, rfl, HF.out.1, (HF.out.2.later HB1.out)⟩
set_option maxHeartbeats 8000000 in
theorem pl_abort (o : OpP) (last : Int) {w0 w : World} {b rb : Nat} {P : Ps} {R : Rp} {ts : List (Nat × PtT)} {pt : LT PtT} {tk : LT Int} {m : Nat} {F : Nat → Prop} (h : PR w0 w b rb P R ts pt tk m F) (hk : o.kind = 4) : Calls Try.prog 24 #[.pointer (some ⟨b, 0, none⟩), .pointer (some ⟨rb, 0, none⟩), .agg #[.int .i64 o.kind, .bool o.snd, .bool o.abs, .int .i64 o.id, .int .i64 o.task, .int .i64 o.pt.num, .slice o.pt.cl.p o.pt.cl.n o.pt.cl.c, .slice o.pt.lg.p o.pt.lg.n o.pt.lg.c, .slice o.pt.pd.p o.pt.pd.n o.pt.pd.c, .bool o.ok], .int .i64 last] w fun e w' => PlP w0 w b rb P R pt tk F e w' := by
  obtain ⟨W, hW⟩ : ∃ V, V = w.alloc (.cells #[.int .i64 o.kind, .bool o.snd, .bool o.abs, .int .i64 o.id, .int .i64 o.task, .int .i64 o.pt.num, .slice o.pt.cl.p o.pt.cl.n o.pt.cl.c, .slice o.pt.lg.p o.pt.lg.n o.pt.lg.c, .slice o.pt.pd.p o.pt.pd.n o.pt.pd.c, .bool o.ok] 41) := ⟨_, rfl⟩
  have hB : Below w.heap.size w W := by rw [hW]; exact (Below.refl _ _).alloc (Nat.le_refl _) _
  have hX : Box W w.heap.size #[.int .i64 o.kind, .bool o.snd, .bool o.abs, .int .i64 o.id, .int .i64 o.task, .int .i64 o.pt.num, .slice o.pt.cl.p o.pt.cl.n o.pt.cl.c, .slice o.pt.lg.p o.pt.lg.n o.pt.lg.c, .slice o.pt.pd.p o.pt.pd.n o.pt.pd.c, .bool o.ok] 41 := by rw [hW]; exact Box.new _ _ _
  have HB := hid hB
  have HX := hid hX
  have HW := hid hW
  have hJW := h.below hB
  have HJW := hid hJW
  have hp0 := hJW.g.i.box.lt
  have x0 := hX.cell 0
  have x1 := hX.cell 1
  have x2 := hX.cell 2
  have x3 := hX.cell 3
  have x4 := hX.cell 4
  have x5 := hX.cell 5
  have x6 := hX.cell 6
  have x7 := hX.cell 7
  have x8 := hX.cell 8
  have x9 := hX.cell 9
  have ol := hX.lt
  simp at x0 x1 x2 x3 x4 x5 x6 x7 x8 x9
  have HN := hid (number_any o last W)
  obtain ⟨id, hid0⟩ : ∃ x, x = o.num last := ⟨_, rfl⟩
  rw [← hid0] at HN
  have HK := hid hk
  have HXn : Hid (¬ P.C b w.heap.size ∧ w.heap.size ≠ P.ch ∧ ¬ Dr R rb pt tk w.heap.size) := ⟨fun e => by have := h.g.i.lt e; omega, fun e => by have := h.g.inb.lt; omega, fun e => by have := (h.g.dl _ (.inl e)).2.1; omega⟩
  clear hid0 h hJW hX hW hB hk
  go_enter Try.func24, Try.ntmps24
  go_wp2_with fail
  rw [← HW.out]
  refine HN.out.mono ?_
  rintro e w1 ⟨rfl, hb1⟩
  have HB1 := hid (HB.out.trans (hb1.mono HB.out.size))
  have HX1 := hid (HX.out.below hb1)
  have HJ1 := hid (HJW.out.below hb1)
  clear HN HX HW HB HJW hb1 hp0 ol x0 x1 x2 x3 x4 x5 x6 x7 x8 x9
  have x0 := HX1.out.cell 0
  have ol := HX1.out.lt
  have hp0 := HJ1.out.g.i.box.lt
  simp at x0
  rw [HK.out] at x0
  have HS := hid (abort_any w1 b P (lets ts) HJ1.out.g.i HJ1.out.g.inb)
  have HE := hid HJ1.out.now
  by_cases t0 : P.under = 0
  · have HT := hid t0
    clear t0
    go_wp2_with fail
    refine HS.out.mono ?_
    rintro e w2 ⟨P2, L2, hQ⟩
    have hs := hQ.s
    obtain ⟨rfl, rfl, rfl⟩ := hQ.n HT.out
    have HQ := hid hs
    have HD := hid (Dr.qs HJ1.out HQ.out)
    have HR := hid (rabort_any w2 rb R HD.out.1)
    clear hQ hs HS x0 ol hp0
    go_wp2_with fail
    refine HR.out.mono ?_
    rintro e w3 ⟨R3, hQ3⟩
    obtain ⟨rfl, rfl⟩ := hQ3.n (HE.out.1 HT.out)
    have HF := hid (HJ1.out.stillR HQ.out hQ3.s)
    clear HR hQ3 HD
    go_wp2
    exact bodyPost_ret (v := .tuple #[.int .i64 last, .bool true]) (by simp [results, Try.results24, go_sem]) rfl ⟨last, P2, R3, ts, pt, tk, m, rfl, HF.out.1, (HF.out.2.later HB1.out)⟩
  · have HT := hid t0
    clear t0
    go_wp2_with fail
    refine HS.out.mono ?_
    rintro e w2 ⟨P2, L2, hQ⟩
    have hs := hQ.s
    obtain ⟨rfl, rfl, rfl⟩ := hQ.y HT.out
    have HQ := hid hs
    have HD := hid (Dr.qs HJ1.out HQ.out)
    have HR := hid (rabort_any w2 rb R HD.out.1)
    clear hQ hs HS x0 ol hp0
    go_wp2_with fail
    refine HR.out.mono ?_
    rintro e w3 ⟨R3, hQ3⟩
    obtain ⟨hn0, hn1, hn2⟩ := HE.out.2 HT.out
    obtain ⟨rfl, rfl⟩ := hQ3.y _ hn0
    have HF := hid (HJ1.out.over HQ.out rfl rfl rfl rfl (by omega) hn1 hQ3.s rfl rfl)
    have hid3 : (R.sh.item (P.sts.n - 1)).id = P.under := by rw [(HJ1.out.rx _ (by omega)).1, hn2]
    rw [hid3]
    clear HR hQ3 HD hn0 hn1 hn2 hid3
    go_wp2
    exact bodyPost_ret (v := .tuple #[.int .i64 last, .bool true]) (by simp [results, Try.results24, go_sem]) rfl ⟨last, (P.fin 4), (R.put (P.sts.n - 1) ((R.sh.item (P.sts.n - 1)).set 4)), [], pt, tk, m, rfl, HF.out.1, (HF.out.2.later HB1.out)⟩
set_option maxHeartbeats 8000000 in
theorem pl_settle (o : OpP) (last : Int) {w0 w : World} {b rb : Nat} {P : Ps} {R : Rp} {ts : List (Nat × PtT)} {pt : LT PtT} {tk : LT Int} {m : Nat} {F : Nat → Prop} (h : PR w0 w b rb P R ts pt tk m F) (hk : o.kind = 5) : Calls Try.prog 24 #[.pointer (some ⟨b, 0, none⟩), .pointer (some ⟨rb, 0, none⟩), .agg #[.int .i64 o.kind, .bool o.snd, .bool o.abs, .int .i64 o.id, .int .i64 o.task, .int .i64 o.pt.num, .slice o.pt.cl.p o.pt.cl.n o.pt.cl.c, .slice o.pt.lg.p o.pt.lg.n o.pt.lg.c, .slice o.pt.pd.p o.pt.pd.n o.pt.pd.c, .bool o.ok], .int .i64 last] w fun e w' => PlP w0 w b rb P R pt tk F e w' := by
  obtain ⟨W, hW⟩ : ∃ V, V = w.alloc (.cells #[.int .i64 o.kind, .bool o.snd, .bool o.abs, .int .i64 o.id, .int .i64 o.task, .int .i64 o.pt.num, .slice o.pt.cl.p o.pt.cl.n o.pt.cl.c, .slice o.pt.lg.p o.pt.lg.n o.pt.lg.c, .slice o.pt.pd.p o.pt.pd.n o.pt.pd.c, .bool o.ok] 41) := ⟨_, rfl⟩
  have hB : Below w.heap.size w W := by rw [hW]; exact (Below.refl _ _).alloc (Nat.le_refl _) _
  have hX : Box W w.heap.size #[.int .i64 o.kind, .bool o.snd, .bool o.abs, .int .i64 o.id, .int .i64 o.task, .int .i64 o.pt.num, .slice o.pt.cl.p o.pt.cl.n o.pt.cl.c, .slice o.pt.lg.p o.pt.lg.n o.pt.lg.c, .slice o.pt.pd.p o.pt.pd.n o.pt.pd.c, .bool o.ok] 41 := by rw [hW]; exact Box.new _ _ _
  have HB := hid hB
  have HX := hid hX
  have HW := hid hW
  have hJW := h.below hB
  have HJW := hid hJW
  have hp0 := hJW.g.i.box.lt
  have x0 := hX.cell 0
  have x1 := hX.cell 1
  have x2 := hX.cell 2
  have x3 := hX.cell 3
  have x4 := hX.cell 4
  have x5 := hX.cell 5
  have x6 := hX.cell 6
  have x7 := hX.cell 7
  have x8 := hX.cell 8
  have x9 := hX.cell 9
  have ol := hX.lt
  simp at x0 x1 x2 x3 x4 x5 x6 x7 x8 x9
  have HN := hid (number_any o last W)
  obtain ⟨id, hid0⟩ : ∃ x, x = o.num last := ⟨_, rfl⟩
  rw [← hid0] at HN
  have HK := hid hk
  have HXn : Hid (¬ P.C b w.heap.size ∧ w.heap.size ≠ P.ch ∧ ¬ Dr R rb pt tk w.heap.size) := ⟨fun e => by have := h.g.i.lt e; omega, fun e => by have := h.g.inb.lt; omega, fun e => by have := (h.g.dl _ (.inl e)).2.1; omega⟩
  clear hid0 h hJW hX hW hB hk
  go_enter Try.func24, Try.ntmps24
  go_wp2_with fail
  rw [← HW.out]
  refine HN.out.mono ?_
  rintro e w1 ⟨rfl, hb1⟩
  have HB1 := hid (HB.out.trans (hb1.mono HB.out.size))
  have HX1 := hid (HX.out.below hb1)
  have HJ1 := hid (HJW.out.below hb1)
  clear HN HX HW HB HJW hb1 hp0 ol x0 x1 x2 x3 x4 x5 x6 x7 x8 x9
  have x0 := HX1.out.cell 0
  have x9 := HX1.out.cell 9
  have ol := HX1.out.lt
  have hp0 := HJ1.out.g.i.box.lt
  simp at x0 x9
  rw [HK.out] at x0
  have HS := hid (settle_any id o.ok w1 b P HJ1.out.g.i)
  have HE := hid (HJ1.out.stat id)
  by_cases t0 : P.stat id = 2
  · have HT := hid t0
    clear t0
    go_wp2_with fail
    refine HS.out.mono ?_
    rintro e w2 ⟨P2, hQ⟩
    have hXn := HX1.out.kept (hQ.s.but.block _ HX1.out.lt HXn.out.1)
    obtain ⟨rfl, rfl⟩ := hQ.y HT.out
    have HQ := hid hQ.s
    have HD := hid (Dr.qs HJ1.out (hQ.s.qs HJ1.out.g.i HJ1.out.g.inb rfl rfl))
    have HR := hid (rsettle_any id o.ok w2 rb R HD.out.1)
    clear x9
    have x9 := hXn.cell 9
    have ol2 := hXn.lt
    simp at x9
    clear hQ HS x0 ol hp0 hXn
    go_wp2_with fail
    refine HR.out.mono ?_
    rintro e w3 ⟨R3, hQ3⟩
    obtain ⟨rfl, rfl⟩ := hQ3.y (by rw [HE.out]; exact HT.out)
    have hr := hQ3.s
    rw [HJ1.out.rf] at hr
    have hh : (id - P.first).toNat < P.sts.n ∧ P.sts.item (id - P.first).toNat = 2 := by
      have h2 := HT.out
      unfold Ps.stat Ps.next at h2
      split at h2
      · cases h2
      · exact ⟨by omega, h2⟩
    have HF := hid (HJ1.out.settled HQ.out hh.1 hh.2 (by split <;> omega) hr)
    clear HR hQ3 HD hr hh
    go_wp2
    exact bodyPost_ret (v := .tuple #[.int .i64 last, .bool true]) (by simp [results, Try.results24, go_sem]) rfl ⟨last, _, _, ts, pt, tk, m, rfl, HF.out.1, (HF.out.2.later HB1.out)⟩
  · have HT := hid t0
    clear t0
    go_wp2_with fail
    refine HS.out.mono ?_
    rintro e w2 ⟨P2, hQ⟩
    have hXn := HX1.out.kept (hQ.s.but.block _ HX1.out.lt HXn.out.1)
    obtain ⟨rfl, rfl⟩ := hQ.n HT.out
    have HQ := hid (hQ.s.qs HJ1.out.g.i HJ1.out.g.inb rfl rfl)
    have HD := hid (Dr.qs HJ1.out HQ.out)
    have HR := hid (rsettle_any id o.ok w2 rb R HD.out.1)
    clear x9
    have x9 := hXn.cell 9
    have ol2 := hXn.lt
    simp at x9
    clear hQ HS x0 ol hp0 hXn
    go_wp2_with fail
    refine HR.out.mono ?_
    rintro e w3 ⟨R3, hQ3⟩
    obtain ⟨rfl, rfl⟩ := hQ3.n (by rw [HE.out]; exact HT.out)
    have HF := hid (HJ1.out.stillR HQ.out hQ3.s)
    clear HR hQ3 HD
    go_wp2
    exact bodyPost_ret (v := .tuple #[.int .i64 last, .bool true]) (by simp [results, Try.results24, go_sem]) rfl ⟨last, P2, R3, ts, pt, tk, m, rfl, HF.out.1, (HF.out.2.later HB1.out)⟩
end Go.Proofs.Ytldkepokcbjlpaa

namespace Go.Proofs.Ytldkepokcbjlpaa
open Go.RowKit Go.Conc
set_option maxRecDepth 60000
theorem QS.below {w w1 w2 : World} {b : Nat} {P P1 : Ps} {L1 : List Value} (h : QS w b P w1 P1 L1) (hlt : P.ch < w.heap.size) (hb : Below w1.heap.size w1 w2) : QS w b P w2 P1 L1 :=
  h.trans hlt ((QSet.same h.inv hb).qs h.inv h.inb rfl rfl)
theorem intV_range (N : List Int) : intV N = (List.range N.length).flatMap fun j => elInt.cells (N.getD j 0) := by
  show N.map (.int .i64) = (List.range N.length).flatMap fun j => [Value.int .i64 (N.getD j 0)]
  induction N with
  | nil => rfl
  | cons x N ih =>
    rw [List.length_cons, List.range_succ_eq_map, List.flatMap_cons, List.map_cons, ih, List.flatMap_map]
    rfl
theorem WntQ.ints {w w' : World} {N : List Int} {p : Option Addr} {c : Nat} (h : WntQ w N (.slice p N.length c) w') (hN : ∀ x ∈ N, 0 ≤ x ∧ x < 12) (hl : N.length ≤ 12) : Ints w' (fun _ => True) p N.length c (fun j => N.getD j 0) := by
  have ho := h.own
  rw [intV_range] at ho
  have h1 : LT.In elInt w' (fun _ => True) ⟨p, N.length, c, fun j => N.getD j 0⟩ := own_in' (E := elInt) ho (fun _ _ => trivial) (fun j hj => by
    have hj' : j < N.length := hj
    have := hN (N.getD j 0) (by rw [List.getD_eq_getElem?_getD, List.getElem?_eq_getElem hj']; exact List.getElem_mem hj')
    exact (by omega : -9223372036854775808 ≤ N.getD j 0 ∧ N.getD j 0 ≤ 9223372036854775807)) (by show N.length ≤ _; omega)
  refine ⟨fun hn => ?_, h1.nc, h1.nn, h1.cc, fun j hj => h1.each j hj, h1.nil⟩
  obtain ⟨b, o, e, hS, hlt, ha⟩ := h1.at_ hn
  refine ⟨b, o, e, hS, hlt, fun j hj => ?_⟩
  have := ha j hj 0 (.int .i64 (N.getD j 0)) rfl
  have e2 : o + j * elInt.size + 0 = o + j := by show o + j * 1 + 0 = _; omega
  rw [e2] at this
  exact this
theorem Ps.wantsU_mem {P : Ps} : ∀ {k : Nat} {x : Int}, x ∈ P.wantsU k → 0 ≤ x ∧ x < (k : Int)
  | 0, x, h => by cases h
  | k + 1, x, h => by
    rw [Ps.wantsU] at h
    split at h
    · have := Ps.wantsU_mem h; omega
    · rcases List.mem_append.1 h with h1 | h1
      · have := Ps.wantsU_mem h1; omega
      · simp at h1; omega
theorem Un.wants {w : World} {b rb : Nat} {P : Ps} {R : Rp} {ts : List (Nat × PtT)} {pt : LT PtT} {tk : LT Int} {m : Nat} {D : Nat → Prop} (h : Un w b rb P R ts pt tk m D) : ∀ k : Nat, (k : Int) ≤ P.tasks → wantR tk m k = P.wantsU k
  | 0, _ => rfl
  | k + 1, hk => by
    have ih := h.wants k (by omega)
    have h2 := h.p2 k (by omega)
    rw [wantR, Ps.wantsU, ih]
    by_cases e : P.pl k = 2
    · rw [if_pos e, if_pos (h2.1 e)]
    · rw [if_neg e, if_neg (fun x => e (h2.2 x))]
def PR.N (P : Ps) : List Int := if P.under = 0 then [] else P.wants
theorem PR.ropen {w0 w : World} {b rb : Nat} {P : Ps} {R : Rp} {ts : List (Nat × PtT)} {pt : LT PtT} {tk : LT Int} {m : Nat} {F : Nat → Prop} (h : PR w0 w b rb P R ts pt tk m F) : Calls Try.prog 49 #[.pointer (some ⟨rb, 0, none⟩)] w fun e w' => ROpP w P.under (PR.N P) e w' := by
  unfold PR.N
  by_cases u0 : P.under = 0
  · rw [if_pos u0, u0]
    exact ropen_none w rb R h.ri (h.now.1 u0)
  · rw [if_neg u0]
    have hu := h.un u0
    have := ropen_some w rb R h.ri _ m pt tk hu.ru hu.pk
    have h1 := (h.now.2 u0).2.2
    rw [h.rt, hu.wants _ (by have := h.g.i.t0; omega), h.rf, h.rn, ← h1] at this
    exact this
theorem PR.N_le {w0 w : World} {b rb : Nat} {P : Ps} {R : Rp} {ts : List (Nat × PtT)} {pt : LT PtT} {tk : LT Int} {m : Nat} {F : Nat → Prop} (h : PR w0 w b rb P R ts pt tk m F) : (∀ x ∈ PR.N P, 0 ≤ x ∧ x < 12) ∧ (PR.N P).length ≤ 12 := by
  unfold PR.N
  have h1 := h.g.i.t1
  have h0 := h.g.i.t0
  split
  · exact ⟨fun x hx => (by cases hx), Nat.zero_le _⟩
  · refine ⟨fun x hx => ?_, ?_⟩
    · have := Ps.wantsU_mem hx; omega
    · have := P.wantsU_len P.tasks.toNat
      show (P.wantsU P.tasks.toNat).length ≤ 12
      omega
set_option maxHeartbeats 8000000 in
theorem pl_open (o : OpP) (last : Int) {w0 w : World} {b rb : Nat} {P : Ps} {R : Rp} {ts : List (Nat × PtT)} {pt : LT PtT} {tk : LT Int} {m : Nat} {F : Nat → Prop} (h : PR w0 w b rb P R ts pt tk m F) (hk : o.kind = 7) : Calls Try.prog 24 #[.pointer (some ⟨b, 0, none⟩), .pointer (some ⟨rb, 0, none⟩), .agg #[.int .i64 o.kind, .bool o.snd, .bool o.abs, .int .i64 o.id, .int .i64 o.task, .int .i64 o.pt.num, .slice o.pt.cl.p o.pt.cl.n o.pt.cl.c, .slice o.pt.lg.p o.pt.lg.n o.pt.lg.c, .slice o.pt.pd.p o.pt.pd.n o.pt.pd.c, .bool o.ok], .int .i64 last] w fun e w' => PlP w0 w b rb P R pt tk F e w' := by
  obtain ⟨W, hW⟩ : ∃ V, V = w.alloc (.cells #[.int .i64 o.kind, .bool o.snd, .bool o.abs, .int .i64 o.id, .int .i64 o.task, .int .i64 o.pt.num, .slice o.pt.cl.p o.pt.cl.n o.pt.cl.c, .slice o.pt.lg.p o.pt.lg.n o.pt.lg.c, .slice o.pt.pd.p o.pt.pd.n o.pt.pd.c, .bool o.ok] 41) := ⟨_, rfl⟩
  have hB : Below w.heap.size w W := by rw [hW]; exact (Below.refl _ _).alloc (Nat.le_refl _) _
  have hX : Box W w.heap.size #[.int .i64 o.kind, .bool o.snd, .bool o.abs, .int .i64 o.id, .int .i64 o.task, .int .i64 o.pt.num, .slice o.pt.cl.p o.pt.cl.n o.pt.cl.c, .slice o.pt.lg.p o.pt.lg.n o.pt.lg.c, .slice o.pt.pd.p o.pt.pd.n o.pt.pd.c, .bool o.ok] 41 := by rw [hW]; exact Box.new _ _ _
  have HB := hid hB
  have HX := hid hX
  have HW := hid hW
  have hJW := h.below hB
  have HJW := hid hJW
  have hp0 := hJW.g.i.box.lt
  have x0 := hX.cell 0
  have x1 := hX.cell 1
  have x2 := hX.cell 2
  have x3 := hX.cell 3
  have x4 := hX.cell 4
  have x5 := hX.cell 5
  have x6 := hX.cell 6
  have x7 := hX.cell 7
  have x8 := hX.cell 8
  have x9 := hX.cell 9
  have ol := hX.lt
  simp at x0 x1 x2 x3 x4 x5 x6 x7 x8 x9
  have HN := hid (number_any o last W)
  obtain ⟨id, hid0⟩ : ∃ x, x = o.num last := ⟨_, rfl⟩
  rw [← hid0] at HN
  have HK := hid hk
  have HXn : Hid (¬ P.C b w.heap.size ∧ w.heap.size ≠ P.ch ∧ ¬ Dr R rb pt tk w.heap.size) := ⟨fun e => by have := h.g.i.lt e; omega, fun e => by have := h.g.inb.lt; omega, fun e => by have := (h.g.dl _ (.inl e)).2.1; omega⟩
  clear hid0 h hJW hX hW hB hk
  go_enter Try.func24, Try.ntmps24
  go_wp2_with fail
  rw [← HW.out]
  refine HN.out.mono ?_
  rintro e w1 ⟨rfl, hb1⟩
  have HB1 := hid (HB.out.trans (hb1.mono HB.out.size))
  have HX1 := hid (HX.out.below hb1)
  have HJ1 := hid (HJW.out.below hb1)
  clear HN HX HW HB HJW hb1 hp0 ol x0 x1 x2 x3 x4 x5 x6 x7 x8 x9
  have x0 := HX1.out.cell 0
  have ol := HX1.out.lt
  have hp0 := HJ1.out.g.i.box.lt
  simp at x0
  rw [HK.out] at x0
  have HS := hid (open_any w1 b P HJ1.out.g.i)
  have HL := hid HJ1.out.N_le
  go_wp2_with fail
  refine HS.out.mono ?_
  rintro e w2 ⟨p2, c2, N2, hN2, rfl, hq2⟩
  have hN3 : N2 = PR.N P := hN2
  clear hN2
  subst hN3
  have HQ2 := hid hq2
  have HJ2 := hid (HJ1.out.same hq2.bel)
  have HR := hid HJ2.out.1.ropen
  clear hq2 HS x0 ol hp0
  go_wp2_with fail
  refine HR.out.mono ?_
  rintro e w3 ⟨p3, c3, rfl, hq3⟩
  have HJ3 := hid (HJ2.out.1.same hq3.bel)
  have HY := hid (yInts p2 p3 (PR.N P).length c2 c3 _ _ w3 _ _ (WntQ.ints (w := w1) ⟨ownsRow_keep HQ2.out.own (fun k _ hl => hq3.bel.block k hl), HQ2.out.bel.trans (hq3.bel.mono HQ2.out.bel.size)⟩ HL.out.1 HL.out.2) (hq3.ints HL.out.1 HL.out.2) (fun j _ => rfl))
  clear hq3 HR
  go_wp2_with fail
  refine HY.out.mono ?_
  rintro e w4 ⟨rfl, hb4⟩
  have HJ4 := hid (HJ3.out.1.same hb4)
  clear HY hb4
  go_wp2
  exact bodyPost_ret (v := .tuple #[.int .i64 last, .bool true]) (by simp [results, Try.results24, go_sem]) rfl ⟨last, P, R, ts, pt, tk, m, rfl, HJ4.out.1, (((HJ2.out.2.trans HJ3.out.2).trans HJ4.out.2).later HB1.out)⟩
theorem PR.rpick0 {w0 w : World} {b rb : Nat} {P : Ps} {R : Rp} {pt : LT PtT} {tk : LT Int} {m : Nat} {F : Nat → Prop} (h : PR w0 w b rb P R [] pt tk m F) : Calls Try.prog 44 #[.pointer (some ⟨rb, 0, none⟩)] w fun e w' => RpkN w e w' := by
  by_cases u0 : P.under = 0
  · exact rpick_idle w rb R h.ri (h.now.1 u0)
  · have hu := h.un u0
    refine rpick_none w rb R h.ri _ pt tk hu.ru ?_
    have h1 := hu.pk
    have h2 := hu.len
    have h3 := hu.ru.m
    simp at h2
    omega
set_option maxHeartbeats 8000000 in
theorem pl_pick0 (o : OpP) (last : Int) {w0 w : World} {b rb : Nat} {P : Ps} {R : Rp} {ts : List (Nat × PtT)} {pt : LT PtT} {tk : LT Int} {m : Nat} {F : Nat → Prop} (h : PR w0 w b rb P R ts pt tk m F) (hk : o.kind = 3 ∧ ts = []) : Calls Try.prog 24 #[.pointer (some ⟨b, 0, none⟩), .pointer (some ⟨rb, 0, none⟩), .agg #[.int .i64 o.kind, .bool o.snd, .bool o.abs, .int .i64 o.id, .int .i64 o.task, .int .i64 o.pt.num, .slice o.pt.cl.p o.pt.cl.n o.pt.cl.c, .slice o.pt.lg.p o.pt.lg.n o.pt.lg.c, .slice o.pt.pd.p o.pt.pd.n o.pt.pd.c, .bool o.ok], .int .i64 last] w fun e w' => PlP w0 w b rb P R pt tk F e w' := by
  obtain ⟨W, hW⟩ : ∃ V, V = w.alloc (.cells #[.int .i64 o.kind, .bool o.snd, .bool o.abs, .int .i64 o.id, .int .i64 o.task, .int .i64 o.pt.num, .slice o.pt.cl.p o.pt.cl.n o.pt.cl.c, .slice o.pt.lg.p o.pt.lg.n o.pt.lg.c, .slice o.pt.pd.p o.pt.pd.n o.pt.pd.c, .bool o.ok] 41) := ⟨_, rfl⟩
  have hB : Below w.heap.size w W := by rw [hW]; exact (Below.refl _ _).alloc (Nat.le_refl _) _
  have hX : Box W w.heap.size #[.int .i64 o.kind, .bool o.snd, .bool o.abs, .int .i64 o.id, .int .i64 o.task, .int .i64 o.pt.num, .slice o.pt.cl.p o.pt.cl.n o.pt.cl.c, .slice o.pt.lg.p o.pt.lg.n o.pt.lg.c, .slice o.pt.pd.p o.pt.pd.n o.pt.pd.c, .bool o.ok] 41 := by rw [hW]; exact Box.new _ _ _
  have HB := hid hB
  have HX := hid hX
  have HW := hid hW
  have hJW := h.below hB
  have HJW := hid hJW
  have hp0 := hJW.g.i.box.lt
  have x0 := hX.cell 0
  have x1 := hX.cell 1
  have x2 := hX.cell 2
  have x3 := hX.cell 3
  have x4 := hX.cell 4
  have x5 := hX.cell 5
  have x6 := hX.cell 6
  have x7 := hX.cell 7
  have x8 := hX.cell 8
  have x9 := hX.cell 9
  have ol := hX.lt
  simp at x0 x1 x2 x3 x4 x5 x6 x7 x8 x9
  have HN := hid (number_any o last W)
  obtain ⟨id, hid0⟩ : ∃ x, x = o.num last := ⟨_, rfl⟩
  rw [← hid0] at HN
  have HK := hid hk
  have HXn : Hid (¬ P.C b w.heap.size ∧ w.heap.size ≠ P.ch ∧ ¬ Dr R rb pt tk w.heap.size) := ⟨fun e => by have := h.g.i.lt e; omega, fun e => by have := h.g.inb.lt; omega, fun e => by have := (h.g.dl _ (.inl e)).2.1; omega⟩
  clear hid0 h hJW hX hW hB hk
  go_enter Try.func24, Try.ntmps24
  go_wp2_with fail
  rw [← HW.out]
  refine HN.out.mono ?_
  rintro e w1 ⟨rfl, hb1⟩
  have HB1 := hid (HB.out.trans (hb1.mono HB.out.size))
  have HX1 := hid (HX.out.below hb1)
  have HJ1 := hid (HJW.out.below hb1)
  clear HN HX HW HB HJW hb1 hp0 ol x0 x1 x2 x3 x4 x5 x6 x7 x8 x9
  have x0 := HX1.out.cell 0
  have ol := HX1.out.lt
  have hp0 := HJ1.out.g.i.box.lt
  simp at x0
  rw [HK.out.1] at x0
  obtain rfl := HK.out.2
  obtain ⟨sc, rc, hch⟩ := HJ1.out.g.inb.ch
  have HPn := hid (pick_none w1 b P HJ1.out.g.i _ sc rc hch)
  clear hch
  go_wp2_with fail
  refine HPn.out.mono ?_
  rintro e w2 ⟨rfl, hb2⟩
  have HJ2 := hid (HJ1.out.same (hb2.trans (Below.mono (show Below w2.heap.size w2 (w2.alloc (.cells #[.int .i64 0, .int .u32 0, .slice none 0 0] 48)) from ((Below.refl _ _).alloc (Nat.le_refl _) _)) hb2.size)))
  have HXs := hid (Box.new w2 #[.int .i64 0, .int .u32 0, .slice none 0 0] 48)
  have HR := hid HJ2.out.1.rpick0
  clear hb2 HPn x0 ol hp0
  go_wp2_with fail
  refine HR.out.mono ?_
  rintro e w3 ⟨rfl, hb3⟩
  have HXt := hid ((HXs.out.below hb3).below (show Below w3.heap.size w3 (w3.alloc (.cells #[.int .i64 0, .int .u32 0, .slice none 0 0] 48)) from ((Below.refl _ _).alloc (Nat.le_refl _) _)))
  have HJ3 := hid (HJ2.out.1.same (hb3.trans (Below.mono (show Below w3.heap.size w3 (w3.alloc (.cells #[.int .i64 0, .int .u32 0, .slice none 0 0] 48)) from ((Below.refl _ _).alloc (Nat.le_refl _) _)) hb3.size)))
  have z0 := HXt.out.cell 0
  have z1 := HXt.out.cell 1
  have z2 := HXt.out.cell 2
  have zl := HXt.out.lt
  simp at z0 z1 z2 zl
  have HY := hid (yShot0 (w3.alloc (.cells #[.int .i64 0, .int .u32 0, .slice none 0 0] 48)))
  clear hb3 HR
  go_wp2_with fail
  refine HY.out.mono ?_
  rintro e w4 ⟨rfl, hb4⟩
  have HJ4 := hid (HJ3.out.1.same hb4)
  clear HY hb4 z0 z1 z2 zl
  go_wp2
  exact bodyPost_ret (v := .tuple #[.int .i64 last, .bool true]) (by simp [results, Try.results24, go_sem]) rfl ⟨last, P, R, [], pt, tk, m, rfl, HJ4.out.1, (((HJ2.out.2.trans HJ3.out.2).trans HJ4.out.2).later HB1.out)⟩
end Go.Proofs.Ytldkepokcbjlpaa
