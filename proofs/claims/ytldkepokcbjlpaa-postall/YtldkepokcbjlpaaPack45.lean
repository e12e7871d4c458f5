import Derived.Test.YtldkepokcbjlpaaPack44
namespace Go.Proofs.Ytldkepokcbjlpaa
open Go.RowKit Go.Conc
set_option maxRecDepth 60000
theorem PR.next {w0 w : World} {b rb : Nat} {P : Ps} {R : Rp} {q : Nat × PtT} {ts : List (Nat × PtT)} {pt : LT PtT} {tk : LT Int} {m : Nat} {F : Nat → Prop} (h : PR w0 w b rb P R (q :: ts) pt tk m F) : ¬ P.under = 0 ∧ RU w rb R (P.sts.n - 1) pt tk ∧ (R.sh.item (P.sts.n - 1)).pk = (m : Int) ∧ m < pt.n ∧ q.1 < 12 ∧ 0 < P.sts.n ∧ tk.item m = (q.1 : Int) ∧ m < tk.n ∧ (¬ (P.gath q.1 q.2).wants = [] ↔ (m : Int) + 1 < P.tasks) := by
  have hun : ¬ P.under = 0 := fun e => by have := (h.g.un e).1; cases this
  have hu := h.un hun
  have hru := hu.ru
  have hpk := hu.pk
  rw [h.rn] at hru hpk
  have hl := hu.len
  simp only [List.length_cons] at hl
  have hm := hru.m
  have h0 := hu.ord 0 q.1 q.2 rfl
  have h1 := h.g.wants1
  have h2 := hu.wl
  have h3 := h.g.i.t0
  have h4 := h.g.i.t1
  have h5 := (h.g.one q (List.mem_cons_self ..)).1
  refine ⟨hun, hru, hpk, by omega, by omega, (Ps.last1 hun).1, by simpa using h0, by omega, ?_⟩
  cases hq : (P.gath q.1 q.2).wants with
  | nil =>
    rw [hq] at h1
    simp only [List.length_nil] at h1
    refine ⟨fun e => absurd rfl e, fun e => by omega⟩
  | cons x l =>
    rw [hq] at h1
    simp only [List.length_cons] at h1
    refine ⟨fun _ => by omega, fun _ e => by cases e⟩
theorem RU.qs {w0 w w' : World} {b rb n : Nat} {P P' : Ps} {L' : List Value} {R : Rp} {ts : List (Nat × PtT)} {pt : LT PtT} {tk : LT Int} {m : Nat} {F : Nat → Prop} (hu : RU w rb R n pt tk) (h : PR w0 w b rb P R ts pt tk m F) (s : QS w b P w' P' L') : RU w' rb R n pt tk := (Dr.qs h s).2 n hu
set_option maxHeartbeats 8000000 in
theorem pl_more (o : OpP) (last : Int) {w0 w : World} {b rb : Nat} {P : Ps} {R : Rp} {q : Nat × PtT} {ts : List (Nat × PtT)} {pt : LT PtT} {tk : LT Int} {m : Nat} {F : Nat → Prop} (h : PR w0 w b rb P R (q :: ts) pt tk m F) (hk : o.kind = 3 ∧ ¬ (P.gath q.1 q.2).wants = []) : Calls Try.prog 24 #[.pointer (some ⟨b, 0, none⟩), .pointer (some ⟨rb, 0, none⟩), .agg #[.int .i64 o.kind, .bool o.snd, .bool o.abs, .int .i64 o.id, .int .i64 o.task, .int .i64 o.pt.num, .slice o.pt.cl.p o.pt.cl.n o.pt.cl.c, .slice o.pt.lg.p o.pt.lg.n o.pt.lg.c, .slice o.pt.pd.p o.pt.pd.n o.pt.pd.c, .bool o.ok], .int .i64 last] w fun e w' => PlP w0 w b rb P R pt tk F e w' := by
  obtain ⟨W, hW⟩ : ∃ V, V = w.alloc (.cells #[.int .i64 o.kind, .bool o.snd, .bool o.abs, .int .i64 o.id, .int .i64 o.task, .int .i64 o.pt.num, .slice o.pt.cl.p o.pt.cl.n o.pt.cl.c, .slice o.pt.lg.p o.pt.lg.n o.pt.lg.c, .slice o.pt.pd.p o.pt.pd.n o.pt.pd.c, .bool o.ok] 41) := ⟨_, rfl⟩
  have hB : Below w.heap.size w W := by rw [hW]; exact (Below.refl _ _).alloc (Nat.le_refl _) _
  have hX : Box W w.heap.size #[.int .i64 o.kind, .bool o.snd, .bool o.abs, .int .i64 o.id, .int .i64 o.task, .int .i64 o.pt.num, .slice o.pt.cl.p o.pt.cl.n o.pt.cl.c, .slice o.pt.lg.p o.pt.lg.n o.pt.lg.c, .slice o.pt.pd.p o.pt.pd.n o.pt.pd.c, .bool o.ok] 41 := by rw [hW]; exact Box.new _ _ _
  have HB := hid hB
  have HX := hid hX
  have HW := hid hW
  have hJW := h.below hB
  have HJW := hid hJW
  have hp0 := hJW.g.i.box.lt
  have x0 := hX.cell 0
  have x1 := hX.cell 1
  have x2 := hX.cell 2
  have x3 := hX.cell 3
  have x4 := hX.cell 4
  have x5 := hX.cell 5
  have x6 := hX.cell 6
  have x7 := hX.cell 7
  have x8 := hX.cell 8
  have x9 := hX.cell 9
  have ol := hX.lt
  simp at x0 x1 x2 x3 x4 x5 x6 x7 x8 x9
  have HN := hid (number_any o last W)
  obtain ⟨id, hid0⟩ : ∃ x, x = o.num last := ⟨_, rfl⟩
  rw [← hid0] at HN
  have HK := hid hk
  have HXn : Hid (¬ P.C b w.heap.size ∧ w.heap.size ≠ P.ch ∧ ¬ Dr R rb pt tk w.heap.size) := ⟨fun e => by have := h.g.i.lt e; omega, fun e => by have := h.g.inb.lt; omega, fun e => by have := (h.g.dl _ (.inl e)).2.1; omega⟩
  clear hid0 h hJW hX hW hB hk
  go_enter Try.func24, Try.ntmps24
  go_wp2_with fail
  rw [← HW.out]
  refine HN.out.mono ?_
  rintro e w1 ⟨rfl, hb1⟩
  have HB1 := hid (HB.out.trans (hb1.mono HB.out.size))
  have HX1 := hid (HX.out.below hb1)
  have HJ1 := hid (HJW.out.below hb1)
  clear HN HX HW HB HJW hb1 hp0 ol x0 x1 x2 x3 x4 x5 x6 x7 x8 x9
  have x0 := HX1.out.cell 0
  have ol := HX1.out.lt
  have hp0 := HJ1.out.g.i.box.lt
  simp at x0
  rw [HK.out.1] at x0
  have HNx := hid HJ1.out.next
  have HPk := hid (pick_some q.1 HNx.out.2.2.2.2.1 q.2 (lets ts) w1 b P HJ1.out.g.i HJ1.out.g.inb HNx.out.2.2.2.2.2.1)
  go_wp2_with fail
  refine HPk.out.mono ?_
  rintro e w2 ⟨P2, hQ⟩
  have hs := hQ.s
  obtain ⟨rfl, rfl⟩ := hQ.n HK.out.2
  have HSz := hid hs.but.size
  have HS := hid (hs.below HJ1.out.g.inb.lt (show Below w2.heap.size w2 (w2.alloc (.cells #[.int .i64 0, .int .u32 0, .slice none 0 0] 48)) from ((Below.refl _ _).alloc (Nat.le_refl _) _)))
  have HXs := hid (Box.new w2 #[.int .i64 0, .int .u32 0, .slice none 0 0] 48)
  have HR := hid (rpick_more (w2.alloc (.cells #[.int .i64 0, .int .u32 0, .slice none 0 0] 48)) rb R (Dr.qs HJ1.out HS.out).1 _ m pt tk (HNx.out.2.1.qs HJ1.out HS.out) HNx.out.2.2.1 HNx.out.2.2.2.1 (by rw [HJ1.out.rt]; exact HNx.out.2.2.2.2.2.2.2.2.1 HK.out.2))
  clear hs hQ HPk x0 ol hp0
  go_wp2_with fail
  refine HR.out.mono ?_
  rintro e w3 hM
  obtain rfl := hM.e
  have hnd : ¬ R.C rb w2.heap.size := fun e => by have := (HJ1.out.g.dl _ (.inl (.inl e))).2.1; have := HSz.out; omega
  have HXt := hid ((HXs.out.kept (hM.s.but.block _ HXs.out.lt hnd)).below (show Below w3.heap.size w3 (w3.alloc (.cells #[.int .i64 0, .int .u32 0, .slice none 0 0] 48)) from ((Below.refl _ _).alloc (Nat.le_refl _) _)))
  have HJ3 := hid (HJ1.out.more HS.out hM.s)
  have z0 := HXt.out.cell 0
  have z1 := HXt.out.cell 1
  have z2 := HXt.out.cell 2
  have zl := HXt.out.lt
  simp at z0 z1 z2 zl
  have HY := hid (yShot0 (w3.alloc (.cells #[.int .i64 0, .int .u32 0, .slice none 0 0] 48)))
  clear hM HR hnd
  go_wp2_with fail
  refine HY.out.mono ?_
  rintro e w4 ⟨rfl, hb4⟩
  have HB4 : Hid (Below w3.heap.size w3 w4) := (show Below w3.heap.size w3 (w3.alloc (.cells #[.int .i64 0, .int .u32 0, .slice none 0 0] 48)) from ((Below.refl _ _).alloc (Nat.le_refl _) _)).trans (hb4.mono (by simp))
  clear HY hb4 z0 z1 z2 zl
  go_wp2
  exact bodyPost_ret (v := .tuple #[.int .i64 last, .bool true]) (by simp [results, Try.results24, go_sem]) rfl ⟨last, _, _, ts, pt, tk, (m + 1), rfl, (HJ3.out.1.below HB4.out), ((HJ3.out.2.then_ HB4.out).later HB1.out)⟩
set_option maxHeartbeats 8000000 in
theorem pl_last (o : OpP) (last : Int) {w0 w : World} {b rb : Nat} {P : Ps} {R : Rp} {q : Nat × PtT} {ts : List (Nat × PtT)} {pt : LT PtT} {tk : LT Int} {m : Nat} {F : Nat → Prop} (h : PR w0 w b rb P R (q :: ts) pt tk m F) (hk : o.kind = 3 ∧ (P.gath q.1 q.2).wants = []) : Calls Try.prog 24 #[.pointer (some ⟨b, 0, none⟩), .pointer (some ⟨rb, 0, none⟩), .agg #[.int .i64 o.kind, .bool o.snd, .bool o.abs, .int .i64 o.id, .int .i64 o.task, .int .i64 o.pt.num, .slice o.pt.cl.p o.pt.cl.n o.pt.cl.c, .slice o.pt.lg.p o.pt.lg.n o.pt.lg.c, .slice o.pt.pd.p o.pt.pd.n o.pt.pd.c, .bool o.ok], .int .i64 last] w fun e w' => PlP w0 w b rb P R pt tk F e w' := by
  obtain ⟨W, hW⟩ : ∃ V, V = w.alloc (.cells #[.int .i64 o.kind, .bool o.snd, .bool o.abs, .int .i64 o.id, .int .i64 o.task, .int .i64 o.pt.num, .slice o.pt.cl.p o.pt.cl.n o.pt.cl.c, .slice o.pt.lg.p o.pt.lg.n o.pt.lg.c, .slice o.pt.pd.p o.pt.pd.n o.pt.pd.c, .bool o.ok] 41) := ⟨_, rfl⟩
  have hB : Below w.heap.size w W := by rw [hW]; exact (Below.refl _ _).alloc (Nat.le_refl _) _
  have hX : Box W w.heap.size #[.int .i64 o.kind, .bool o.snd, .bool o.abs, .int .i64 o.id, .int .i64 o.task, .int .i64 o.pt.num, .slice o.pt.cl.p o.pt.cl.n o.pt.cl.c, .slice o.pt.lg.p o.pt.lg.n o.pt.lg.c, .slice o.pt.pd.p o.pt.pd.n o.pt.pd.c, .bool o.ok] 41 := by rw [hW]; exact Box.new _ _ _
  have HB := hid hB
  have HX := hid hX
  have HW := hid hW
  have hJW := h.below hB
  have HJW := hid hJW
  have hp0 := hJW.g.i.box.lt
  have x0 := hX.cell 0
  have x1 := hX.cell 1
  have x2 := hX.cell 2
  have x3 := hX.cell 3
  have x4 := hX.cell 4
  have x5 := hX.cell 5
  have x6 := hX.cell 6
  have x7 := hX.cell 7
  have x8 := hX.cell 8
  have x9 := hX.cell 9
  have ol := hX.lt
  simp at x0 x1 x2 x3 x4 x5 x6 x7 x8 x9
  have HN := hid (number_any o last W)
  obtain ⟨id, hid0⟩ : ∃ x, x = o.num last := ⟨_, rfl⟩
  rw [← hid0] at HN
  have HK := hid hk
  have HXn : Hid (¬ P.C b w.heap.size ∧ w.heap.size ≠ P.ch ∧ ¬ Dr R rb pt tk w.heap.size) := ⟨fun e => by have := h.g.i.lt e; omega, fun e => by have := h.g.inb.lt; omega, fun e => by have := (h.g.dl _ (.inl e)).2.1; omega⟩
  clear hid0 h hJW hX hW hB hk
  go_enter Try.func24, Try.ntmps24
  go_wp2_with fail
  rw [← HW.out]
  refine HN.out.mono ?_
  rintro e w1 ⟨rfl, hb1⟩
  have HB1 := hid (HB.out.trans (hb1.mono HB.out.size))
  have HX1 := hid (HX.out.below hb1)
  have HJ1 := hid (HJW.out.below hb1)
  clear HN HX HW HB HJW hb1 hp0 ol x0 x1 x2 x3 x4 x5 x6 x7 x8 x9
  have x0 := HX1.out.cell 0
  have ol := HX1.out.lt
  have hp0 := HJ1.out.g.i.box.lt
  simp at x0
  rw [HK.out.1] at x0
  have HNx := hid HJ1.out.next
  have HPk := hid (pick_some q.1 HNx.out.2.2.2.2.1 q.2 (lets ts) w1 b P HJ1.out.g.i HJ1.out.g.inb HNx.out.2.2.2.2.2.1)
  go_wp2_with fail
  refine HPk.out.mono ?_
  rintro e w2 ⟨P2, hQ⟩
  have hs := hQ.s
  obtain ⟨rfl, pp, cp, T, hT, rfl, hrow⟩ := hQ.y HK.out.2
  have hts : ts = [] := HJ1.out.g.rest HK.out.2
  have HS0 := hid hs
  have HS := hid (hs.below HJ1.out.g.inb.lt (show Below w2.heap.size w2 (w2.alloc (.cells #[.int .i64 P.under, .int .u32 P.sum, .slice pp T cp] 48)) from ((Below.refl _ _).alloc (Nat.le_refl _) _)))
  have HXs := hid (Box.new w2 #[.int .i64 P.under, .int .u32 P.sum, .slice pp T cp] 48)
  have hun := HJ1.out.un HNx.out.1
  have hT1 := HJ1.out.g.i.t1
  have hall0 : ∀ t : Nat, t < T → (P.gath q.1 q.2).pl t = 2 := fun t ht => Ps.wantsU_nil HK.out.2 t (by show t < P.tasks.toNat; omega)
  have hall : ∀ t : Nat, t < T → ∃ i, i < tk.n ∧ tk.item i = (t : Int) := fun t ht => by
    have h1 : (if t = q.1 then (2 : Int) else P.pl t) = 2 := hall0 t ht
    by_cases e : t = q.1
    · exact ⟨m, HNx.out.2.2.2.2.2.2.2.1, by rw [HNx.out.2.2.2.2.2.2.1, e]⟩
    · rw [if_neg e] at h1
      have h2 := (hun.p2 t (by omega)).1 h1
      unfold inT at h2
      rw [List.any_eq_true] at h2
      obtain ⟨i, hi, hi2⟩ := h2
      have := List.mem_range.1 hi
      have := HNx.out.2.2.2.2.2.2.2.1
      exact ⟨i, by omega, by simpa using hi2⟩
  have HR := hid (rpick_last (w2.alloc (.cells #[.int .i64 P.under, .int .u32 P.sum, .slice pp T cp] 48)) rb R (Out P b (fun k => Dr R rb pt tk k ∨ F k)) (Dr.qs HJ1.out HS.out).1 _ m T pt tk (HNx.out.2.1.qs HJ1.out HS.out) HNx.out.2.2.1 HNx.out.2.2.2.1 (by rw [HJ1.out.rt]; exact hT) (by rw [← hT]; exact fun e => HNx.out.2.2.2.2.2.2.2.2.2 e HK.out.2) hall (fun i hi => ⟨(hun.pi i hi).1.qs HS.out, (hun.pi i hi).2⟩) (fun k hk e => hk.2.2 (.inl (.inl e))))
  have hin2 : LT.In elPt w2 (fun k => Out P b (fun k => Dr R rb pt tk k ∨ F k) k ∨ (Value.slice pp T cp).ownBlock = some k) ⟨pp, T, cp, (P.gath q.1 q.2).pt⟩ := own_in' (E := elPt) (l := ⟨pp, T, cp, (P.gath q.1 q.2).pt⟩) hrow (fun k hk => .inr hk) (fun j hj => (((HJ1.out.g.gath hs).2 j (by have hj' : j < T := hj; omega) (hall0 j hj)).2).mono (fun k hk _ => .inl hk)) (by show T ≤ _; omega)
  have HIn := hid hin2
  have HRw := hid hrow
  have Hcn : Hid (∀ t, t < T → CnR pt tk t ((P.gath q.1 q.2).pt t) ∧ PtIn w2 (Out P b (fun k => Dr R rb pt tk k ∨ F k)) ((P.gath q.1 q.2).pt t)) := fun t ht => (HJ1.out.g.gath hs).2 t (by omega) (hall0 t ht)
  clear hs hQ HPk x0 ol hp0 hT hT1 hall0 hall hun hin2 hrow
  go_wp2_with fail
  refine HR.out.mono ?_
  rintro e w3 ⟨v, hM⟩
  obtain rfl := hM.e
  have hsz : w1.heap.size ≤ w2.heap.size := HS0.out.but.size
  have hRC : ∀ k, R.C rb k → k < w1.heap.size := fun k e => (HJ1.out.g.dl _ (.inl (.inl e))).2.1
  have hnd : ¬ R.C rb w2.heap.size := fun e => by have := hRC _ e; omega
  have HXt := hid ((HXs.out.kept (hM.s.but.block _ HXs.out.lt hnd)).below (show Below w3.heap.size w3 (w3.alloc (.cells #[.int .i64 P.under, .int .u32 P.sum, .slice v.p v.n v.c] 48)) from ((Below.refl _ _).alloc (Nat.le_refl _) _)))
  have hid3 : R.first + ((P.sts.n - 1 : Nat) : Int) = P.under := by rw [HJ1.out.rf]; exact ((HJ1.out.now.2 HNx.out.1).2.2).symm
  rw [hid3, HJ1.out.rs]
  have HJ3 := hid (HJ1.out.over (P1 := P.gath q.1 q.2) (x := 2) (by have h9 := HS.out; rw [hts] at h9; exact h9) rfl rfl rfl rfl (by omega) HNx.out.2.2.2.2.2.1 hM.s rfl rfl)
  have hM2 : LT.In elPt (w3.alloc (.cells #[.int .i64 P.under, .int .u32 P.sum, .slice v.p v.n v.c] 48)) (fun k => Out P b (fun k => Dr R rb pt tk k ∨ F k) k ∨ (Value.slice pp T cp).ownBlock = some k) ⟨pp, T, cp, (P.gath q.1 q.2).pt⟩ := HIn.out.kept (Nat.le_trans (Nat.le_trans (by simp) hM.s.but.size) (by simp)) (fun k hk hl => by
    have hk3 : k < w3.heap.size := Nat.lt_of_lt_of_le (Nat.lt_of_lt_of_le hl (by simp)) hM.s.but.size
    have h1 := (show Below w3.heap.size w3 (w3.alloc (.cells #[.int .i64 P.under, .int .u32 P.sum, .slice v.p v.n v.c] 48)) from ((Below.refl _ _).alloc (Nat.le_refl _) _)).block k hk3
    have h2 := (show Below w2.heap.size w2 (w2.alloc (.cells #[.int .i64 P.under, .int .u32 P.sum, .slice pp T cp] 48)) from ((Below.refl _ _).alloc (Nat.le_refl _) _)).block k hl
    refine h1.trans ((hM.s.but.block k (Nat.lt_of_lt_of_le hl (by simp)) (fun e => ?_)).trans h2)
    rcases hk with hk | hk
    · exact hk.2.2 (.inl (.inl e))
    · have := (HRw.out.lt k hk).1
      have := hRC k e
      omega)
  have HY := hid (yShot P.under P.sum ⟨pp, T, cp, (P.gath q.1 q.2).pt⟩ v (w3.alloc (.cells #[.int .i64 P.under, .int .u32 P.sum, .slice v.p v.n v.c] 48)) _ _ hM2 (hM.i.kept (by simp) (fun k _ hl => (show Below w3.heap.size w3 (w3.alloc (.cells #[.int .i64 P.under, .int .u32 P.sum, .slice v.p v.n v.c] 48)) from ((Below.refl _ _).alloc (Nat.le_refl _) _)).block k hl)) hM.n (fun t ht => by
    obtain ⟨i, hi, hi1, hi2⟩ := hM.a t ht
    obtain ⟨⟨j, hj, hj1, hj2⟩, hpin⟩ := Hcn.out t ht
    have := HNx.out.2.1.nd i j hi hj (by rw [hi1, hj1])
    subst this
    exact hj2.two hi2 hpin))
  have z0 := HXt.out.cell 0
  have z1 := HXt.out.cell 1
  have z2 := HXt.out.cell 2
  have zl := HXt.out.lt
  simp at z0 z1 z2 zl
  clear hM HR hnd hRC hsz hM2 hid3 hts
  go_wp2_with fail
  refine HY.out.mono ?_
  rintro e w4 ⟨rfl, hb4⟩
  have HB4 : Hid (Below w3.heap.size w3 w4) := (show Below w3.heap.size w3 (w3.alloc (.cells #[.int .i64 P.under, .int .u32 P.sum, .slice v.p v.n v.c] 48)) from ((Below.refl _ _).alloc (Nat.le_refl _) _)).trans (hb4.mono (by simp))
  clear HY hb4 z0 z1 z2 zl
  go_wp2
  exact bodyPost_ret (v := .tuple #[.int .i64 last, .bool true]) (by simp [results, Try.results24, go_sem]) rfl ⟨last, _, _, [], pt, tk, m, rfl, (HJ3.out.1.below HB4.out), ((HJ3.out.2.then_ HB4.out).later HB1.out)⟩
end Go.Proofs.Ytldkepokcbjlpaa

namespace Go.Proofs.Ytldkepokcbjlpaa
open Go.RowKit Go.Conc
set_option maxRecDepth 60000
theorem inT_some {tk : LT Int} {n : Nat} {t : Int} : inT tk n t = true ↔ ∃ i, i < n ∧ tk.item i = t := by
  unfold inT
  rw [List.any_eq_true]
  constructor
  · rintro ⟨i, h1, h2⟩
    exact ⟨i, List.mem_range.1 h1, by simpa using h2⟩
  · rintro ⟨i, h1, h2⟩
    exact ⟨i, List.mem_range.2 h1, by simpa using h2⟩
theorem RU.room {w : World} {b : Nat} {R : Rp} {n : Nat} {pt : LT PtT} {tk : LT Int} (h : RU w b R n pt tk) {task : Int} (h0 : 0 ≤ task) (h1 : task < R.tasks) (hno : ∀ i, i < tk.n → tk.item i ≠ task) : tk.n < R.tasks.toNat := by
  have := room_lt R.tasks.toNat ((List.range tk.n).map fun i => (tk.item i).toNat) (by
    unfold List.Nodup
    rw [List.pairwise_map]
    refine List.Pairwise.imp_of_mem (fun {a c} ha hc hne e => ?_) (List.nodup_range (n := tk.n))
    have ha' := List.mem_range.1 ha
    have hc' := List.mem_range.1 hc
    have ta := h.tb a ha'
    have tc := h.tb c hc'
    exact hne (h.nd a c ha' hc' (by omega))) (fun a ha => by
    obtain ⟨i, hi, rfl⟩ := List.mem_map.1 ha
    have := h.tb i (List.mem_range.1 hi)
    omega) task.toNat (by omega) (fun hm => by
    obtain ⟨i, hi, e⟩ := List.mem_map.1 hm
    have hi' := List.mem_range.1 hi
    have := h.tb i hi'
    exact hno i hi' (by omega))
  simpa using this
theorem PR.rrefused {w0 w : World} {b rb : Nat} {P : Ps} {R : Rp} {ts : List (Nat × PtT)} {pt : LT PtT} {tk : LT Int} {m : Nat} {F : Nat → Prop} (h : PR w0 w b rb P R ts pt tk m F) (id task : Int) (x : PtT) (hr : ¬ P.refE id task = 0) : Calls Try.prog 43 #[.pointer (some ⟨rb, 0, none⟩), .int .i64 id, .int .i64 task, .agg #[.int .i64 x.num, .slice x.cl.p x.cl.n x.cl.c, .slice x.lg.p x.lg.n x.lg.c, .slice x.pd.p x.pd.n x.pd.c]] w fun e w' => e = .returned (.int .i64 (P.refE id task)) ∧ Below w.heap.size w w' := by
  unfold Ps.refE at hr ⊢
  by_cases t0 : task < 0 ∨ P.tasks ≤ task
  · rw [if_pos t0]
    exact rhand_task id task x w rb R h.ri (by rw [h.rt]; exact t0)
  rw [if_neg t0] at hr ⊢
  have ta : ¬ task < 0 := fun e => t0 (.inl e)
  have tb : ¬ R.tasks ≤ task := fun e => t0 (.inr (by rw [← h.rt]; exact e))
  by_cases u0 : P.under = 0
  · rw [if_pos (.inl u0)]
    exact rhand_none id task x w rb R h.ri ta tb (h.now.1 u0)
  have hu := h.un u0
  have hid := (h.now.2 u0).2.2
  rw [← h.rf, ← h.rn] at hid
  by_cases e0 : id = P.under
  · rw [if_neg (fun e => by rcases e with e | e; exact u0 e; exact e e0)] at hr ⊢
    by_cases p0 : P.pl task.toNat ≠ 0
    · rw [if_pos p0]
      obtain ⟨i, hi, hit⟩ := inT_some.1 ((hu.p0 task.toNat (by omega)).1 p0)
      rw [e0, hid]
      exact rhand_twice task x w rb R h.ri _ pt tk hu.ru ta tb i hi (by omega)
    · exact absurd (if_neg p0) hr
  · rw [if_pos (.inr e0)]
    exact rhand_other id task x w rb R h.ri _ pt tk hu.ru ta tb (fun e => e0 (by rw [hid]; exact e.symm))
/-- the reference's answer to a part that is taken in -/
theorem PR.rtaken {w0 w w1 : World} {b rb : Nat} {P P1 : Ps} {R : Rp} {ts : List (Nat × PtT)} {pt : LT PtT} {tk : LT Int} {m : Nat} {F : Nat → Prop} (h : PR w0 w b rb P R ts pt tk m F) {L1 : List Value} (s : QS w b P w1 P1 L1) (id : Int) (i : Nat) (x : PtT) (S : Nat → Prop) (hr : P.refE id (i : Int) = 0) (hi : PtIn w1 S x) (hz : PtSz x) : Calls Try.prog 43 #[.pointer (some ⟨rb, 0, none⟩), .int .i64 id, .int .i64 (i : Int), .agg #[.int .i64 x.num, .slice x.cl.p x.cl.n x.cl.c, .slice x.lg.p x.lg.n x.lg.c, .slice x.pd.p x.pd.n x.pd.c]] w1 fun e w' => e = .returned (.int .i64 0) ∧ ∃ u pp cp tp ct, RHdQ (i : Int) x w1 rb R (R.sh.n - 1) pt tk w' u pp cp tp ct := by
  obtain ⟨z0, z1, z2, z3⟩ := Ps.refE_zero hr
  rw [Int.toNat_natCast] at z3
  have hu := h.un z2
  have hd := Dr.qs h s
  have hid := (h.now.2 z2).2.2
  rw [← h.rf, ← h.rn] at hid
  have he : id = P.under := by
    have h9 := hr
    unfold Ps.refE at h9
    rw [if_neg (by omega)] at h9
    by_cases e : id = P.under
    · exact e
    · rw [if_pos (.inr e)] at h9; cases h9
  have hno : ∀ j, j < tk.n → tk.item j ≠ (i : Int) := fun j hj e => by
    have := (hu.p0 i z1).2 (inT_some.2 ⟨j, hj, e⟩)
    exact this z3
  have hrm := hu.ru.room z0 (by rw [h.rt]; exact z1) hno
  have h12 := h.g.i.t1
  rw [h.rt] at hrm
  rw [he, hid]
  exact rhand_ok (i : Int) x S w1 rb R hd.1 _ pt tk (hd.2 _ hu.ru) (by omega) (by rw [h.rt]; omega) hno (by have := hu.ru.m; omega) hi hz
set_option maxHeartbeats 8000000 in
theorem pl_hand (o : OpP) (last : Int) {w0 w : World} {b rb : Nat} {P : Ps} {R : Rp} {ts : List (Nat × PtT)} {pt : LT PtT} {tk : LT Int} {m : Nat} {F : Nat → Prop} (h : PR w0 w b rb P R ts pt tk m F) (hk : o.kind = 2 ∧ PtIn w0 (fun k => k < w0.heap.size) o.pt ∧ PtSz o.pt ∧  P.refE (o.num last) o.task = 0) : Calls Try.prog 24 #[.pointer (some ⟨b, 0, none⟩), .pointer (some ⟨rb, 0, none⟩), .agg #[.int .i64 o.kind, .bool o.snd, .bool o.abs, .int .i64 o.id, .int .i64 o.task, .int .i64 o.pt.num, .slice o.pt.cl.p o.pt.cl.n o.pt.cl.c, .slice o.pt.lg.p o.pt.lg.n o.pt.lg.c, .slice o.pt.pd.p o.pt.pd.n o.pt.pd.c, .bool o.ok], .int .i64 last] w fun e w' => PlP w0 w b rb P R pt tk F e w' := by
  obtain ⟨W, hW⟩ : ∃ V, V = w.alloc (.cells #[.int .i64 o.kind, .bool o.snd, .bool o.abs, .int .i64 o.id, .int .i64 o.task, .int .i64 o.pt.num, .slice o.pt.cl.p o.pt.cl.n o.pt.cl.c, .slice o.pt.lg.p o.pt.lg.n o.pt.lg.c, .slice o.pt.pd.p o.pt.pd.n o.pt.pd.c, .bool o.ok] 41) := ⟨_, rfl⟩
  have hB : Below w.heap.size w W := by rw [hW]; exact (Below.refl _ _).alloc (Nat.le_refl _) _
  have hX : Box W w.heap.size #[.int .i64 o.kind, .bool o.snd, .bool o.abs, .int .i64 o.id, .int .i64 o.task, .int .i64 o.pt.num, .slice o.pt.cl.p o.pt.cl.n o.pt.cl.c, .slice o.pt.lg.p o.pt.lg.n o.pt.lg.c, .slice o.pt.pd.p o.pt.pd.n o.pt.pd.c, .bool o.ok] 41 := by rw [hW]; exact Box.new _ _ _
  have HB := hid hB
  have HX := hid hX
  have HW := hid hW
  have hJW := h.below hB
  have HJW := hid hJW
  have hp0 := hJW.g.i.box.lt
  have x0 := hX.cell 0
  have x1 := hX.cell 1
  have x2 := hX.cell 2
  have x3 := hX.cell 3
  have x4 := hX.cell 4
  have x5 := hX.cell 5
  have x6 := hX.cell 6
  have x7 := hX.cell 7
  have x8 := hX.cell 8
  have x9 := hX.cell 9
  have ol := hX.lt
  simp at x0 x1 x2 x3 x4 x5 x6 x7 x8 x9
  have HN := hid (number_any o last W)
  obtain ⟨id, hid0⟩ : ∃ x, x = o.num last := ⟨_, rfl⟩
  rw [← hid0] at HN hk
  have HK := hid hk
  have HXn : Hid (¬ P.C b w.heap.size ∧ w.heap.size ≠ P.ch ∧ ¬ Dr R rb pt tk w.heap.size) := ⟨fun e => by have := h.g.i.lt e; omega, fun e => by have := h.g.inb.lt; omega, fun e => by have := (h.g.dl _ (.inl e)).2.1; omega⟩
  clear hid0 h hJW hX hW hB hk
  go_enter Try.func24, Try.ntmps24
  go_wp2_with fail
  rw [← HW.out]
  refine HN.out.mono ?_
  rintro e w1 ⟨rfl, hb1⟩
  have HB1 := hid (HB.out.trans (hb1.mono HB.out.size))
  have HX1 := hid (HX.out.below hb1)
  have HJ1 := hid (HJW.out.below hb1)
  clear HN HX HW HB HJW hb1 hp0 ol x0 x1 x2 x3 x4 x5 x6 x7 x8 x9
  have x0 := HX1.out.cell 0
  have x4 := HX1.out.cell 4
  have x5 := HX1.out.cell 5
  have x6 := HX1.out.cell 6
  have x7 := HX1.out.cell 7
  have x8 := HX1.out.cell 8
  have ol := HX1.out.lt
  have hp0 := HJ1.out.g.i.box.lt
  simp at x0 x4 x5 x6 x7 x8
  rw [HK.out.1] at x0
  have hin1 : PtIn w1 (fun k => k < w0.heap.size) o.pt := HK.out.2.1.kept HJ1.out.g.bel.size (fun k hk _ => HJ1.out.g.bel.block k hk)
  have HP := hid (rpart o.pt w1 _ hin1 HK.out.2.2.1)
  clear hin1
  go_wp2_with fail
  refine HP.out.mono ?_
  rintro e w2 ⟨x, rfl, hal, hui, hb2⟩
  obtain ⟨w3, hw3⟩ : ∃ V, V = w2.alloc (.cells #[.int .i64 x.num, .slice x.cl.p x.cl.n x.cl.c, .slice x.lg.p x.lg.n x.lg.c, .slice x.pd.p x.pd.n x.pd.c] 39) := ⟨_, rfl⟩
  have hb3 : Below w2.heap.size w2 w3 := by rw [hw3]; exact ((Below.refl _ _).alloc (Nat.le_refl _) _)
  have HXu : Hid (Box w3 w2.heap.size #[.int .i64 x.num, .slice x.cl.p x.cl.n x.cl.c, .slice x.lg.p x.lg.n x.lg.c, .slice x.pd.p x.pd.n x.pd.c] 39) := by unfold Hid; rw [hw3]; exact Box.new _ _ _
  have HW3 := hid hw3
  have HB3 := hid (hb2.trans (hb3.mono hb2.size))
  have HX3 := hid (HX1.out.below HB3.out)
  have HJ3 := hid (HJ1.out.same HB3.out)
  have HU3 := hid (hui.below hb3)
  have HA := hid hal
  have HL : Hid (∀ k, Pc P b R rb pt tk k → k < w1.heap.size) := fun k hk => (HJ1.out.lt k hk).1
  have HSz := hid hb2.size
  have hin3 : PtIn w3 (fun k => k < w0.heap.size) o.pt := HK.out.2.1.kept HJ3.out.1.g.bel.size (fun k hk _ => HJ3.out.1.g.bel.block k hk)
  have HH := hid (hand_any id o.task o.pt _ (lets ts) w3 b P HJ3.out.1.g.i HJ3.out.1.g.inb hin3 HK.out.2.2.1 (fun h => HJ3.out.1.g.inv.room h))
  clear HP hal hui hb2 hb3 hw3 hin3 x0 x4 x5 x6 x7 x8 ol hp0
  have x4 := HX3.out.cell 4
  have x5 := HX3.out.cell 5
  have x6 := HX3.out.cell 6
  have x7 := HX3.out.cell 7
  have x8 := HX3.out.cell 8
  have ol := HX3.out.lt
  simp at x4 x5 x6 x7 x8
  go_wp2_with (first | rw [← HW3.out] | fail)
  refine HH.out.mono ?_
  rintro e w4 ⟨P4, L4, hQ⟩
  obtain rfl := hQ.r
  have HQ := hid hQ
  have hXo := HX3.out.kept (hQ.s.but.block _ HX3.out.lt (fun e => by rcases e with e | e; exact HXn.out.1 e; exact HXn.out.2.1 e))
  have hXx := HXu.out.kept (hQ.s.but.block _ HXu.out.lt (fun e => by
    have hsz := HSz.out
    rcases e with e | e
    · have := HL.out _ (.inl e); omega
    · have := HL.out _ (.inr (.inl e)); omega))
  clear HH x4 x5 x6 x7 x8 ol
  have x4 := hXo.cell 4
  have ol := hXo.lt
  have y0 := hXx.cell 0
  have y1 := hXx.cell 1
  have y2 := hXx.cell 2
  have y3 := hXx.cell 3
  have yl := hXx.lt
  simp at x4 y0 y1 y2 y3
  clear hQ hXo hXx
  obtain ⟨i, hi⟩ : ∃ i : Nat, o.task = (i : Int) := ⟨o.task.toNat, by have := (Ps.refE_zero HK.out.2.2.2).1; omega⟩
  have HI := hid hi
  have HE : Hid (P.refE id (i : Int) = 0) := by unfold Hid; rw [← hi]; exact HK.out.2.2.2
  have HXi : Hid (PtIn w4 (fun k => w1.heap.size ≤ k) x) := HU3.out.kept HQ.out.s.but.size (fun k hk hl => HQ.out.s.but.block k hl (fun e => by
    rcases e with e | e
    · have := HL.out _ (.inl e); omega
    · have := HL.out _ (.inr (.inl e)); omega))
  have HZ := hid (PtSz.alk HK.out.2.2.1 HA.out)
  have HR := hid (HJ3.out.1.rtaken HQ.out.s id i x _ HE.out HXi.out HZ.out)
  rw [hi] at x4
  rw [hi, HE.out]
  rw [hi] at HQ
  clear hi
  go_wp2_with fail
  refine HR.out.mono ?_
  rintro e w5 ⟨rfl, u, pp, cp, tp, ct, hr5⟩
  obtain ⟨ts', hF⟩ := HJ3.out.1.hand HQ.out HE.out HA.out HZ.out hr5
  have HF := hid hF
  clear HR hr5 hF
  have hXo := HX3.out.kept (HF.out.2.but.block _ HX3.out.lt (fun e => by
    rcases e with e | e | e
    · exact HXn.out.1 e
    · exact HXn.out.2.1 e
    · exact HXn.out.2.2 e))
  have hXx := HXu.out.kept (HF.out.2.but.block _ HXu.out.lt (fun e => by
    have hsz := HSz.out
    have := HL.out _ e
    omega))
  have HY := hid (yPartG o.pt x w5 _ _ (HK.out.2.1.kept HF.out.1.g.bel.size (fun k hk _ => HF.out.1.g.bel.block k hk)) (HU3.out.kept HF.out.2.but.size (fun k hk hl => HF.out.2.but.block k hl (fun e => by have := HL.out k e; omega))) HA.out)
  clear x4 ol y0 y1 y2 y3 yl
  have x5 := hXo.cell 5
  have x6 := hXo.cell 6
  have x7 := hXo.cell 7
  have x8 := hXo.cell 8
  have ol := hXo.lt
  have y0 := hXx.cell 0
  have y1 := hXx.cell 1
  have y2 := hXx.cell 2
  have y3 := hXx.cell 3
  have yl := hXx.lt
  simp at x5 x6 x7 x8 y0 y1 y2 y3
  clear hXo hXx
  go_wp2_with fail
  refine HY.out.mono ?_
  rintro e w6 ⟨rfl, hb6⟩
  have HB6 := hid hb6
  clear HY hb6 x5 x6 x7 x8 ol y0 y1 y2 y3 yl
  go_wp2
  exact bodyPost_ret (v := .tuple #[.int .i64 last, .bool true]) (by simp [results, Try.results24, go_sem]) rfl ⟨last, _, _, ts', _, _, m, rfl, (HF.out.1.below HB6.out), (((HJ3.out.2.trans HF.out.2).then_ HB6.out).later HB1.out)⟩
set_option maxHeartbeats 8000000 in
theorem pl_refused (o : OpP) (last : Int) {w0 w : World} {b rb : Nat} {P : Ps} {R : Rp} {ts : List (Nat × PtT)} {pt : LT PtT} {tk : LT Int} {m : Nat} {F : Nat → Prop} (h : PR w0 w b rb P R ts pt tk m F) (hk : o.kind = 2 ∧ PtIn w0 (fun k => k < w0.heap.size) o.pt ∧ PtSz o.pt ∧ ¬ P.refE (o.num last) o.task = 0) : Calls Try.prog 24 #[.pointer (some ⟨b, 0, none⟩), .pointer (some ⟨rb, 0, none⟩), .agg #[.int .i64 o.kind, .bool o.snd, .bool o.abs, .int .i64 o.id, .int .i64 o.task, .int .i64 o.pt.num, .slice o.pt.cl.p o.pt.cl.n o.pt.cl.c, .slice o.pt.lg.p o.pt.lg.n o.pt.lg.c, .slice o.pt.pd.p o.pt.pd.n o.pt.pd.c, .bool o.ok], .int .i64 last] w fun e w' => PlP w0 w b rb P R pt tk F e w' := by
  obtain ⟨W, hW⟩ : ∃ V, V = w.alloc (.cells #[.int .i64 o.kind, .bool o.snd, .bool o.abs, .int .i64 o.id, .int .i64 o.task, .int .i64 o.pt.num, .slice o.pt.cl.p o.pt.cl.n o.pt.cl.c, .slice o.pt.lg.p o.pt.lg.n o.pt.lg.c, .slice o.pt.pd.p o.pt.pd.n o.pt.pd.c, .bool o.ok] 41) := ⟨_, rfl⟩
  have hB : Below w.heap.size w W := by rw [hW]; exact (Below.refl _ _).alloc (Nat.le_refl _) _
  have hX : Box W w.heap.size #[.int .i64 o.kind, .bool o.snd, .bool o.abs, .int .i64 o.id, .int .i64 o.task, .int .i64 o.pt.num, .slice o.pt.cl.p o.pt.cl.n o.pt.cl.c, .slice o.pt.lg.p o.pt.lg.n o.pt.lg.c, .slice o.pt.pd.p o.pt.pd.n o.pt.pd.c, .bool o.ok] 41 := by rw [hW]; exact Box.new _ _ _
  have HB := hid hB
  have HX := hid hX
  have HW := hid hW
  have hJW := h.below hB
  have HJW := hid hJW
  have hp0 := hJW.g.i.box.lt
  have x0 := hX.cell 0
  have x1 := hX.cell 1
  have x2 := hX.cell 2
  have x3 := hX.cell 3
  have x4 := hX.cell 4
  have x5 := hX.cell 5
  have x6 := hX.cell 6
  have x7 := hX.cell 7
  have x8 := hX.cell 8
  have x9 := hX.cell 9
  have ol := hX.lt
  simp at x0 x1 x2 x3 x4 x5 x6 x7 x8 x9
  have HN := hid (number_any o last W)
  obtain ⟨id, hid0⟩ : ∃ x, x = o.num last := ⟨_, rfl⟩
  rw [← hid0] at HN hk
  have HK := hid hk
  have HXn : Hid (¬ P.C b w.heap.size ∧ w.heap.size ≠ P.ch ∧ ¬ Dr R rb pt tk w.heap.size) := ⟨fun e => by have := h.g.i.lt e; omega, fun e => by have := h.g.inb.lt; omega, fun e => by have := (h.g.dl _ (.inl e)).2.1; omega⟩
  clear hid0 h hJW hX hW hB hk
  go_enter Try.func24, Try.ntmps24
  go_wp2_with fail
  rw [← HW.out]
  refine HN.out.mono ?_
  rintro e w1 ⟨rfl, hb1⟩
  have HB1 := hid (HB.out.trans (hb1.mono HB.out.size))
  have HX1 := hid (HX.out.below hb1)
  have HJ1 := hid (HJW.out.below hb1)
  clear HN HX HW HB HJW hb1 hp0 ol x0 x1 x2 x3 x4 x5 x6 x7 x8 x9
  have x0 := HX1.out.cell 0
  have x4 := HX1.out.cell 4
  have x5 := HX1.out.cell 5
  have x6 := HX1.out.cell 6
  have x7 := HX1.out.cell 7
  have x8 := HX1.out.cell 8
  have ol := HX1.out.lt
  have hp0 := HJ1.out.g.i.box.lt
  simp at x0 x4 x5 x6 x7 x8
  rw [HK.out.1] at x0
  have hin1 : PtIn w1 (fun k => k < w0.heap.size) o.pt := HK.out.2.1.kept HJ1.out.g.bel.size (fun k hk _ => HJ1.out.g.bel.block k hk)
  have HP := hid (rpart o.pt w1 _ hin1 HK.out.2.2.1)
  clear hin1
  go_wp2_with fail
  refine HP.out.mono ?_
  rintro e w2 ⟨x, rfl, hal, hui, hb2⟩
  obtain ⟨w3, hw3⟩ : ∃ V, V = w2.alloc (.cells #[.int .i64 x.num, .slice x.cl.p x.cl.n x.cl.c, .slice x.lg.p x.lg.n x.lg.c, .slice x.pd.p x.pd.n x.pd.c] 39) := ⟨_, rfl⟩
  have hb3 : Below w2.heap.size w2 w3 := by rw [hw3]; exact ((Below.refl _ _).alloc (Nat.le_refl _) _)
  have HXu : Hid (Box w3 w2.heap.size #[.int .i64 x.num, .slice x.cl.p x.cl.n x.cl.c, .slice x.lg.p x.lg.n x.lg.c, .slice x.pd.p x.pd.n x.pd.c] 39) := by unfold Hid; rw [hw3]; exact Box.new _ _ _
  have HW3 := hid hw3
  have HB3 := hid (hb2.trans (hb3.mono hb2.size))
  have HX3 := hid (HX1.out.below HB3.out)
  have HJ3 := hid (HJ1.out.same HB3.out)
  have HU3 := hid (hui.below hb3)
  have HA := hid hal
  have HL : Hid (∀ k, Pc P b R rb pt tk k → k < w1.heap.size) := fun k hk => (HJ1.out.lt k hk).1
  have HSz := hid hb2.size
  have hin3 : PtIn w3 (fun k => k < w0.heap.size) o.pt := HK.out.2.1.kept HJ3.out.1.g.bel.size (fun k hk _ => HJ3.out.1.g.bel.block k hk)
  have HH := hid (hand_any id o.task o.pt _ (lets ts) w3 b P HJ3.out.1.g.i HJ3.out.1.g.inb hin3 HK.out.2.2.1 (fun h => HJ3.out.1.g.inv.room h))
  clear HP hal hui hb2 hb3 hw3 hin3 x0 x4 x5 x6 x7 x8 ol hp0
  have x4 := HX3.out.cell 4
  have x5 := HX3.out.cell 5
  have x6 := HX3.out.cell 6
  have x7 := HX3.out.cell 7
  have x8 := HX3.out.cell 8
  have ol := HX3.out.lt
  simp at x4 x5 x6 x7 x8
  go_wp2_with (first | rw [← HW3.out] | fail)
  refine HH.out.mono ?_
  rintro e w4 ⟨P4, L4, hQ⟩
  obtain rfl := hQ.r
  have HQ := hid hQ
  have hXo := HX3.out.kept (hQ.s.but.block _ HX3.out.lt (fun e => by rcases e with e | e; exact HXn.out.1 e; exact HXn.out.2.1 e))
  have hXx := HXu.out.kept (hQ.s.but.block _ HXu.out.lt (fun e => by
    have hsz := HSz.out
    rcases e with e | e
    · have := HL.out _ (.inl e); omega
    · have := HL.out _ (.inr (.inl e)); omega))
  clear HH x4 x5 x6 x7 x8 ol
  have x4 := hXo.cell 4
  have ol := hXo.lt
  have y0 := hXx.cell 0
  have y1 := hXx.cell 1
  have y2 := hXx.cell 2
  have y3 := hXx.cell 3
  have yl := hXx.lt
  simp at x4 y0 y1 y2 y3
  clear hQ hXo hXx
  have HE := hid HK.out.2.2.2
  obtain ⟨hP4, hL4⟩ := HQ.out.n HE.out
  subst hP4
  subst hL4
  have HR := hid ((HJ3.out.1.still HQ.out.s (Below.refl _ _)).1.rrefused id o.task x HE.out)
  go_wp2_with fail
  refine HR.out.mono ?_
  rintro e w5 ⟨rfl, hb5⟩
  have HF := hid (HJ3.out.1.still HQ.out.s hb5)
  clear HR hb5
  have hXo := HX3.out.kept (HF.out.2.but.block _ HX3.out.lt (fun e => by
    rcases e with e | e | e
    · exact HXn.out.1 e
    · exact HXn.out.2.1 e
    · exact HXn.out.2.2 e))
  have hXx := HXu.out.kept (HF.out.2.but.block _ HXu.out.lt (fun e => by
    have hsz := HSz.out
    have := HL.out _ e
    omega))
  have HY := hid (yPartG o.pt x w5 _ _ (HK.out.2.1.kept HF.out.1.g.bel.size (fun k hk _ => HF.out.1.g.bel.block k hk)) (HU3.out.kept HF.out.2.but.size (fun k hk hl => HF.out.2.but.block k hl (fun e => by have := HL.out k e; omega))) HA.out)
  clear x4 ol y0 y1 y2 y3 yl
  have x5 := hXo.cell 5
  have x6 := hXo.cell 6
  have x7 := hXo.cell 7
  have x8 := hXo.cell 8
  have ol := hXo.lt
  have y0 := hXx.cell 0
  have y1 := hXx.cell 1
  have y2 := hXx.cell 2
  have y3 := hXx.cell 3
  have yl := hXx.lt
  simp at x5 x6 x7 x8 y0 y1 y2 y3
  clear hXo hXx
  go_wp2_with fail
  refine HY.out.mono ?_
  rintro e w6 ⟨rfl, hb6⟩
  have HB6 := hid hb6
  clear HY hb6 x5 x6 x7 x8 ol y0 y1 y2 y3 yl
  go_wp2
  exact bodyPost_ret (v := .tuple #[.int .i64 last, .bool true]) (by simp [results, Try.results24, go_sem]) rfl ⟨last, _, _, ts, _, _, m, rfl, (HF.out.1.below HB6.out), (((HJ3.out.2.trans HF.out.2).then_ HB6.out).later HB1.out)⟩
theorem plays_any (o : OpP) (last : Int) {w0 w : World} {b rb : Nat} {P : Ps} {R : Rp} {ts : List (Nat × PtT)} {pt : LT PtT} {tk : LT Int} {m : Nat} {F : Nat → Prop} (h : PR w0 w b rb P R ts pt tk m F) (hpt : PtIn w0 (fun k => k < w0.heap.size) o.pt) (hsz : PtSz o.pt) : Calls Try.prog 24 #[.pointer (some ⟨b, 0, none⟩), .pointer (some ⟨rb, 0, none⟩), .agg #[.int .i64 o.kind, .bool o.snd, .bool o.abs, .int .i64 o.id, .int .i64 o.task, .int .i64 o.pt.num, .slice o.pt.cl.p o.pt.cl.n o.pt.cl.c, .slice o.pt.lg.p o.pt.lg.n o.pt.lg.c, .slice o.pt.pd.p o.pt.pd.n o.pt.pd.c, .bool o.ok], .int .i64 last] w fun e w' => PlP w0 w b rb P R pt tk F e w' := by
  by_cases k1 : o.kind = 1
  · exact pl_trig o last h k1
  by_cases k2 : o.kind = 2
  · by_cases e : P.refE (o.num last) o.task = 0
    · exact pl_hand o last h ⟨k2, hpt, hsz, e⟩
    · exact pl_refused o last h ⟨k2, hpt, hsz, e⟩
  by_cases k3 : o.kind = 3
  · cases ts with
    | nil => exact pl_pick0 o last h ⟨k3, rfl⟩
    | cons q ts =>
      by_cases e : (P.gath q.1 q.2).wants = []
      · exact pl_last o last h ⟨k3, e⟩
      · exact pl_more o last h ⟨k3, e⟩
  by_cases k4 : o.kind = 4
  · exact pl_abort o last h k4
  by_cases k5 : o.kind = 5
  · exact pl_settle o last h k5
  by_cases k6 : o.kind = 6
  · exact pl_stat o last h k6
  by_cases k7 : o.kind = 7
  · exact pl_open o last h k7
  exact pl_else o last h (by omega)
end Go.Proofs.Ytldkepokcbjlpaa
