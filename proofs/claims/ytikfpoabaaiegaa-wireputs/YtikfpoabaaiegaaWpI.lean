import Derived.Test.YtikfpoabaaiegaaPack19
namespace Go.Proofs.Ytikfpoabaaiegaa
open Go.RowKit
set_option maxRecDepth 8000
theorem firstC_all {g : Nat → Nat} : ∀ m, firstC g m = 0 → ∀ i, i < m → g i = 0 := by
  intro m
  induction m with
  | zero => intro _ i hi; omega
  | succ m ih =>
    intro hm i hi
    have hm' : (if firstC g m = 0 then g m else firstC g m) = 0 := hm
    split at hm'
    · rename_i h5
      by_cases him : i = m
      · subst him; exact hm'
      · exact ih h5 i (by omega)
    · rename_i h5; exact absurd hm' h5
theorem vc_of {f : Nat → VT} {j : Nat} (h : chkCell f j = 0) : VC (f j) := by
  unfold chkCell at h
  split at h
  · cases h
  rename_i h1
  split at h
  · cases h
  unfold chkVals at h
  split at h
  · cases h
  rename_i h2
  exact ⟨by omega, by omega⟩
theorem vs_of {s : ST} (h : chkState s = 0) : VS s := by
  unfold chkState at h
  split at h
  · cases h
  rename_i h1
  split at h
  · cases h
  rename_i h2
  exact ⟨by omega, by omega, by omega, fun j hj => vc_of (firstC_all _ h j hj)⟩
theorem vg_of {g : GT} (h : FG g) : VG g := by
  refine ⟨h.id, h.task, h.base, h.sum, fun h0 => vs_of (h.zero0 h0).2.2.2.2, fun h1 => ?_, ⟨h.ln, fun j hj => ⟨h.ln2 j hj, fun i hi => vr_of (h.logs j hj i hi)⟩⟩, ⟨h.pn, fun j hj => vr_of (h.pend j hj)⟩⟩
  obtain ⟨_, _, h3, h4, h5⟩ := h.zero1 h1
  have hv := vs_of h3
  have hn : (g.d.num : Int) ≤ 1073741824 := hv.num1
  exact ⟨by omega, hv.n, hv.cell, h4, fun j hj => (h5 j hj).1⟩
set_option maxHeartbeats 4000000 in
theorem writtenSt (s : ST) (w : World) (S : Nat → Prop) (hin : ST.In2 w S s) (hr : chkState s = 0) (hS : ∀ b, S b → b < w.heap.size) : Calls Try.prog 52 #[s.val, .int .i64 0, .func (.func 54) #[] #[]] w fun x w' => PutP (stateB s) w x w' := by
  have ha : Below w.heap.size w (w.alloc (.cells #[.int .i64 s.num, .slice s.p s.n s.c] 30)) := (Below.refl _ _).alloc (Nat.le_refl _) _
  have HC : Hid (∀ W, Below (w.alloc (.cells #[.int .i64 s.num, .slice s.p s.n s.c] 30)).heap.size (w.alloc (.cells #[.int .i64 s.num, .slice s.p s.n s.c] 30)) W → Calls Try.prog 54 #[.slice none 0 0, s.val] W fun e w' => EPost (w.alloc (.cells #[.int .i64 s.num, .slice s.p s.n s.c] 30)).heap.size W ([] ++ stateB s) e w') := fun W hW => wpState_any s (vs_of hr) (w.alloc (.cells #[.int .i64 s.num, .slice s.p s.n s.c] 30)).heap.size W (.slice none 0 0) [] (World.ownsRow_nil _ _ _ _) hW.size (ST.toLT (((hin.below ha).mono (fun b hb _ => by have := hS b hb; have := ha.size; omega)).below hW).i hin.nil) (by simp)
  have HA := hid ha
  simp only [List.nil_append] at HC
  unfold ST.val at HC ⊢
  clear ha hS
  go_enter Try.func52, Try.ntmps52
  go_wp2_with fail
  refine (HC.out _ ?_).mono ?_
  · first | exact Below.refl _ _ | exact (Below.refl _ _).drew
  rintro x w1 ⟨v1, rfl, h1⟩
  have HO := hid (h1.own.mono HA.out.size)
  have HB := hid (HA.out.trans (h1.bel.mono HA.out.size))
  clear h1 HC
  go_wp2
  refine bodyPost_ret (v := .tuple #[v1, .int .i64 0]) (by simp [results, Try.results52, go_sem]) rfl ?_
  exact ⟨v1, rfl, HO.out, HB.out⟩
set_option maxHeartbeats 4000000 in
theorem putSt_any (s : ST) (w : World) (S : Nat → Prop) (hin : ST.In2 w S s) (hr : chkState s = 0) (hS : ∀ b, S b → b < w.heap.size) : Calls Try.prog 18 #[s.val] w fun x w' => PutP (stateB s) w x w' := by
  have ha : Below w.heap.size w (w.alloc (.cells #[.int .i64 s.num, .slice s.p s.n s.c] 30)) := (Below.refl _ _).alloc (Nat.le_refl _) _
  have HK : Hid (∀ W, Below (w.alloc (.cells #[.int .i64 s.num, .slice s.p s.n s.c] 30)).heap.size (w.alloc (.cells #[.int .i64 s.num, .slice s.p s.n s.c] 30)) W → Calls Try.prog 53 #[s.val] W fun x w' => okPost W x w') := fun W hW => by have h := checkState_any s W S ((hin.below ha).below hW).i (fun b hb => by have := hS b hb; have := ha.size; have := hW.size; omega); rw [hr] at h; exact h
  have HC : Hid (∀ W, Below (w.alloc (.cells #[.int .i64 s.num, .slice s.p s.n s.c] 30)).heap.size (w.alloc (.cells #[.int .i64 s.num, .slice s.p s.n s.c] 30)) W → Calls Try.prog 52 #[s.val, .int .i64 0, .func (.func 54) #[] #[]] W fun x w' => PutP (stateB s) W x w') := fun W hW => writtenSt s W S ((hin.below ha).below hW) hr (fun b hb => by have := hS b hb; have := ha.size; have := hW.size; omega)
  have HA := hid ha
  have hbx := Box.new w #[.int .i64 s.num, .slice s.p s.n s.c] 30
  have c0 := hbx.cell 0
  have c1 := hbx.cell 1
  simp only [List.getElem?_toArray, List.getElem?_cons_zero, List.getElem?_cons_succ] at c0 c1
  have HBx := hid hbx
  unfold ST.val at HK HC ⊢
  clear ha hS hbx
  go_enter Try.func18, Try.ntmps18
  go_wp2_with fail
  go_region_law (first
    | (refine step_call rfl 53 #[.tmp 5] _ rfl Try.f53 Try.func53 (by kernel_rfl) rfl #[.agg #[.int .i64 s.num, .slice s.p s.n s.c]] rfl _ (HK.out _ ?_) ?_
       · exact (Below.refl _ _).drew
       rintro e1 w2 ⟨rfl, hb2⟩
       refine ⟨_, rfl, ?_⟩
       have hb3 : Below (w.alloc (.cells #[.int .i64 s.num, .slice s.p s.n s.c] 30)).heap.size (w.alloc (.cells #[.int .i64 s.num, .slice s.p s.n s.c] 30)) w2 := (Below.refl _ _).drew.trans hb2
       have hx2 := HBx.out.below hb3
       have y0 := hx2.cell 0
       have y1 := hx2.cell 1
       simp only [List.getElem?_toArray, List.getElem?_cons_zero, List.getElem?_cons_succ] at y0 y1)
    | (refine step_call rfl 52 #[.tmp 4, .tmp 6, .func 54] _ rfl Try.f52 Try.func52 (by kernel_rfl) rfl #[.agg #[.int .i64 s.num, .slice s.p s.n s.c], .int .i64 0, .func (.func 54) #[] #[]] rfl _ (HC.out _ hb3) ?_
       rintro e3 w3 ⟨v3, rfl, ho3, hb4⟩
       refine ⟨_, rfl, ?_⟩
       have HF := hid (And.intro (ho3.mono (Nat.le_trans HA.out.size hb3.size)) ((HA.out.trans (hb3.mono HA.out.size)).trans (hb4.mono (Nat.le_trans HA.out.size hb3.size))))))
  all_goals
    clear hb2 hb3 hx2 ho3 hb4
    go_wp2
    refine bodyPost_ret (v := .tuple #[v3, .int .i64 0]) (by simp [results, Try.results18, go_sem]) rfl ?_
    exact ⟨v3, rfl, HF.out.1, HF.out.2⟩
set_option maxHeartbeats 4000000 in
theorem writtenMan (m : MT) (w : World) (S : Nat → Prop) (hin : LT.In elRow w S m.rows) (hr : VM m) (hS : ∀ b, S b → b < w.heap.size) : Calls Try.prog 58 #[m.val, .int .i64 0, .func (.func 60) #[] #[]] w fun x w' => PutP (manB m) w x w' := by
  have ha : Below w.heap.size w (w.alloc (.cells #[.int .i64 (m.id : Int), .int .u32 (m.sum : Int), .slice m.rows.p m.rows.n m.rows.c] 41)) := (Below.refl _ _).alloc (Nat.le_refl _) _
  have HC : Hid (∀ W, Below (w.alloc (.cells #[.int .i64 (m.id : Int), .int .u32 (m.sum : Int), .slice m.rows.p m.rows.n m.rows.c] 41)).heap.size (w.alloc (.cells #[.int .i64 (m.id : Int), .int .u32 (m.sum : Int), .slice m.rows.p m.rows.n m.rows.c] 41)) W → Calls Try.prog 60 #[.slice none 0 0, m.val] W fun e w' => EPost (w.alloc (.cells #[.int .i64 (m.id : Int), .int .u32 (m.sum : Int), .slice m.rows.p m.rows.n m.rows.c] 41)).heap.size W ([] ++ manB m) e w') := fun W hW => wpMan_any m hr (w.alloc (.cells #[.int .i64 (m.id : Int), .int .u32 (m.sum : Int), .slice m.rows.p m.rows.n m.rows.c] 41)).heap.size W (.slice none 0 0) [] (World.ownsRow_nil _ _ _ _) hW.size (((hin.below ha).mono (fun b hb _ => by have := hS b hb; have := ha.size; omega)).below hW) (by simp)
  have HA := hid ha
  simp only [List.nil_append] at HC
  unfold MT.val at HC ⊢
  clear ha hS
  go_enter Try.func58, Try.ntmps58
  go_wp2_with fail
  refine (HC.out _ ?_).mono ?_
  · first | exact Below.refl _ _ | exact (Below.refl _ _).drew
  rintro x w1 ⟨v1, rfl, h1⟩
  have HO := hid (h1.own.mono HA.out.size)
  have HB := hid (HA.out.trans (h1.bel.mono HA.out.size))
  clear h1 HC
  go_wp2
  refine bodyPost_ret (v := .tuple #[v1, .int .i64 0]) (by simp [results, Try.results58, go_sem]) rfl ?_
  exact ⟨v1, rfl, HO.out, HB.out⟩
set_option maxHeartbeats 4000000 in
theorem putMan_any (m : MT) (w : World) (S : Nat → Prop) (hin : LT.In elRow w S m.rows) (hr : VM m) (hS : ∀ b, S b → b < w.heap.size) : Calls Try.prog 21 #[m.val] w fun x w' => PutP (manB m) w x w' := by
  have ha : Below w.heap.size w (w.alloc (.cells #[.int .i64 (m.id : Int), .int .u32 (m.sum : Int), .slice m.rows.p m.rows.n m.rows.c] 41)) := (Below.refl _ _).alloc (Nat.le_refl _) _
  have HK : Hid (∀ W, Below (w.alloc (.cells #[.int .i64 (m.id : Int), .int .u32 (m.sum : Int), .slice m.rows.p m.rows.n m.rows.c] 41)).heap.size (w.alloc (.cells #[.int .i64 (m.id : Int), .int .u32 (m.sum : Int), .slice m.rows.p m.rows.n m.rows.c] 41)) W → Calls Try.prog 59 #[m.val] W fun x w' => okPost W x w') := fun W hW => ckMan_any m hr W S ((hin.below ha).below hW)
  have HC : Hid (∀ W, Below (w.alloc (.cells #[.int .i64 (m.id : Int), .int .u32 (m.sum : Int), .slice m.rows.p m.rows.n m.rows.c] 41)).heap.size (w.alloc (.cells #[.int .i64 (m.id : Int), .int .u32 (m.sum : Int), .slice m.rows.p m.rows.n m.rows.c] 41)) W → Calls Try.prog 58 #[m.val, .int .i64 0, .func (.func 60) #[] #[]] W fun x w' => PutP (manB m) W x w') := fun W hW => writtenMan m W S ((hin.below ha).below hW) hr (fun b hb => by have := hS b hb; have := ha.size; have := hW.size; omega)
  have HA := hid ha
  have hbx := Box.new w #[.int .i64 (m.id : Int), .int .u32 (m.sum : Int), .slice m.rows.p m.rows.n m.rows.c] 41
  have c0 := hbx.cell 0
  have c1 := hbx.cell 1
  have c2 := hbx.cell 2
  simp only [List.getElem?_toArray, List.getElem?_cons_zero, List.getElem?_cons_succ] at c0 c1 c2
  have HBx := hid hbx
  unfold MT.val at HK HC ⊢
  clear ha hS hbx
  go_enter Try.func21, Try.ntmps21
  go_wp2_with fail
  go_region_law (first
    | (refine step_call rfl 59 #[.tmp 5] _ rfl Try.f59 Try.func59 (by kernel_rfl) rfl #[.agg #[.int .i64 (m.id : Int), .int .u32 (m.sum : Int), .slice m.rows.p m.rows.n m.rows.c]] rfl _ (HK.out _ ?_) ?_
       · exact (Below.refl _ _).drew
       rintro e1 w2 ⟨rfl, hb2⟩
       refine ⟨_, rfl, ?_⟩
       have hb3 : Below (w.alloc (.cells #[.int .i64 (m.id : Int), .int .u32 (m.sum : Int), .slice m.rows.p m.rows.n m.rows.c] 41)).heap.size (w.alloc (.cells #[.int .i64 (m.id : Int), .int .u32 (m.sum : Int), .slice m.rows.p m.rows.n m.rows.c] 41)) w2 := (Below.refl _ _).drew.trans hb2
       have hx2 := HBx.out.below hb3
       have y0 := hx2.cell 0
       have y1 := hx2.cell 1
       have y2 := hx2.cell 2
       simp only [List.getElem?_toArray, List.getElem?_cons_zero, List.getElem?_cons_succ] at y0 y1 y2)
    | (refine step_call rfl 58 #[.tmp 4, .tmp 6, .func 60] _ rfl Try.f58 Try.func58 (by kernel_rfl) rfl #[.agg #[.int .i64 (m.id : Int), .int .u32 (m.sum : Int), .slice m.rows.p m.rows.n m.rows.c], .int .i64 0, .func (.func 60) #[] #[]] rfl _ (HC.out _ hb3) ?_
       rintro e3 w3 ⟨v3, rfl, ho3, hb4⟩
       refine ⟨_, rfl, ?_⟩
       have HF := hid (And.intro (ho3.mono (Nat.le_trans HA.out.size hb3.size)) ((HA.out.trans (hb3.mono HA.out.size)).trans (hb4.mono (Nat.le_trans HA.out.size hb3.size))))))
  all_goals
    clear hb2 hb3 hx2 ho3 hb4
    go_wp2
    refine bodyPost_ret (v := .tuple #[v3, .int .i64 0]) (by simp [results, Try.results21, go_sem]) rfl ?_
    exact ⟨v3, rfl, HF.out.1, HF.out.2⟩
set_option maxHeartbeats 4000000 in
theorem writtenRow (o : OT) (w : World) (S : Nat → Prop) (hin : RT.In w S o.rec_) (hn : o.num ≤ 1073741824) (hr : chkRec o.rec_ = 0) (hS : ∀ b, S b → b < w.heap.size) : Calls Try.prog 61 #[o.val, .int .i64 0, .func (.func 63) #[] #[]] w fun x w' => PutP (outB o) w x w' := by
  have ha : Below w.heap.size w (w.alloc (.cells #[.int .i64 (o.num : Int), .string o.rec_.key, .int .i64 o.rec_.v.kind, .int .i64 o.rec_.v.int, .string o.rec_.v.text, .slice o.rec_.v.p o.rec_.v.n o.rec_.v.c, .slice o.rec_.p o.rec_.n o.rec_.c] 43)) := (Below.refl _ _).alloc (Nat.le_refl _) _
  have HC : Hid (∀ W, Below (w.alloc (.cells #[.int .i64 (o.num : Int), .string o.rec_.key, .int .i64 o.rec_.v.kind, .int .i64 o.rec_.v.int, .string o.rec_.v.text, .slice o.rec_.v.p o.rec_.v.n o.rec_.v.c, .slice o.rec_.p o.rec_.n o.rec_.c] 43)).heap.size (w.alloc (.cells #[.int .i64 (o.num : Int), .string o.rec_.key, .int .i64 o.rec_.v.kind, .int .i64 o.rec_.v.int, .string o.rec_.v.text, .slice o.rec_.v.p o.rec_.v.n o.rec_.v.c, .slice o.rec_.p o.rec_.n o.rec_.c] 43)) W → Calls Try.prog 63 #[.slice none 0 0, o.val] W fun e w' => EPost (w.alloc (.cells #[.int .i64 (o.num : Int), .string o.rec_.key, .int .i64 o.rec_.v.kind, .int .i64 o.rec_.v.int, .string o.rec_.v.text, .slice o.rec_.v.p o.rec_.v.n o.rec_.v.c, .slice o.rec_.p o.rec_.n o.rec_.c] 43)).heap.size W ([] ++ outB o) e w') := fun W hW => wpRow_any o hn (vr_of hr) (w.alloc (.cells #[.int .i64 (o.num : Int), .string o.rec_.key, .int .i64 o.rec_.v.kind, .int .i64 o.rec_.v.int, .string o.rec_.v.text, .slice o.rec_.v.p o.rec_.v.n o.rec_.v.c, .slice o.rec_.p o.rec_.n o.rec_.c] 43)).heap.size W (.slice none 0 0) [] (World.ownsRow_nil _ _ _ _) hW.size (((hin.below ha).mono (fun b hb _ => by have := hS b hb; have := ha.size; omega)).below hW) (by simp)
  have HA := hid ha
  simp only [List.nil_append] at HC
  unfold OT.val at HC ⊢
  clear ha hS
  go_enter Try.func61, Try.ntmps61
  go_wp2_with fail
  refine (HC.out _ ?_).mono ?_
  · first | exact Below.refl _ _ | exact (Below.refl _ _).drew
  rintro x w1 ⟨v1, rfl, h1⟩
  have HO := hid (h1.own.mono HA.out.size)
  have HB := hid (HA.out.trans (h1.bel.mono HA.out.size))
  clear h1 HC
  go_wp2
  refine bodyPost_ret (v := .tuple #[v1, .int .i64 0]) (by simp [results, Try.results61, go_sem]) rfl ?_
  exact ⟨v1, rfl, HO.out, HB.out⟩
set_option maxHeartbeats 4000000 in
theorem putRow_any (o : OT) (w : World) (S : Nat → Prop) (hin : RT.In w S o.rec_) (hn : o.num ≤ 1073741824) (hr : chkRec o.rec_ = 0) (hS : ∀ b, S b → b < w.heap.size) : Calls Try.prog 22 #[o.val] w fun x w' => PutP (outB o) w x w' := by
  have ha : Below w.heap.size w (w.alloc (.cells #[.int .i64 (o.num : Int), .string o.rec_.key, .int .i64 o.rec_.v.kind, .int .i64 o.rec_.v.int, .string o.rec_.v.text, .slice o.rec_.v.p o.rec_.v.n o.rec_.v.c, .slice o.rec_.p o.rec_.n o.rec_.c] 43)) := (Below.refl _ _).alloc (Nat.le_refl _) _
  have HK : Hid (∀ W, Below (w.alloc (.cells #[.int .i64 (o.num : Int), .string o.rec_.key, .int .i64 o.rec_.v.kind, .int .i64 o.rec_.v.int, .string o.rec_.v.text, .slice o.rec_.v.p o.rec_.v.n o.rec_.v.c, .slice o.rec_.p o.rec_.n o.rec_.c] 43)).heap.size (w.alloc (.cells #[.int .i64 (o.num : Int), .string o.rec_.key, .int .i64 o.rec_.v.kind, .int .i64 o.rec_.v.int, .string o.rec_.v.text, .slice o.rec_.v.p o.rec_.v.n o.rec_.v.c, .slice o.rec_.p o.rec_.n o.rec_.c] 43)) W → Calls Try.prog 62 #[o.val] W fun x w' => okPost W x w') := fun W hW => ckRow_any o W S ((hin.below ha).below hW) (fun b hb => by have := hS b hb; have := ha.size; have := hW.size; omega) hn hr
  have HC : Hid (∀ W, Below (w.alloc (.cells #[.int .i64 (o.num : Int), .string o.rec_.key, .int .i64 o.rec_.v.kind, .int .i64 o.rec_.v.int, .string o.rec_.v.text, .slice o.rec_.v.p o.rec_.v.n o.rec_.v.c, .slice o.rec_.p o.rec_.n o.rec_.c] 43)).heap.size (w.alloc (.cells #[.int .i64 (o.num : Int), .string o.rec_.key, .int .i64 o.rec_.v.kind, .int .i64 o.rec_.v.int, .string o.rec_.v.text, .slice o.rec_.v.p o.rec_.v.n o.rec_.v.c, .slice o.rec_.p o.rec_.n o.rec_.c] 43)) W → Calls Try.prog 61 #[o.val, .int .i64 0, .func (.func 63) #[] #[]] W fun x w' => PutP (outB o) W x w') := fun W hW => writtenRow o W S ((hin.below ha).below hW) hn hr (fun b hb => by have := hS b hb; have := ha.size; have := hW.size; omega)
  have HA := hid ha
  have hbx := Box.new w #[.int .i64 (o.num : Int), .string o.rec_.key, .int .i64 o.rec_.v.kind, .int .i64 o.rec_.v.int, .string o.rec_.v.text, .slice o.rec_.v.p o.rec_.v.n o.rec_.v.c, .slice o.rec_.p o.rec_.n o.rec_.c] 43
  have c0 := hbx.cell 0
  have c1 := hbx.cell 1
  have c2 := hbx.cell 2
  have c3 := hbx.cell 3
  have c4 := hbx.cell 4
  have c5 := hbx.cell 5
  have c6 := hbx.cell 6
  simp only [List.getElem?_toArray, List.getElem?_cons_zero, List.getElem?_cons_succ] at c0 c1 c2 c3 c4 c5 c6
  have HBx := hid hbx
  unfold OT.val at HK HC ⊢
  clear ha hS hbx
  go_enter Try.func22, Try.ntmps22
  go_wp2_with fail
  go_region_law (first
    | (refine step_call rfl 62 #[.tmp 5] _ rfl Try.f62 Try.func62 (by kernel_rfl) rfl #[.agg #[.int .i64 (o.num : Int), .string o.rec_.key, .int .i64 o.rec_.v.kind, .int .i64 o.rec_.v.int, .string o.rec_.v.text, .slice o.rec_.v.p o.rec_.v.n o.rec_.v.c, .slice o.rec_.p o.rec_.n o.rec_.c]] rfl _ (HK.out _ ?_) ?_
       · exact (Below.refl _ _).drew
       rintro e1 w2 ⟨rfl, hb2⟩
       refine ⟨_, rfl, ?_⟩
       have hb3 : Below (w.alloc (.cells #[.int .i64 (o.num : Int), .string o.rec_.key, .int .i64 o.rec_.v.kind, .int .i64 o.rec_.v.int, .string o.rec_.v.text, .slice o.rec_.v.p o.rec_.v.n o.rec_.v.c, .slice o.rec_.p o.rec_.n o.rec_.c] 43)).heap.size (w.alloc (.cells #[.int .i64 (o.num : Int), .string o.rec_.key, .int .i64 o.rec_.v.kind, .int .i64 o.rec_.v.int, .string o.rec_.v.text, .slice o.rec_.v.p o.rec_.v.n o.rec_.v.c, .slice o.rec_.p o.rec_.n o.rec_.c] 43)) w2 := (Below.refl _ _).drew.trans hb2
       have hx2 := HBx.out.below hb3
       have y0 := hx2.cell 0
       have y1 := hx2.cell 1
       have y2 := hx2.cell 2
       have y3 := hx2.cell 3
       have y4 := hx2.cell 4
       have y5 := hx2.cell 5
       have y6 := hx2.cell 6
       simp only [List.getElem?_toArray, List.getElem?_cons_zero, List.getElem?_cons_succ] at y0 y1 y2 y3 y4 y5 y6)
    | (refine step_call rfl 61 #[.tmp 4, .tmp 6, .func 63] _ rfl Try.f61 Try.func61 (by kernel_rfl) rfl #[.agg #[.int .i64 (o.num : Int), .string o.rec_.key, .int .i64 o.rec_.v.kind, .int .i64 o.rec_.v.int, .string o.rec_.v.text, .slice o.rec_.v.p o.rec_.v.n o.rec_.v.c, .slice o.rec_.p o.rec_.n o.rec_.c], .int .i64 0, .func (.func 63) #[] #[]] rfl _ (HC.out _ hb3) ?_
       rintro e3 w3 ⟨v3, rfl, ho3, hb4⟩
       refine ⟨_, rfl, ?_⟩
       have HF := hid (And.intro (ho3.mono (Nat.le_trans HA.out.size hb3.size)) ((HA.out.trans (hb3.mono HA.out.size)).trans (hb4.mono (Nat.le_trans HA.out.size hb3.size))))))
  all_goals
    clear hb2 hb3 hx2 ho3 hb4
    go_wp2
    refine bodyPost_ret (v := .tuple #[v3, .int .i64 0]) (by simp [results, Try.results22, go_sem]) rfl ?_
    exact ⟨v3, rfl, HF.out.1, HF.out.2⟩
set_option maxHeartbeats 4000000 in
theorem writtenSeg (g : GT) (w : World) (S : Nat → Prop) (hin : GT.In w S g) (hr : FG g) (hS : ∀ b, S b → b < w.heap.size) : Calls Try.prog 55 #[g.val, .int .i64 0, .func (.func 57) #[] #[]] w fun x w' => PutP (segB g) w x w' := by
  have ha : Below w.heap.size w (w.alloc (.cells #[.int .i64 (g.id : Int), .int .i64 (g.task : Int), .int .i64 (g.base : Int), .int .u32 (g.sum : Int), .int .i64 g.st.num, .slice g.st.p g.st.n g.st.c, .int .i64 (g.d.num : Int), .slice g.d.set.p g.d.set.n g.d.set.c, .slice g.d.gone.p g.d.gone.n g.d.gone.c, .slice g.logs.p g.logs.n g.logs.c, .slice g.pend.p g.pend.n g.pend.c] 38)) := (Below.refl _ _).alloc (Nat.le_refl _) _
  have HC : Hid (∀ W, Below (w.alloc (.cells #[.int .i64 (g.id : Int), .int .i64 (g.task : Int), .int .i64 (g.base : Int), .int .u32 (g.sum : Int), .int .i64 g.st.num, .slice g.st.p g.st.n g.st.c, .int .i64 (g.d.num : Int), .slice g.d.set.p g.d.set.n g.d.set.c, .slice g.d.gone.p g.d.gone.n g.d.gone.c, .slice g.logs.p g.logs.n g.logs.c, .slice g.pend.p g.pend.n g.pend.c] 38)).heap.size (w.alloc (.cells #[.int .i64 (g.id : Int), .int .i64 (g.task : Int), .int .i64 (g.base : Int), .int .u32 (g.sum : Int), .int .i64 g.st.num, .slice g.st.p g.st.n g.st.c, .int .i64 (g.d.num : Int), .slice g.d.set.p g.d.set.n g.d.set.c, .slice g.d.gone.p g.d.gone.n g.d.gone.c, .slice g.logs.p g.logs.n g.logs.c, .slice g.pend.p g.pend.n g.pend.c] 38)) W → Calls Try.prog 57 #[.slice none 0 0, g.val] W fun e w' => EPost (w.alloc (.cells #[.int .i64 (g.id : Int), .int .i64 (g.task : Int), .int .i64 (g.base : Int), .int .u32 (g.sum : Int), .int .i64 g.st.num, .slice g.st.p g.st.n g.st.c, .int .i64 (g.d.num : Int), .slice g.d.set.p g.d.set.n g.d.set.c, .slice g.d.gone.p g.d.gone.n g.d.gone.c, .slice g.logs.p g.logs.n g.logs.c, .slice g.pend.p g.pend.n g.pend.c] 38)).heap.size W ([] ++ segB g) e w') := fun W hW => wpSeg_any g (vg_of hr) (w.alloc (.cells #[.int .i64 (g.id : Int), .int .i64 (g.task : Int), .int .i64 (g.base : Int), .int .u32 (g.sum : Int), .int .i64 g.st.num, .slice g.st.p g.st.n g.st.c, .int .i64 (g.d.num : Int), .slice g.d.set.p g.d.set.n g.d.set.c, .slice g.d.gone.p g.d.gone.n g.d.gone.c, .slice g.logs.p g.logs.n g.logs.c, .slice g.pend.p g.pend.n g.pend.c] 38)).heap.size W (.slice none 0 0) [] (World.ownsRow_nil _ _ _ _) hW.size (((hin.below ha).mono (fun b hb _ => by have := hS b hb; have := ha.size; omega)).below hW) (by simp)
  have HA := hid ha
  simp only [List.nil_append] at HC
  unfold GT.val at HC ⊢
  clear ha hS
  go_enter Try.func55, Try.ntmps55
  go_wp2_with fail
  refine (HC.out _ ?_).mono ?_
  · first | exact Below.refl _ _ | exact (Below.refl _ _).drew
  rintro x w1 ⟨v1, rfl, h1⟩
  have HO := hid (h1.own.mono HA.out.size)
  have HB := hid (HA.out.trans (h1.bel.mono HA.out.size))
  clear h1 HC
  go_wp2
  refine bodyPost_ret (v := .tuple #[v1, .int .i64 0]) (by simp [results, Try.results55, go_sem]) rfl ?_
  exact ⟨v1, rfl, HO.out, HB.out⟩
set_option maxHeartbeats 4000000 in
theorem putSeg_any (g : GT) (w : World) (S : Nat → Prop) (hin : GT.In w S g) (hr : FG g) (hS : ∀ b, S b → b < w.heap.size) : Calls Try.prog 20 #[g.val] w fun x w' => PutP (segB g) w x w' := by
  have ha : Below w.heap.size w (w.alloc (.cells #[.int .i64 (g.id : Int), .int .i64 (g.task : Int), .int .i64 (g.base : Int), .int .u32 (g.sum : Int), .int .i64 g.st.num, .slice g.st.p g.st.n g.st.c, .int .i64 (g.d.num : Int), .slice g.d.set.p g.d.set.n g.d.set.c, .slice g.d.gone.p g.d.gone.n g.d.gone.c, .slice g.logs.p g.logs.n g.logs.c, .slice g.pend.p g.pend.n g.pend.c] 38)) := (Below.refl _ _).alloc (Nat.le_refl _) _
  have HK : Hid (∀ W, Below (w.alloc (.cells #[.int .i64 (g.id : Int), .int .i64 (g.task : Int), .int .i64 (g.base : Int), .int .u32 (g.sum : Int), .int .i64 g.st.num, .slice g.st.p g.st.n g.st.c, .int .i64 (g.d.num : Int), .slice g.d.set.p g.d.set.n g.d.set.c, .slice g.d.gone.p g.d.gone.n g.d.gone.c, .slice g.logs.p g.logs.n g.logs.c, .slice g.pend.p g.pend.n g.pend.c] 38)).heap.size (w.alloc (.cells #[.int .i64 (g.id : Int), .int .i64 (g.task : Int), .int .i64 (g.base : Int), .int .u32 (g.sum : Int), .int .i64 g.st.num, .slice g.st.p g.st.n g.st.c, .int .i64 (g.d.num : Int), .slice g.d.set.p g.d.set.n g.d.set.c, .slice g.d.gone.p g.d.gone.n g.d.gone.c, .slice g.logs.p g.logs.n g.logs.c, .slice g.pend.p g.pend.n g.pend.c] 38)) W → Calls Try.prog 56 #[g.val] W fun x w' => okPost W x w') := fun W hW => ckSeg_any g hr W S ((hin.below ha).below hW) (fun b hb => by have := hS b hb; have := ha.size; have := hW.size; omega)
  have HC : Hid (∀ W, Below (w.alloc (.cells #[.int .i64 (g.id : Int), .int .i64 (g.task : Int), .int .i64 (g.base : Int), .int .u32 (g.sum : Int), .int .i64 g.st.num, .slice g.st.p g.st.n g.st.c, .int .i64 (g.d.num : Int), .slice g.d.set.p g.d.set.n g.d.set.c, .slice g.d.gone.p g.d.gone.n g.d.gone.c, .slice g.logs.p g.logs.n g.logs.c, .slice g.pend.p g.pend.n g.pend.c] 38)).heap.size (w.alloc (.cells #[.int .i64 (g.id : Int), .int .i64 (g.task : Int), .int .i64 (g.base : Int), .int .u32 (g.sum : Int), .int .i64 g.st.num, .slice g.st.p g.st.n g.st.c, .int .i64 (g.d.num : Int), .slice g.d.set.p g.d.set.n g.d.set.c, .slice g.d.gone.p g.d.gone.n g.d.gone.c, .slice g.logs.p g.logs.n g.logs.c, .slice g.pend.p g.pend.n g.pend.c] 38)) W → Calls Try.prog 55 #[g.val, .int .i64 0, .func (.func 57) #[] #[]] W fun x w' => PutP (segB g) W x w') := fun W hW => writtenSeg g W S ((hin.below ha).below hW) hr (fun b hb => by have := hS b hb; have := ha.size; have := hW.size; omega)
  have HA := hid ha
  have hbx := Box.new w #[.int .i64 (g.id : Int), .int .i64 (g.task : Int), .int .i64 (g.base : Int), .int .u32 (g.sum : Int), .int .i64 g.st.num, .slice g.st.p g.st.n g.st.c, .int .i64 (g.d.num : Int), .slice g.d.set.p g.d.set.n g.d.set.c, .slice g.d.gone.p g.d.gone.n g.d.gone.c, .slice g.logs.p g.logs.n g.logs.c, .slice g.pend.p g.pend.n g.pend.c] 38
  have c0 := hbx.cell 0
  have c1 := hbx.cell 1
  have c2 := hbx.cell 2
  have c3 := hbx.cell 3
  have c4 := hbx.cell 4
  have c5 := hbx.cell 5
  have c6 := hbx.cell 6
  have c7 := hbx.cell 7
  have c8 := hbx.cell 8
  have c9 := hbx.cell 9
  have c10 := hbx.cell 10
  simp only [List.getElem?_toArray, List.getElem?_cons_zero, List.getElem?_cons_succ] at c0 c1 c2 c3 c4 c5 c6 c7 c8 c9 c10
  have HBx := hid hbx
  unfold GT.val at HK HC ⊢
  clear ha hS hbx
  go_enter Try.func20, Try.ntmps20
  go_wp2_with fail
  go_region_law (first
    | (refine step_call rfl 56 #[.tmp 5] _ rfl Try.f56 Try.func56 (by kernel_rfl) rfl #[.agg #[.int .i64 (g.id : Int), .int .i64 (g.task : Int), .int .i64 (g.base : Int), .int .u32 (g.sum : Int), .int .i64 g.st.num, .slice g.st.p g.st.n g.st.c, .int .i64 (g.d.num : Int), .slice g.d.set.p g.d.set.n g.d.set.c, .slice g.d.gone.p g.d.gone.n g.d.gone.c, .slice g.logs.p g.logs.n g.logs.c, .slice g.pend.p g.pend.n g.pend.c]] rfl _ (HK.out _ ?_) ?_
       · exact (Below.refl _ _).drew
       rintro e1 w2 ⟨rfl, hb2⟩
       refine ⟨_, rfl, ?_⟩
       have hb3 : Below (w.alloc (.cells #[.int .i64 (g.id : Int), .int .i64 (g.task : Int), .int .i64 (g.base : Int), .int .u32 (g.sum : Int), .int .i64 g.st.num, .slice g.st.p g.st.n g.st.c, .int .i64 (g.d.num : Int), .slice g.d.set.p g.d.set.n g.d.set.c, .slice g.d.gone.p g.d.gone.n g.d.gone.c, .slice g.logs.p g.logs.n g.logs.c, .slice g.pend.p g.pend.n g.pend.c] 38)).heap.size (w.alloc (.cells #[.int .i64 (g.id : Int), .int .i64 (g.task : Int), .int .i64 (g.base : Int), .int .u32 (g.sum : Int), .int .i64 g.st.num, .slice g.st.p g.st.n g.st.c, .int .i64 (g.d.num : Int), .slice g.d.set.p g.d.set.n g.d.set.c, .slice g.d.gone.p g.d.gone.n g.d.gone.c, .slice g.logs.p g.logs.n g.logs.c, .slice g.pend.p g.pend.n g.pend.c] 38)) w2 := (Below.refl _ _).drew.trans hb2
       have hx2 := HBx.out.below hb3
       have y0 := hx2.cell 0
       have y1 := hx2.cell 1
       have y2 := hx2.cell 2
       have y3 := hx2.cell 3
       have y4 := hx2.cell 4
       have y5 := hx2.cell 5
       have y6 := hx2.cell 6
       have y7 := hx2.cell 7
       have y8 := hx2.cell 8
       have y9 := hx2.cell 9
       have y10 := hx2.cell 10
       simp only [List.getElem?_toArray, List.getElem?_cons_zero, List.getElem?_cons_succ] at y0 y1 y2 y3 y4 y5 y6 y7 y8 y9 y10)
    | (refine step_call rfl 55 #[.tmp 4, .tmp 6, .func 57] _ rfl Try.f55 Try.func55 (by kernel_rfl) rfl #[.agg #[.int .i64 (g.id : Int), .int .i64 (g.task : Int), .int .i64 (g.base : Int), .int .u32 (g.sum : Int), .int .i64 g.st.num, .slice g.st.p g.st.n g.st.c, .int .i64 (g.d.num : Int), .slice g.d.set.p g.d.set.n g.d.set.c, .slice g.d.gone.p g.d.gone.n g.d.gone.c, .slice g.logs.p g.logs.n g.logs.c, .slice g.pend.p g.pend.n g.pend.c], .int .i64 0, .func (.func 57) #[] #[]] rfl _ (HC.out _ hb3) ?_
       rintro e3 w3 ⟨v3, rfl, ho3, hb4⟩
       refine ⟨_, rfl, ?_⟩
       have HF := hid (And.intro (ho3.mono (Nat.le_trans HA.out.size hb3.size)) ((HA.out.trans (hb3.mono HA.out.size)).trans (hb4.mono (Nat.le_trans HA.out.size hb3.size))))))
  all_goals
    clear hb2 hb3 hx2 ho3 hb4
    go_wp2
    refine bodyPost_ret (v := .tuple #[v3, .int .i64 0]) (by simp [results, Try.results20, go_sem]) rfl ?_
    exact ⟨v3, rfl, HF.out.1, HF.out.2⟩
end Go.Proofs.Ytikfpoabaaiegaa
