import Derived.Test.YtikfpoabaaiegaaPack19
import Derived.Test.YtikfpoabaaiegaaWpI
namespace Go.Proofs.Ytikfpoabaaiegaa
open Go.RowKit
set_option maxRecDepth 8000

/-- an error, and no bytes -/
def PutE (k : Nat) (w : World) (x : Ending) (w' : World) : Prop := x = .returned (.tuple #[.slice none 0 0, .int .i64 (k : Int)]) ∧ Below w.heap.size w w'
set_option maxHeartbeats 4000000 in
theorem refusedRec (r : RT) (w : World) (k : Nat) (hk : ((k : Int) != 0) = true) : Calls Try.prog 64 #[r.val, .int .i64 (k : Int), .func (.func 66) #[] #[]] w fun x w' => PutE k w x w' := by
  have ha : Below w.heap.size w (w.alloc (.cells #[.string r.key, .int .i64 r.v.kind, .int .i64 r.v.int, .string r.v.text, .slice r.v.p r.v.n r.v.c, .slice r.p r.n r.c] 27)) := (Below.refl _ _).alloc (Nat.le_refl _) _
  have HA := hid ha
  unfold RT.val
  clear ha
  go_enter Try.func64, Try.ntmps64
  go_wp2
  refine bodyPost_ret (v := .tuple #[.slice none 0 0, .int .i64 (k : Int)]) (by simp [results, Try.results64, go_sem]) rfl ?_
  exact ⟨rfl, HA.out⟩
set_option maxHeartbeats 4000000 in
theorem putRec_bad (r : RT) (w : World) (S : Nat → Prop) (hin : RT.In w S r) (hS : ∀ b, S b → b < w.heap.size) (hk : ((chkRec r : Int) != 0) = true) : Calls Try.prog 23 #[r.val] w fun x w' => PutE (chkRec r) w x w' := by
  have ha : Below w.heap.size w (w.alloc (.cells #[.string r.key, .int .i64 r.v.kind, .int .i64 r.v.int, .string r.v.text, .slice r.v.p r.v.n r.v.c, .slice r.p r.n r.c] 27)) := (Below.refl _ _).alloc (Nat.le_refl _) _
  have HK : Hid (∀ W, Below (w.alloc (.cells #[.string r.key, .int .i64 r.v.kind, .int .i64 r.v.int, .string r.v.text, .slice r.v.p r.v.n r.v.c, .slice r.p r.n r.c] 27)).heap.size (w.alloc (.cells #[.string r.key, .int .i64 r.v.kind, .int .i64 r.v.int, .string r.v.text, .slice r.v.p r.v.n r.v.c, .slice r.p r.n r.c] 27)) W → Calls Try.prog 65 #[r.val] W fun x w' => errPost (chkRec r) W x w') := fun W hW => checkRecord_any r W S ((hin.below ha).below hW) (fun b hb => by have := hS b hb; have := ha.size; have := hW.size; omega)
  generalize chkRec r = k at *
  have HC : Hid (∀ W, Calls Try.prog 64 #[r.val, .int .i64 (k : Int), .func (.func 66) #[] #[]] W fun x w' => PutE k W x w') := fun W => refusedRec r W k hk
  have HA := hid ha
  have hbx := Box.new w #[.string r.key, .int .i64 r.v.kind, .int .i64 r.v.int, .string r.v.text, .slice r.v.p r.v.n r.v.c, .slice r.p r.n r.c] 27
  have c0 := hbx.cell 0
  have c1 := hbx.cell 1
  have c2 := hbx.cell 2
  have c3 := hbx.cell 3
  have c4 := hbx.cell 4
  have c5 := hbx.cell 5
  simp only [List.getElem?_toArray, List.getElem?_cons_zero, List.getElem?_cons_succ] at c0 c1 c2 c3 c4 c5
  have HBx := hid hbx
  unfold RT.val at HK HC ⊢
  clear ha hS hbx
  go_enter Try.func23, Try.ntmps23
  go_wp2_with fail
  go_region_law (first
    | (refine step_call rfl 65 #[.tmp 5] _ rfl Try.f65 Try.func65 (by kernel_rfl) rfl #[.agg #[.string r.key, .int .i64 r.v.kind, .int .i64 r.v.int, .string r.v.text, .slice r.v.p r.v.n r.v.c, .slice r.p r.n r.c]] rfl _ (HK.out _ ?_) ?_
       · exact (Below.refl _ _).drew
       rintro e1 w2 ⟨rfl, hb2⟩
       refine ⟨_, rfl, ?_⟩
       have hb3 : Below (w.alloc (.cells #[.string r.key, .int .i64 r.v.kind, .int .i64 r.v.int, .string r.v.text, .slice r.v.p r.v.n r.v.c, .slice r.p r.n r.c] 27)).heap.size (w.alloc (.cells #[.string r.key, .int .i64 r.v.kind, .int .i64 r.v.int, .string r.v.text, .slice r.v.p r.v.n r.v.c, .slice r.p r.n r.c] 27)) w2 := (Below.refl _ _).drew.trans hb2
       have hx2 := HBx.out.below hb3
       have y0 := hx2.cell 0
       have y1 := hx2.cell 1
       have y2 := hx2.cell 2
       have y3 := hx2.cell 3
       have y4 := hx2.cell 4
       have y5 := hx2.cell 5
       simp only [List.getElem?_toArray, List.getElem?_cons_zero, List.getElem?_cons_succ] at y0 y1 y2 y3 y4 y5)
    | (refine step_call rfl 64 #[.tmp 4, .tmp 6, .func 66] _ rfl Try.f64 Try.func64 (by kernel_rfl) rfl #[.agg #[.string r.key, .int .i64 r.v.kind, .int .i64 r.v.int, .string r.v.text, .slice r.v.p r.v.n r.v.c, .slice r.p r.n r.c], .int .i64 (k : Int), .func (.func 66) #[] #[]] rfl _ (HC.out _) ?_
       rintro e3 w3 ⟨rfl, hb4⟩
       refine ⟨_, rfl, ?_⟩
       have HF := hid ((HA.out.trans (hb3.mono HA.out.size)).trans (hb4.mono (Nat.le_trans HA.out.size hb3.size)))))
  all_goals
    clear hb2 hb3 hx2 hb4
    go_wp2
    refine bodyPost_ret (v := .tuple #[.slice none 0 0, .int .i64 (k : Int)]) (by simp [results, Try.results23, go_sem]) rfl ?_
    exact ⟨rfl, HF.out⟩
set_option maxHeartbeats 4000000 in
theorem refusedSt (s : ST) (w : World) (k : Nat) (hk : ((k : Int) != 0) = true) : Calls Try.prog 52 #[s.val, .int .i64 (k : Int), .func (.func 54) #[] #[]] w fun x w' => PutE k w x w' := by
  have ha : Below w.heap.size w (w.alloc (.cells #[.int .i64 s.num, .slice s.p s.n s.c] 30)) := (Below.refl _ _).alloc (Nat.le_refl _) _
  have HA := hid ha
  unfold ST.val
  clear ha
  go_enter Try.func52, Try.ntmps52
  go_wp2
  refine bodyPost_ret (v := .tuple #[.slice none 0 0, .int .i64 (k : Int)]) (by simp [results, Try.results52, go_sem]) rfl ?_
  exact ⟨rfl, HA.out⟩
set_option maxHeartbeats 4000000 in
theorem putSt_bad (s : ST) (w : World) (S : Nat → Prop) (hin : ST.In2 w S s) (hS : ∀ b, S b → b < w.heap.size) (hk : ((chkState s : Int) != 0) = true) : Calls Try.prog 18 #[s.val] w fun x w' => PutE (chkState s) w x w' := by
  have ha : Below w.heap.size w (w.alloc (.cells #[.int .i64 s.num, .slice s.p s.n s.c] 30)) := (Below.refl _ _).alloc (Nat.le_refl _) _
  have HK : Hid (∀ W, Below (w.alloc (.cells #[.int .i64 s.num, .slice s.p s.n s.c] 30)).heap.size (w.alloc (.cells #[.int .i64 s.num, .slice s.p s.n s.c] 30)) W → Calls Try.prog 53 #[s.val] W fun x w' => errPost (chkState s) W x w') := fun W hW => checkState_any s W S ((hin.below ha).below hW).i (fun b hb => by have := hS b hb; have := ha.size; have := hW.size; omega)
  generalize chkState s = k at *
  have HC : Hid (∀ W, Calls Try.prog 52 #[s.val, .int .i64 (k : Int), .func (.func 54) #[] #[]] W fun x w' => PutE k W x w') := fun W => refusedSt s W k hk
  have HA := hid ha
  have hbx := Box.new w #[.int .i64 s.num, .slice s.p s.n s.c] 30
  have c0 := hbx.cell 0
  have c1 := hbx.cell 1
  simp only [List.getElem?_toArray, List.getElem?_cons_zero, List.getElem?_cons_succ] at c0 c1
  have HBx := hid hbx
  unfold ST.val at HK HC ⊢
  clear ha hS hbx
  go_enter Try.func18, Try.ntmps18
  go_wp2_with fail
  go_region_law (first
    | (refine step_call rfl 53 #[.tmp 5] _ rfl Try.f53 Try.func53 (by kernel_rfl) rfl #[.agg #[.int .i64 s.num, .slice s.p s.n s.c]] rfl _ (HK.out _ ?_) ?_
       · exact (Below.refl _ _).drew
       rintro e1 w2 ⟨rfl, hb2⟩
       refine ⟨_, rfl, ?_⟩
       have hb3 : Below (w.alloc (.cells #[.int .i64 s.num, .slice s.p s.n s.c] 30)).heap.size (w.alloc (.cells #[.int .i64 s.num, .slice s.p s.n s.c] 30)) w2 := (Below.refl _ _).drew.trans hb2
       have hx2 := HBx.out.below hb3
       have y0 := hx2.cell 0
       have y1 := hx2.cell 1
       simp only [List.getElem?_toArray, List.getElem?_cons_zero, List.getElem?_cons_succ] at y0 y1)
    | (refine step_call rfl 52 #[.tmp 4, .tmp 6, .func 54] _ rfl Try.f52 Try.func52 (by kernel_rfl) rfl #[.agg #[.int .i64 s.num, .slice s.p s.n s.c], .int .i64 (k : Int), .func (.func 54) #[] #[]] rfl _ (HC.out _) ?_
       rintro e3 w3 ⟨rfl, hb4⟩
       refine ⟨_, rfl, ?_⟩
       have HF := hid ((HA.out.trans (hb3.mono HA.out.size)).trans (hb4.mono (Nat.le_trans HA.out.size hb3.size)))))
  all_goals
    clear hb2 hb3 hx2 hb4
    go_wp2
    refine bodyPost_ret (v := .tuple #[.slice none 0 0, .int .i64 (k : Int)]) (by simp [results, Try.results18, go_sem]) rfl ?_
    exact ⟨rfl, HF.out⟩
set_option maxHeartbeats 4000000 in
theorem refusedMan (m : MI) (w : World) (k : Nat) (hk : ((k : Int) != 0) = true) : Calls Try.prog 58 #[m.val, .int .i64 (k : Int), .func (.func 60) #[] #[]] w fun x w' => PutE k w x w' := by
  have ha : Below w.heap.size w (w.alloc (.cells #[.int .i64 m.id, .int .u32 (m.sum : Int), .slice m.rows.p m.rows.n m.rows.c] 41)) := (Below.refl _ _).alloc (Nat.le_refl _) _
  have HA := hid ha
  unfold MI.val
  clear ha
  go_enter Try.func58, Try.ntmps58
  go_wp2
  refine bodyPost_ret (v := .tuple #[.slice none 0 0, .int .i64 (k : Int)]) (by simp [results, Try.results58, go_sem]) rfl ?_
  exact ⟨rfl, HA.out⟩
set_option maxHeartbeats 4000000 in
theorem putMan_bad (m : MI) (w : World) (S : Nat → Prop) (hin : LT.In elRowI w S m.rows) (_hS : ∀ b, S b → b < w.heap.size) (hk : ((chkMan m : Int) != 0) = true) : Calls Try.prog 21 #[m.val] w fun x w' => PutE (chkMan m) w x w' := by
  have ha : Below w.heap.size w (w.alloc (.cells #[.int .i64 m.id, .int .u32 (m.sum : Int), .slice m.rows.p m.rows.n m.rows.c] 41)) := (Below.refl _ _).alloc (Nat.le_refl _) _
  have HK : Hid (∀ W, Below (w.alloc (.cells #[.int .i64 m.id, .int .u32 (m.sum : Int), .slice m.rows.p m.rows.n m.rows.c] 41)).heap.size (w.alloc (.cells #[.int .i64 m.id, .int .u32 (m.sum : Int), .slice m.rows.p m.rows.n m.rows.c] 41)) W → Calls Try.prog 59 #[m.val] W fun x w' => errPost (chkMan m) W x w') := fun W hW => ckMan_gen m W S ((hin.below ha).below hW)
  generalize chkMan m = k at *
  have HC : Hid (∀ W, Calls Try.prog 58 #[m.val, .int .i64 (k : Int), .func (.func 60) #[] #[]] W fun x w' => PutE k W x w') := fun W => refusedMan m W k hk
  have HA := hid ha
  have hbx := Box.new w #[.int .i64 m.id, .int .u32 (m.sum : Int), .slice m.rows.p m.rows.n m.rows.c] 41
  have c0 := hbx.cell 0
  have c1 := hbx.cell 1
  have c2 := hbx.cell 2
  simp only [List.getElem?_toArray, List.getElem?_cons_zero, List.getElem?_cons_succ] at c0 c1 c2
  have HBx := hid hbx
  unfold MI.val at HK HC ⊢
  clear ha _hS hbx
  go_enter Try.func21, Try.ntmps21
  go_wp2_with fail
  go_region_law (first
    | (refine step_call rfl 59 #[.tmp 5] _ rfl Try.f59 Try.func59 (by kernel_rfl) rfl #[.agg #[.int .i64 m.id, .int .u32 (m.sum : Int), .slice m.rows.p m.rows.n m.rows.c]] rfl _ (HK.out _ ?_) ?_
       · exact (Below.refl _ _).drew
       rintro e1 w2 ⟨rfl, hb2⟩
       refine ⟨_, rfl, ?_⟩
       have hb3 : Below (w.alloc (.cells #[.int .i64 m.id, .int .u32 (m.sum : Int), .slice m.rows.p m.rows.n m.rows.c] 41)).heap.size (w.alloc (.cells #[.int .i64 m.id, .int .u32 (m.sum : Int), .slice m.rows.p m.rows.n m.rows.c] 41)) w2 := (Below.refl _ _).drew.trans hb2
       have hx2 := HBx.out.below hb3
       have y0 := hx2.cell 0
       have y1 := hx2.cell 1
       have y2 := hx2.cell 2
       simp only [List.getElem?_toArray, List.getElem?_cons_zero, List.getElem?_cons_succ] at y0 y1 y2)
    | (refine step_call rfl 58 #[.tmp 4, .tmp 6, .func 60] _ rfl Try.f58 Try.func58 (by kernel_rfl) rfl #[.agg #[.int .i64 m.id, .int .u32 (m.sum : Int), .slice m.rows.p m.rows.n m.rows.c], .int .i64 (k : Int), .func (.func 60) #[] #[]] rfl _ (HC.out _) ?_
       rintro e3 w3 ⟨rfl, hb4⟩
       refine ⟨_, rfl, ?_⟩
       have HF := hid ((HA.out.trans (hb3.mono HA.out.size)).trans (hb4.mono (Nat.le_trans HA.out.size hb3.size)))))
  all_goals
    clear hb2 hb3 hx2 hb4
    go_wp2
    refine bodyPost_ret (v := .tuple #[.slice none 0 0, .int .i64 (k : Int)]) (by simp [results, Try.results21, go_sem]) rfl ?_
    exact ⟨rfl, HF.out⟩
set_option maxHeartbeats 4000000 in
theorem refusedRow (o : OI) (w : World) (k : Nat) (hk : ((k : Int) != 0) = true) : Calls Try.prog 61 #[o.val, .int .i64 (k : Int), .func (.func 63) #[] #[]] w fun x w' => PutE k w x w' := by
  have ha : Below w.heap.size w (w.alloc (.cells #[.int .i64 o.num, .string o.rec_.key, .int .i64 o.rec_.v.kind, .int .i64 o.rec_.v.int, .string o.rec_.v.text, .slice o.rec_.v.p o.rec_.v.n o.rec_.v.c, .slice o.rec_.p o.rec_.n o.rec_.c] 43)) := (Below.refl _ _).alloc (Nat.le_refl _) _
  have HA := hid ha
  unfold OI.val
  clear ha
  go_enter Try.func61, Try.ntmps61
  go_wp2
  refine bodyPost_ret (v := .tuple #[.slice none 0 0, .int .i64 (k : Int)]) (by simp [results, Try.results61, go_sem]) rfl ?_
  exact ⟨rfl, HA.out⟩
set_option maxHeartbeats 4000000 in
theorem putRow_bad (o : OI) (w : World) (S : Nat → Prop) (hin : RT.In w S o.rec_) (hS : ∀ b, S b → b < w.heap.size) (hk : ((chkOut o : Int) != 0) = true) : Calls Try.prog 22 #[o.val] w fun x w' => PutE (chkOut o) w x w' := by
  have ha : Below w.heap.size w (w.alloc (.cells #[.int .i64 o.num, .string o.rec_.key, .int .i64 o.rec_.v.kind, .int .i64 o.rec_.v.int, .string o.rec_.v.text, .slice o.rec_.v.p o.rec_.v.n o.rec_.v.c, .slice o.rec_.p o.rec_.n o.rec_.c] 43)) := (Below.refl _ _).alloc (Nat.le_refl _) _
  have HK : Hid (∀ W, Below (w.alloc (.cells #[.int .i64 o.num, .string o.rec_.key, .int .i64 o.rec_.v.kind, .int .i64 o.rec_.v.int, .string o.rec_.v.text, .slice o.rec_.v.p o.rec_.v.n o.rec_.v.c, .slice o.rec_.p o.rec_.n o.rec_.c] 43)).heap.size (w.alloc (.cells #[.int .i64 o.num, .string o.rec_.key, .int .i64 o.rec_.v.kind, .int .i64 o.rec_.v.int, .string o.rec_.v.text, .slice o.rec_.v.p o.rec_.v.n o.rec_.v.c, .slice o.rec_.p o.rec_.n o.rec_.c] 43)) W → Calls Try.prog 62 #[o.val] W fun x w' => errPost (chkOut o) W x w') := fun W hW => ckRow_gen o W S ((hin.below ha).below hW) (fun b hb => by have := hS b hb; have := ha.size; have := hW.size; omega)
  generalize chkOut o = k at *
  have HC : Hid (∀ W, Calls Try.prog 61 #[o.val, .int .i64 (k : Int), .func (.func 63) #[] #[]] W fun x w' => PutE k W x w') := fun W => refusedRow o W k hk
  have HA := hid ha
  have hbx := Box.new w #[.int .i64 o.num, .string o.rec_.key, .int .i64 o.rec_.v.kind, .int .i64 o.rec_.v.int, .string o.rec_.v.text, .slice o.rec_.v.p o.rec_.v.n o.rec_.v.c, .slice o.rec_.p o.rec_.n o.rec_.c] 43
  have c0 := hbx.cell 0
  have c1 := hbx.cell 1
  have c2 := hbx.cell 2
  have c3 := hbx.cell 3
  have c4 := hbx.cell 4
  have c5 := hbx.cell 5
  have c6 := hbx.cell 6
  simp only [List.getElem?_toArray, List.getElem?_cons_zero, List.getElem?_cons_succ] at c0 c1 c2 c3 c4 c5 c6
  have HBx := hid hbx
  unfold OI.val at HK HC ⊢
  clear ha hS hbx
  go_enter Try.func22, Try.ntmps22
  go_wp2_with fail
  go_region_law (first
    | (refine step_call rfl 62 #[.tmp 5] _ rfl Try.f62 Try.func62 (by kernel_rfl) rfl #[.agg #[.int .i64 o.num, .string o.rec_.key, .int .i64 o.rec_.v.kind, .int .i64 o.rec_.v.int, .string o.rec_.v.text, .slice o.rec_.v.p o.rec_.v.n o.rec_.v.c, .slice o.rec_.p o.rec_.n o.rec_.c]] rfl _ (HK.out _ ?_) ?_
       · exact (Below.refl _ _).drew
       rintro e1 w2 ⟨rfl, hb2⟩
       refine ⟨_, rfl, ?_⟩
       have hb3 : Below (w.alloc (.cells #[.int .i64 o.num, .string o.rec_.key, .int .i64 o.rec_.v.kind, .int .i64 o.rec_.v.int, .string o.rec_.v.text, .slice o.rec_.v.p o.rec_.v.n o.rec_.v.c, .slice o.rec_.p o.rec_.n o.rec_.c] 43)).heap.size (w.alloc (.cells #[.int .i64 o.num, .string o.rec_.key, .int .i64 o.rec_.v.kind, .int .i64 o.rec_.v.int, .string o.rec_.v.text, .slice o.rec_.v.p o.rec_.v.n o.rec_.v.c, .slice o.rec_.p o.rec_.n o.rec_.c] 43)) w2 := (Below.refl _ _).drew.trans hb2
       have hx2 := HBx.out.below hb3
       have y0 := hx2.cell 0
       have y1 := hx2.cell 1
       have y2 := hx2.cell 2
       have y3 := hx2.cell 3
       have y4 := hx2.cell 4
       have y5 := hx2.cell 5
       have y6 := hx2.cell 6
       simp only [List.getElem?_toArray, List.getElem?_cons_zero, List.getElem?_cons_succ] at y0 y1 y2 y3 y4 y5 y6)
    | (refine step_call rfl 61 #[.tmp 4, .tmp 6, .func 63] _ rfl Try.f61 Try.func61 (by kernel_rfl) rfl #[.agg #[.int .i64 o.num, .string o.rec_.key, .int .i64 o.rec_.v.kind, .int .i64 o.rec_.v.int, .string o.rec_.v.text, .slice o.rec_.v.p o.rec_.v.n o.rec_.v.c, .slice o.rec_.p o.rec_.n o.rec_.c], .int .i64 (k : Int), .func (.func 63) #[] #[]] rfl _ (HC.out _) ?_
       rintro e3 w3 ⟨rfl, hb4⟩
       refine ⟨_, rfl, ?_⟩
       have HF := hid ((HA.out.trans (hb3.mono HA.out.size)).trans (hb4.mono (Nat.le_trans HA.out.size hb3.size)))))
  all_goals
    clear hb2 hb3 hx2 hb4
    go_wp2
    refine bodyPost_ret (v := .tuple #[.slice none 0 0, .int .i64 (k : Int)]) (by simp [results, Try.results22, go_sem]) rfl ?_
    exact ⟨rfl, HF.out⟩
set_option maxHeartbeats 4000000 in
theorem refusedSeg (g : GI) (w : World) (k : Nat) (hk : ((k : Int) != 0) = true) : Calls Try.prog 55 #[g.val, .int .i64 (k : Int), .func (.func 57) #[] #[]] w fun x w' => PutE k w x w' := by
  have ha : Below w.heap.size w (w.alloc (.cells #[.int .i64 g.id, .int .i64 g.task, .int .i64 g.base, .int .u32 (g.sum : Int), .int .i64 g.st.num, .slice g.st.p g.st.n g.st.c, .int .i64 g.dnum, .slice g.set.p g.set.n g.set.c, .slice g.gone.p g.gone.n g.gone.c, .slice g.logs.p g.logs.n g.logs.c, .slice g.pend.p g.pend.n g.pend.c] 38)) := (Below.refl _ _).alloc (Nat.le_refl _) _
  have HA := hid ha
  unfold GI.val
  clear ha
  go_enter Try.func55, Try.ntmps55
  go_wp2
  refine bodyPost_ret (v := .tuple #[.slice none 0 0, .int .i64 (k : Int)]) (by simp [results, Try.results55, go_sem]) rfl ?_
  exact ⟨rfl, HA.out⟩
set_option maxHeartbeats 4000000 in
theorem putSeg_bad (g : GI) (w : World) (S : Nat → Prop) (hin : GI.In w S g) (hS : ∀ b, S b → b < w.heap.size) (hk : ((chkSeg g : Int) != 0) = true) : Calls Try.prog 20 #[g.val] w fun x w' => PutE (chkSeg g) w x w' := by
  have ha : Below w.heap.size w (w.alloc (.cells #[.int .i64 g.id, .int .i64 g.task, .int .i64 g.base, .int .u32 (g.sum : Int), .int .i64 g.st.num, .slice g.st.p g.st.n g.st.c, .int .i64 g.dnum, .slice g.set.p g.set.n g.set.c, .slice g.gone.p g.gone.n g.gone.c, .slice g.logs.p g.logs.n g.logs.c, .slice g.pend.p g.pend.n g.pend.c] 38)) := (Below.refl _ _).alloc (Nat.le_refl _) _
  have HK : Hid (∀ W, Below (w.alloc (.cells #[.int .i64 g.id, .int .i64 g.task, .int .i64 g.base, .int .u32 (g.sum : Int), .int .i64 g.st.num, .slice g.st.p g.st.n g.st.c, .int .i64 g.dnum, .slice g.set.p g.set.n g.set.c, .slice g.gone.p g.gone.n g.gone.c, .slice g.logs.p g.logs.n g.logs.c, .slice g.pend.p g.pend.n g.pend.c] 38)).heap.size (w.alloc (.cells #[.int .i64 g.id, .int .i64 g.task, .int .i64 g.base, .int .u32 (g.sum : Int), .int .i64 g.st.num, .slice g.st.p g.st.n g.st.c, .int .i64 g.dnum, .slice g.set.p g.set.n g.set.c, .slice g.gone.p g.gone.n g.gone.c, .slice g.logs.p g.logs.n g.logs.c, .slice g.pend.p g.pend.n g.pend.c] 38)) W → Calls Try.prog 56 #[g.val] W fun x w' => errPost (chkSeg g) W x w') := fun W hW => ckSeg_gen g W S ((hin.below ha).below hW) (fun b hb => by have := hS b hb; have := ha.size; have := hW.size; omega)
  generalize chkSeg g = k at *
  have HC : Hid (∀ W, Calls Try.prog 55 #[g.val, .int .i64 (k : Int), .func (.func 57) #[] #[]] W fun x w' => PutE k W x w') := fun W => refusedSeg g W k hk
  have HA := hid ha
  have hbx := Box.new w #[.int .i64 g.id, .int .i64 g.task, .int .i64 g.base, .int .u32 (g.sum : Int), .int .i64 g.st.num, .slice g.st.p g.st.n g.st.c, .int .i64 g.dnum, .slice g.set.p g.set.n g.set.c, .slice g.gone.p g.gone.n g.gone.c, .slice g.logs.p g.logs.n g.logs.c, .slice g.pend.p g.pend.n g.pend.c] 38
  have c0 := hbx.cell 0
  have c1 := hbx.cell 1
  have c2 := hbx.cell 2
  have c3 := hbx.cell 3
  have c4 := hbx.cell 4
  have c5 := hbx.cell 5
  have c6 := hbx.cell 6
  have c7 := hbx.cell 7
  have c8 := hbx.cell 8
  have c9 := hbx.cell 9
  have c10 := hbx.cell 10
  simp only [List.getElem?_toArray, List.getElem?_cons_zero, List.getElem?_cons_succ] at c0 c1 c2 c3 c4 c5 c6 c7 c8 c9 c10
  have HBx := hid hbx
  unfold GI.val at HK HC ⊢
  clear ha hS hbx
  go_enter Try.func20, Try.ntmps20
  go_wp2_with fail
  go_region_law (first
    | (refine step_call rfl 56 #[.tmp 5] _ rfl Try.f56 Try.func56 (by kernel_rfl) rfl #[.agg #[.int .i64 g.id, .int .i64 g.task, .int .i64 g.base, .int .u32 (g.sum : Int), .int .i64 g.st.num, .slice g.st.p g.st.n g.st.c, .int .i64 g.dnum, .slice g.set.p g.set.n g.set.c, .slice g.gone.p g.gone.n g.gone.c, .slice g.logs.p g.logs.n g.logs.c, .slice g.pend.p g.pend.n g.pend.c]] rfl _ (HK.out _ ?_) ?_
       · exact (Below.refl _ _).drew
       rintro e1 w2 ⟨rfl, hb2⟩
       refine ⟨_, rfl, ?_⟩
       have hb3 : Below (w.alloc (.cells #[.int .i64 g.id, .int .i64 g.task, .int .i64 g.base, .int .u32 (g.sum : Int), .int .i64 g.st.num, .slice g.st.p g.st.n g.st.c, .int .i64 g.dnum, .slice g.set.p g.set.n g.set.c, .slice g.gone.p g.gone.n g.gone.c, .slice g.logs.p g.logs.n g.logs.c, .slice g.pend.p g.pend.n g.pend.c] 38)).heap.size (w.alloc (.cells #[.int .i64 g.id, .int .i64 g.task, .int .i64 g.base, .int .u32 (g.sum : Int), .int .i64 g.st.num, .slice g.st.p g.st.n g.st.c, .int .i64 g.dnum, .slice g.set.p g.set.n g.set.c, .slice g.gone.p g.gone.n g.gone.c, .slice g.logs.p g.logs.n g.logs.c, .slice g.pend.p g.pend.n g.pend.c] 38)) w2 := (Below.refl _ _).drew.trans hb2
       have hx2 := HBx.out.below hb3
       have y0 := hx2.cell 0
       have y1 := hx2.cell 1
       have y2 := hx2.cell 2
       have y3 := hx2.cell 3
       have y4 := hx2.cell 4
       have y5 := hx2.cell 5
       have y6 := hx2.cell 6
       have y7 := hx2.cell 7
       have y8 := hx2.cell 8
       have y9 := hx2.cell 9
       have y10 := hx2.cell 10
       simp only [List.getElem?_toArray, List.getElem?_cons_zero, List.getElem?_cons_succ] at y0 y1 y2 y3 y4 y5 y6 y7 y8 y9 y10)
    | (refine step_call rfl 55 #[.tmp 4, .tmp 6, .func 57] _ rfl Try.f55 Try.func55 (by kernel_rfl) rfl #[.agg #[.int .i64 g.id, .int .i64 g.task, .int .i64 g.base, .int .u32 (g.sum : Int), .int .i64 g.st.num, .slice g.st.p g.st.n g.st.c, .int .i64 g.dnum, .slice g.set.p g.set.n g.set.c, .slice g.gone.p g.gone.n g.gone.c, .slice g.logs.p g.logs.n g.logs.c, .slice g.pend.p g.pend.n g.pend.c], .int .i64 (k : Int), .func (.func 57) #[] #[]] rfl _ (HC.out _) ?_
       rintro e3 w3 ⟨rfl, hb4⟩
       refine ⟨_, rfl, ?_⟩
       have HF := hid ((HA.out.trans (hb3.mono HA.out.size)).trans (hb4.mono (Nat.le_trans HA.out.size hb3.size)))))
  all_goals
    clear hb2 hb3 hx2 hb4
    go_wp2
    refine bodyPost_ret (v := .tuple #[.slice none 0 0, .int .i64 (k : Int)]) (by simp [results, Try.results20, go_sem]) rfl ?_
    exact ⟨rfl, HF.out⟩
end Go.Proofs.Ytikfpoabaaiegaa
