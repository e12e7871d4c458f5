import Derived.Test.YtfonicphdejdlaaGreatPack22
import Derived.Test.YtfonicphdejdlaaGreatWpI
namespace Go.Proofs.YtfonicphdejdlaaGreat
open Go.RowKit
set_option maxRecDepth 8000

/-- an error, and no bytes -/
def PutE (k : Nat) (w : World) (x : Ending) (w' : World) : Prop := x = .returned (.tuple #[.slice none 0 0, .int .i64 (k : Int)]) ∧ Below w.heap.size w w'
set_option maxHeartbeats 4000000 in
theorem refusedRec (r : RT) (w : World) (k : Nat) (hk : ((k : Int) != 0) = true) : Calls Tryz.prog 51 #[r.val, .int .i64 (k : Int), .func (.func 53) #[] #[]] w fun x w' => PutE k w x w' := by
  have ha : Below w.heap.size w (w.alloc (.cells #[.string r.key, .int .i64 r.v.kind, .int .i64 r.v.int, .string r.v.text, .slice r.v.p r.v.n r.v.c, .slice r.p r.n r.c] 27)) := (Below.refl _ _).alloc (Nat.le_refl _) _
  have HA := hid ha
  unfold RT.val
  clear ha
  go_enter Tryz.func51, Tryz.ntmps51
  go_wp2
  refine bodyPost_ret (v := .tuple #[.slice none 0 0, .int .i64 (k : Int)]) (by simp [results, Tryz.results51, go_sem]) rfl ?_
  exact ⟨rfl, HA.out⟩
set_option maxHeartbeats 4000000 in
theorem putRec_bad (r : RT) (w : World) (S : Nat → Prop) (hin : RT.In w S r) (hS : ∀ b, S b → b < w.heap.size) (hk : ((chkRec r : Int) != 0) = true) : Calls Tryz.prog 23 #[r.val] w fun x w' => PutE (chkRec r) w x w' := by
  have ha : Below w.heap.size w (w.alloc (.cells #[.string r.key, .int .i64 r.v.kind, .int .i64 r.v.int, .string r.v.text, .slice r.v.p r.v.n r.v.c, .slice r.p r.n r.c] 27)) := (Below.refl _ _).alloc (Nat.le_refl _) _
  have HK : Hid (∀ W, Below (w.alloc (.cells #[.string r.key, .int .i64 r.v.kind, .int .i64 r.v.int, .string r.v.text, .slice r.v.p r.v.n r.v.c, .slice r.p r.n r.c] 27)).heap.size (w.alloc (.cells #[.string r.key, .int .i64 r.v.kind, .int .i64 r.v.int, .string r.v.text, .slice r.v.p r.v.n r.v.c, .slice r.p r.n r.c] 27)) W → Calls Tryz.prog 52 #[r.val] W fun x w' => errPost (chkRec r) W x w') := fun W hW => checkRecord_any r W S ((hin.below ha).below hW) (fun b hb => by have := hS b hb; have := ha.size; have := hW.size; omega)
  generalize chkRec r = k at *
  have HC : Hid (∀ W, Calls Tryz.prog 51 #[r.val, .int .i64 (k : Int), .func (.func 53) #[] #[]] W fun x w' => PutE k W x w') := fun W => refusedRec r W k hk
  have HA := hid ha
  have hbx := Box.new w #[.string r.key, .int .i64 r.v.kind, .int .i64 r.v.int, .string r.v.text, .slice r.v.p r.v.n r.v.c, .slice r.p r.n r.c] 27
  have c0 := hbx.cell 0
  have c1 := hbx.cell 1
  have c2 := hbx.cell 2
  have c3 := hbx.cell 3
  have c4 := hbx.cell 4
  have c5 := hbx.cell 5
  simp only [List.getElem?_toArray, List.getElem?_cons_zero, List.getElem?_cons_succ] at c0 c1 c2 c3 c4 c5
  have HBx := hid hbx
  unfold RT.val at HK HC ⊢
  clear ha hS hbx
  go_enter Tryz.func23, Tryz.ntmps23
  go_wp2_with fail
  go_region_law (first
    | (refine step_call rfl 52 #[.tmp 5] _ rfl Tryz.f52 Tryz.func52 (by kernel_rfl) rfl #[.agg #[.string r.key, .int .i64 r.v.kind, .int .i64 r.v.int, .string r.v.text, .slice r.v.p r.v.n r.v.c, .slice r.p r.n r.c]] rfl _ (HK.out _ ?_) ?_
       · exact (Below.refl _ _).drew
       rintro e1 w2 ⟨rfl, hb2⟩
       refine ⟨_, rfl, ?_⟩
       have hb3 : Below (w.alloc (.cells #[.string r.key, .int .i64 r.v.kind, .int .i64 r.v.int, .string r.v.text, .slice r.v.p r.v.n r.v.c, .slice r.p r.n r.c] 27)).heap.size (w.alloc (.cells #[.string r.key, .int .i64 r.v.kind, .int .i64 r.v.int, .string r.v.text, .slice r.v.p r.v.n r.v.c, .slice r.p r.n r.c] 27)) w2 := (Below.refl _ _).drew.trans hb2
       have hx2 := HBx.out.below hb3
       have y0 := hx2.cell 0
       have y1 := hx2.cell 1
       have y2 := hx2.cell 2
       have y3 := hx2.cell 3
       have y4 := hx2.cell 4
       have y5 := hx2.cell 5
       simp only [List.getElem?_toArray, List.getElem?_cons_zero, List.getElem?_cons_succ] at y0 y1 y2 y3 y4 y5)
    | (refine step_call rfl 51 #[.tmp 4, .tmp 6, .func 53] _ rfl Tryz.f51 Tryz.func51 (by kernel_rfl) rfl #[.agg #[.string r.key, .int .i64 r.v.kind, .int .i64 r.v.int, .string r.v.text, .slice r.v.p r.v.n r.v.c, .slice r.p r.n r.c], .int .i64 (k : Int), .func (.func 53) #[] #[]] rfl _ (HC.out _) ?_
       rintro e3 w3 ⟨rfl, hb4⟩
       refine ⟨_, rfl, ?_⟩
       have HF := hid ((HA.out.trans (hb3.mono HA.out.size)).trans (hb4.mono (Nat.le_trans HA.out.size hb3.size)))))
  all_goals
    clear hb2 hb3 hx2 hb4
    go_wp2
    refine bodyPost_ret (v := .tuple #[.slice none 0 0, .int .i64 (k : Int)]) (by simp [results, Tryz.results23, go_sem]) rfl ?_
    exact ⟨rfl, HF.out⟩
set_option maxHeartbeats 4000000 in
theorem refusedSt (s : ST) (w : World) (k : Nat) (hk : ((k : Int) != 0) = true) : Calls Tryz.prog 39 #[s.val, .int .i64 (k : Int), .func (.func 41) #[] #[]] w fun x w' => PutE k w x w' := by
  have ha : Below w.heap.size w (w.alloc (.cells #[.int .i64 s.num, .slice s.p s.n s.c] 30)) := (Below.refl _ _).alloc (Nat.le_refl _) _
  have HA := hid ha
  unfold ST.val
  clear ha
  go_enter Tryz.func39, Tryz.ntmps39
  go_wp2
  refine bodyPost_ret (v := .tuple #[.slice none 0 0, .int .i64 (k : Int)]) (by simp [results, Tryz.results39, go_sem]) rfl ?_
  exact ⟨rfl, HA.out⟩
set_option maxHeartbeats 4000000 in
theorem putSt_bad (s : ST) (w : World) (S : Nat → Prop) (hin : ST.In2 w S s) (hS : ∀ b, S b → b < w.heap.size) (hk : ((chkState s : Int) != 0) = true) : Calls Tryz.prog 18 #[s.val] w fun x w' => PutE (chkState s) w x w' := by
  have ha : Below w.heap.size w (w.alloc (.cells #[.int .i64 s.num, .slice s.p s.n s.c] 30)) := (Below.refl _ _).alloc (Nat.le_refl _) _
  have HK : Hid (∀ W, Below (w.alloc (.cells #[.int .i64 s.num, .slice s.p s.n s.c] 30)).heap.size (w.alloc (.cells #[.int .i64 s.num, .slice s.p s.n s.c] 30)) W → Calls Tryz.prog 40 #[s.val] W fun x w' => errPost (chkState s) W x w') := fun W hW => checkState_any s W S ((hin.below ha).below hW).i (fun b hb => by have := hS b hb; have := ha.size; have := hW.size; omega)
  generalize chkState s = k at *
  have HC : Hid (∀ W, Calls Tryz.prog 39 #[s.val, .int .i64 (k : Int), .func (.func 41) #[] #[]] W fun x w' => PutE k W x w') := fun W => refusedSt s W k hk
  have HA := hid ha
  have hbx := Box.new w #[.int .i64 s.num, .slice s.p s.n s.c] 30
  have c0 := hbx.cell 0
  have c1 := hbx.cell 1
  simp only [List.getElem?_toArray, List.getElem?_cons_zero, List.getElem?_cons_succ] at c0 c1
  have HBx := hid hbx
  unfold ST.val at HK HC ⊢
  clear ha hS hbx
  go_enter Tryz.func18, Tryz.ntmps18
  go_wp2_with fail
  go_region_law (first
    | (refine step_call rfl 40 #[.tmp 5] _ rfl Tryz.f40 Tryz.func40 (by kernel_rfl) rfl #[.agg #[.int .i64 s.num, .slice s.p s.n s.c]] rfl _ (HK.out _ ?_) ?_
       · exact (Below.refl _ _).drew
       rintro e1 w2 ⟨rfl, hb2⟩
       refine ⟨_, rfl, ?_⟩
       have hb3 : Below (w.alloc (.cells #[.int .i64 s.num, .slice s.p s.n s.c] 30)).heap.size (w.alloc (.cells #[.int .i64 s.num, .slice s.p s.n s.c] 30)) w2 := (Below.refl _ _).drew.trans hb2
       have hx2 := HBx.out.below hb3
       have y0 := hx2.cell 0
       have y1 := hx2.cell 1
       simp only [List.getElem?_toArray, List.getElem?_cons_zero, List.getElem?_cons_succ] at y0 y1)
    | (refine step_call rfl 39 #[.tmp 4, .tmp 6, .func 41] _ rfl Tryz.f39 Tryz.func39 (by kernel_rfl) rfl #[.agg #[.int .i64 s.num, .slice s.p s.n s.c], .int .i64 (k : Int), .func (.func 41) #[] #[]] rfl _ (HC.out _) ?_
       rintro e3 w3 ⟨rfl, hb4⟩
       refine ⟨_, rfl, ?_⟩
       have HF := hid ((HA.out.trans (hb3.mono HA.out.size)).trans (hb4.mono (Nat.le_trans HA.out.size hb3.size)))))
  all_goals
    clear hb2 hb3 hx2 hb4
    go_wp2
    refine bodyPost_ret (v := .tuple #[.slice none 0 0, .int .i64 (k : Int)]) (by simp [results, Tryz.results18, go_sem]) rfl ?_
    exact ⟨rfl, HF.out⟩
set_option maxHeartbeats 4000000 in
theorem refusedMan (m : MI) (w : World) (k : Nat) (hk : ((k : Int) != 0) = true) : Calls Tryz.prog 45 #[m.val, .int .i64 (k : Int), .func (.func 47) #[] #[]] w fun x w' => PutE k w x w' := by
  have ha : Below w.heap.size w (w.alloc (.cells #[.int .i64 m.id, .int .u32 (m.sum : Int), .slice m.rows.p m.rows.n m.rows.c] 41)) := (Below.refl _ _).alloc (Nat.le_refl _) _
  have HA := hid ha
  unfold MI.val
  clear ha
  go_enter Tryz.func45, Tryz.ntmps45
  go_wp2
  refine bodyPost_ret (v := .tuple #[.slice none 0 0, .int .i64 (k : Int)]) (by simp [results, Tryz.results45, go_sem]) rfl ?_
  exact ⟨rfl, HA.out⟩
set_option maxHeartbeats 4000000 in
theorem putMan_bad (m : MI) (w : World) (S : Nat → Prop) (hin : LT.In elRowI w S m.rows) (_hS : ∀ b, S b → b < w.heap.size) (hk : ((chkMan m : Int) != 0) = true) : Calls Tryz.prog 21 #[m.val] w fun x w' => PutE (chkMan m) w x w' := by
  have ha : Below w.heap.size w (w.alloc (.cells #[.int .i64 m.id, .int .u32 (m.sum : Int), .slice m.rows.p m.rows.n m.rows.c] 41)) := (Below.refl _ _).alloc (Nat.le_refl _) _
  have HK : Hid (∀ W, Below (w.alloc (.cells #[.int .i64 m.id, .int .u32 (m.sum : Int), .slice m.rows.p m.rows.n m.rows.c] 41)).heap.size (w.alloc (.cells #[.int .i64 m.id, .int .u32 (m.sum : Int), .slice m.rows.p m.rows.n m.rows.c] 41)) W → Calls Tryz.prog 46 #[m.val] W fun x w' => errPost (chkMan m) W x w') := fun W hW => ckMan_gen m W S ((hin.below ha).below hW)
  generalize chkMan m = k at *
  have HC : Hid (∀ W, Calls Tryz.prog 45 #[m.val, .int .i64 (k : Int), .func (.func 47) #[] #[]] W fun x w' => PutE k W x w') := fun W => refusedMan m W k hk
  have HA := hid ha
  have hbx := Box.new w #[.int .i64 m.id, .int .u32 (m.sum : Int), .slice m.rows.p m.rows.n m.rows.c] 41
  have c0 := hbx.cell 0
  have c1 := hbx.cell 1
  have c2 := hbx.cell 2
  simp only [List.getElem?_toArray, List.getElem?_cons_zero, List.getElem?_cons_succ] at c0 c1 c2
  have HBx := hid hbx
  unfold MI.val at HK HC ⊢
  clear ha _hS hbx
  go_enter Tryz.func21, Tryz.ntmps21
  go_wp2_with fail
  go_region_law (first
    | (refine step_call rfl 46 #[.tmp 5] _ rfl Tryz.f46 Tryz.func46 (by kernel_rfl) rfl #[.agg #[.int .i64 m.id, .int .u32 (m.sum : Int), .slice m.rows.p m.rows.n m.rows.c]] rfl _ (HK.out _ ?_) ?_
       · exact (Below.refl _ _).drew
       rintro e1 w2 ⟨rfl, hb2⟩
       refine ⟨_, rfl, ?_⟩
       have hb3 : Below (w.alloc (.cells #[.int .i64 m.id, .int .u32 (m.sum : Int), .slice m.rows.p m.rows.n m.rows.c] 41)).heap.size (w.alloc (.cells #[.int .i64 m.id, .int .u32 (m.sum : Int), .slice m.rows.p m.rows.n m.rows.c] 41)) w2 := (Below.refl _ _).drew.trans hb2
       have hx2 := HBx.out.below hb3
       have y0 := hx2.cell 0
       have y1 := hx2.cell 1
       have y2 := hx2.cell 2
       simp only [List.getElem?_toArray, List.getElem?_cons_zero, List.getElem?_cons_succ] at y0 y1 y2)
    | (refine step_call rfl 45 #[.tmp 4, .tmp 6, .func 47] _ rfl Tryz.f45 Tryz.func45 (by kernel_rfl) rfl #[.agg #[.int .i64 m.id, .int .u32 (m.sum : Int), .slice m.rows.p m.rows.n m.rows.c], .int .i64 (k : Int), .func (.func 47) #[] #[]] rfl _ (HC.out _) ?_
       rintro e3 w3 ⟨rfl, hb4⟩
       refine ⟨_, rfl, ?_⟩
       have HF := hid ((HA.out.trans (hb3.mono HA.out.size)).trans (hb4.mono (Nat.le_trans HA.out.size hb3.size)))))
  all_goals
    clear hb2 hb3 hx2 hb4
    go_wp2
    refine bodyPost_ret (v := .tuple #[.slice none 0 0, .int .i64 (k : Int)]) (by simp [results, Tryz.results21, go_sem]) rfl ?_
    exact ⟨rfl, HF.out⟩
set_option maxHeartbeats 4000000 in
theorem refusedRow (o : OI) (w : World) (k : Nat) (hk : ((k : Int) != 0) = true) : Calls Tryz.prog 48 #[o.val, .int .i64 (k : Int), .func (.func 50) #[] #[]] w fun x w' => PutE k w x w' := by
  have ha : Below w.heap.size w (w.alloc (.cells #[.int .i64 o.num, .string o.rec_.key, .int .i64 o.rec_.v.kind, .int .i64 o.rec_.v.int, .string o.rec_.v.text, .slice o.rec_.v.p o.rec_.v.n o.rec_.v.c, .slice o.rec_.p o.rec_.n o.rec_.c] 43)) := (Below.refl _ _).alloc (Nat.le_refl _) _
  have HA := hid ha
  unfold OI.val
  clear ha
  go_enter Tryz.func48, Tryz.ntmps48
  go_wp2
  refine bodyPost_ret (v := .tuple #[.slice none 0 0, .int .i64 (k : Int)]) (by simp [results, Tryz.results48, go_sem]) rfl ?_
  exact ⟨rfl, HA.out⟩
set_option maxHeartbeats 4000000 in
theorem putRow_bad (o : OI) (w : World) (S : Nat → Prop) (hin : RT.In w S o.rec_) (hS : ∀ b, S b → b < w.heap.size) (hk : ((chkOut o : Int) != 0) = true) : Calls Tryz.prog 22 #[o.val] w fun x w' => PutE (chkOut o) w x w' := by
  have ha : Below w.heap.size w (w.alloc (.cells #[.int .i64 o.num, .string o.rec_.key, .int .i64 o.rec_.v.kind, .int .i64 o.rec_.v.int, .string o.rec_.v.text, .slice o.rec_.v.p o.rec_.v.n o.rec_.v.c, .slice o.rec_.p o.rec_.n o.rec_.c] 43)) := (Below.refl _ _).alloc (Nat.le_refl _) _
  have HK : Hid (∀ W, Below (w.alloc (.cells #[.int .i64 o.num, .string o.rec_.key, .int .i64 o.rec_.v.kind, .int .i64 o.rec_.v.int, .string o.rec_.v.text, .slice o.rec_.v.p o.rec_.v.n o.rec_.v.c, .slice o.rec_.p o.rec_.n o.rec_.c] 43)).heap.size (w.alloc (.cells #[.int .i64 o.num, .string o.rec_.key, .int .i64 o.rec_.v.kind, .int .i64 o.rec_.v.int, .string o.rec_.v.text, .slice o.rec_.v.p o.rec_.v.n o.rec_.v.c, .slice o.rec_.p o.rec_.n o.rec_.c] 43)) W → Calls Tryz.prog 49 #[o.val] W fun x w' => errPost (chkOut o) W x w') := fun W hW => ckRow_gen o W S ((hin.below ha).below hW) (fun b hb => by have := hS b hb; have := ha.size; have := hW.size; omega)
  generalize chkOut o = k at *
  have HC : Hid (∀ W, Calls Tryz.prog 48 #[o.val, .int .i64 (k : Int), .func (.func 50) #[] #[]] W fun x w' => PutE k W x w') := fun W => refusedRow o W k hk
  have HA := hid ha
  have hbx := Box.new w #[.int .i64 o.num, .string o.rec_.key, .int .i64 o.rec_.v.kind, .int .i64 o.rec_.v.int, .string o.rec_.v.text, .slice o.rec_.v.p o.rec_.v.n o.rec_.v.c, .slice o.rec_.p o.rec_.n o.rec_.c] 43
  have c0 := hbx.cell 0
  have c1 := hbx.cell 1
  have c2 := hbx.cell 2
  have c3 := hbx.cell 3
  have c4 := hbx.cell 4
  have c5 := hbx.cell 5
  have c6 := hbx.cell 6
  simp only [List.getElem?_toArray, List.getElem?_cons_zero, List.getElem?_cons_succ] at c0 c1 c2 c3 c4 c5 c6
  have HBx := hid hbx
  unfold OI.val at HK HC ⊢
  clear ha hS hbx
  go_enter Tryz.func22, Tryz.ntmps22
  go_wp2_with fail
  go_region_law (first
    | (refine step_call rfl 49 #[.tmp 5] _ rfl Tryz.f49 Tryz.func49 (by kernel_rfl) rfl #[.agg #[.int .i64 o.num, .string o.rec_.key, .int .i64 o.rec_.v.kind, .int .i64 o.rec_.v.int, .string o.rec_.v.text, .slice o.rec_.v.p o.rec_.v.n o.rec_.v.c, .slice o.rec_.p o.rec_.n o.rec_.c]] rfl _ (HK.out _ ?_) ?_
       · exact (Below.refl _ _).drew
       rintro e1 w2 ⟨rfl, hb2⟩
       refine ⟨_, rfl, ?_⟩
       have hb3 : Below (w.alloc (.cells #[.int .i64 o.num, .string o.rec_.key, .int .i64 o.rec_.v.kind, .int .i64 o.rec_.v.int, .string o.rec_.v.text, .slice o.rec_.v.p o.rec_.v.n o.rec_.v.c, .slice o.rec_.p o.rec_.n o.rec_.c] 43)).heap.size (w.alloc (.cells #[.int .i64 o.num, .string o.rec_.key, .int .i64 o.rec_.v.kind, .int .i64 o.rec_.v.int, .string o.rec_.v.text, .slice o.rec_.v.p o.rec_.v.n o.rec_.v.c, .slice o.rec_.p o.rec_.n o.rec_.c] 43)) w2 := (Below.refl _ _).drew.trans hb2
       have hx2 := HBx.out.below hb3
       have y0 := hx2.cell 0
       have y1 := hx2.cell 1
       have y2 := hx2.cell 2
       have y3 := hx2.cell 3
       have y4 := hx2.cell 4
       have y5 := hx2.cell 5
       have y6 := hx2.cell 6
       simp only [List.getElem?_toArray, List.getElem?_cons_zero, List.getElem?_cons_succ] at y0 y1 y2 y3 y4 y5 y6)
    | (refine step_call rfl 48 #[.tmp 4, .tmp 6, .func 50] _ rfl Tryz.f48 Tryz.func48 (by kernel_rfl) rfl #[.agg #[.int .i64 o.num, .string o.rec_.key, .int .i64 o.rec_.v.kind, .int .i64 o.rec_.v.int, .string o.rec_.v.text, .slice o.rec_.v.p o.rec_.v.n o.rec_.v.c, .slice o.rec_.p o.rec_.n o.rec_.c], .int .i64 (k : Int), .func (.func 50) #[] #[]] rfl _ (HC.out _) ?_
       rintro e3 w3 ⟨rfl, hb4⟩
       refine ⟨_, rfl, ?_⟩
       have HF := hid ((HA.out.trans (hb3.mono HA.out.size)).trans (hb4.mono (Nat.le_trans HA.out.size hb3.size)))))
  all_goals
    clear hb2 hb3 hx2 hb4
    go_wp2
    refine bodyPost_ret (v := .tuple #[.slice none 0 0, .int .i64 (k : Int)]) (by simp [results, Tryz.results22, go_sem]) rfl ?_
    exact ⟨rfl, HF.out⟩
set_option maxHeartbeats 4000000 in
theorem refusedSeg (g : GI) (w : World) (k : Nat) (hk : ((k : Int) != 0) = true) : Calls Tryz.prog 42 #[g.val, .int .i64 (k : Int), .func (.func 44) #[] #[]] w fun x w' => PutE k w x w' := by
  have ha : Below w.heap.size w (w.alloc (.cells #[.int .i64 g.id, .int .i64 g.task, .int .i64 g.base, .int .u32 (g.sum : Int), .int .i64 g.st.num, .slice g.st.p g.st.n g.st.c, .int .i64 g.dnum, .slice g.set.p g.set.n g.set.c, .slice g.gone.p g.gone.n g.gone.c, .slice g.logs.p g.logs.n g.logs.c, .slice g.pend.p g.pend.n g.pend.c] 38)) := (Below.refl _ _).alloc (Nat.le_refl _) _
  have HA := hid ha
  unfold GI.val
  clear ha
  go_enter Tryz.func42, Tryz.ntmps42
  go_wp2
  refine bodyPost_ret (v := .tuple #[.slice none 0 0, .int .i64 (k : Int)]) (by simp [results, Tryz.results42, go_sem]) rfl ?_
  exact ⟨rfl, HA.out⟩
set_option maxHeartbeats 4000000 in
theorem putSeg_bad (g : GI) (w : World) (S : Nat → Prop) (hin : GI.In w S g) (hS : ∀ b, S b → b < w.heap.size) (hk : ((chkSeg g : Int) != 0) = true) : Calls Tryz.prog 20 #[g.val] w fun x w' => PutE (chkSeg g) w x w' := by
  have ha : Below w.heap.size w (w.alloc (.cells #[.int .i64 g.id, .int .i64 g.task, .int .i64 g.base, .int .u32 (g.sum : Int), .int .i64 g.st.num, .slice g.st.p g.st.n g.st.c, .int .i64 g.dnum, .slice g.set.p g.set.n g.set.c, .slice g.gone.p g.gone.n g.gone.c, .slice g.logs.p g.logs.n g.logs.c, .slice g.pend.p g.pend.n g.pend.c] 38)) := (Below.refl _ _).alloc (Nat.le_refl _) _
  have HK : Hid (∀ W, Below (w.alloc (.cells #[.int .i64 g.id, .int .i64 g.task, .int .i64 g.base, .int .u32 (g.sum : Int), .int .i64 g.st.num, .slice g.st.p g.st.n g.st.c, .int .i64 g.dnum, .slice g.set.p g.set.n g.set.c, .slice g.gone.p g.gone.n g.gone.c, .slice g.logs.p g.logs.n g.logs.c, .slice g.pend.p g.pend.n g.pend.c] 38)).heap.size (w.alloc (.cells #[.int .i64 g.id, .int .i64 g.task, .int .i64 g.base, .int .u32 (g.sum : Int), .int .i64 g.st.num, .slice g.st.p g.st.n g.st.c, .int .i64 g.dnum, .slice g.set.p g.set.n g.set.c, .slice g.gone.p g.gone.n g.gone.c, .slice g.logs.p g.logs.n g.logs.c, .slice g.pend.p g.pend.n g.pend.c] 38)) W → Calls Tryz.prog 43 #[g.val] W fun x w' => errPost (chkSeg g) W x w') := fun W hW => ckSeg_gen g W S ((hin.below ha).below hW) (fun b hb => by have := hS b hb; have := ha.size; have := hW.size; omega)
  generalize chkSeg g = k at *
  have HC : Hid (∀ W, Calls Tryz.prog 42 #[g.val, .int .i64 (k : Int), .func (.func 44) #[] #[]] W fun x w' => PutE k W x w') := fun W => refusedSeg g W k hk
  have HA := hid ha
  have hbx := Box.new w #[.int .i64 g.id, .int .i64 g.task, .int .i64 g.base, .int .u32 (g.sum : Int), .int .i64 g.st.num, .slice g.st.p g.st.n g.st.c, .int .i64 g.dnum, .slice g.set.p g.set.n g.set.c, .slice g.gone.p g.gone.n g.gone.c, .slice g.logs.p g.logs.n g.logs.c, .slice g.pend.p g.pend.n g.pend.c] 38
  have c0 := hbx.cell 0
  have c1 := hbx.cell 1
  have c2 := hbx.cell 2
  have c3 := hbx.cell 3
  have c4 := hbx.cell 4
  have c5 := hbx.cell 5
  have c6 := hbx.cell 6
  have c7 := hbx.cell 7
  have c8 := hbx.cell 8
  have c9 := hbx.cell 9
  have c10 := hbx.cell 10
  simp only [List.getElem?_toArray, List.getElem?_cons_zero, List.getElem?_cons_succ] at c0 c1 c2 c3 c4 c5 c6 c7 c8 c9 c10
  have HBx := hid hbx
  unfold GI.val at HK HC ⊢
  clear ha hS hbx
  go_enter Tryz.func20, Tryz.ntmps20
  go_wp2_with fail
  go_region_law (first
    | (refine step_call rfl 43 #[.tmp 5] _ rfl Tryz.f43 Tryz.func43 (by kernel_rfl) rfl #[.agg #[.int .i64 g.id, .int .i64 g.task, .int .i64 g.base, .int .u32 (g.sum : Int), .int .i64 g.st.num, .slice g.st.p g.st.n g.st.c, .int .i64 g.dnum, .slice g.set.p g.set.n g.set.c, .slice g.gone.p g.gone.n g.gone.c, .slice g.logs.p g.logs.n g.logs.c, .slice g.pend.p g.pend.n g.pend.c]] rfl _ (HK.out _ ?_) ?_
       · exact (Below.refl _ _).drew
       rintro e1 w2 ⟨rfl, hb2⟩
       refine ⟨_, rfl, ?_⟩
       have hb3 : Below (w.alloc (.cells #[.int .i64 g.id, .int .i64 g.task, .int .i64 g.base, .int .u32 (g.sum : Int), .int .i64 g.st.num, .slice g.st.p g.st.n g.st.c, .int .i64 g.dnum, .slice g.set.p g.set.n g.set.c, .slice g.gone.p g.gone.n g.gone.c, .slice g.logs.p g.logs.n g.logs.c, .slice g.pend.p g.pend.n g.pend.c] 38)).heap.size (w.alloc (.cells #[.int .i64 g.id, .int .i64 g.task, .int .i64 g.base, .int .u32 (g.sum : Int), .int .i64 g.st.num, .slice g.st.p g.st.n g.st.c, .int .i64 g.dnum, .slice g.set.p g.set.n g.set.c, .slice g.gone.p g.gone.n g.gone.c, .slice g.logs.p g.logs.n g.logs.c, .slice g.pend.p g.pend.n g.pend.c] 38)) w2 := (Below.refl _ _).drew.trans hb2
       have hx2 := HBx.out.below hb3
       have y0 := hx2.cell 0
       have y1 := hx2.cell 1
       have y2 := hx2.cell 2
       have y3 := hx2.cell 3
       have y4 := hx2.cell 4
       have y5 := hx2.cell 5
       have y6 := hx2.cell 6
       have y7 := hx2.cell 7
       have y8 := hx2.cell 8
       have y9 := hx2.cell 9
       have y10 := hx2.cell 10
       simp only [List.getElem?_toArray, List.getElem?_cons_zero, List.getElem?_cons_succ] at y0 y1 y2 y3 y4 y5 y6 y7 y8 y9 y10)
    | (refine step_call rfl 42 #[.tmp 4, .tmp 6, .func 44] _ rfl Tryz.f42 Tryz.func42 (by kernel_rfl) rfl #[.agg #[.int .i64 g.id, .int .i64 g.task, .int .i64 g.base, .int .u32 (g.sum : Int), .int .i64 g.st.num, .slice g.st.p g.st.n g.st.c, .int .i64 g.dnum, .slice g.set.p g.set.n g.set.c, .slice g.gone.p g.gone.n g.gone.c, .slice g.logs.p g.logs.n g.logs.c, .slice g.pend.p g.pend.n g.pend.c], .int .i64 (k : Int), .func (.func 44) #[] #[]] rfl _ (HC.out _) ?_
       rintro e3 w3 ⟨rfl, hb4⟩
       refine ⟨_, rfl, ?_⟩
       have HF := hid ((HA.out.trans (hb3.mono HA.out.size)).trans (hb4.mono (Nat.le_trans HA.out.size hb3.size)))))
  all_goals
    clear hb2 hb3 hx2 hb4
    go_wp2
    refine bodyPost_ret (v := .tuple #[.slice none 0 0, .int .i64 (k : Int)]) (by simp [results, Tryz.results20, go_sem]) rfl ?_
    exact ⟨rfl, HF.out⟩
end Go.Proofs.YtfonicphdejdlaaGreat

namespace Go.Proofs.YtfonicphdejdlaaGreat
open Go.RowKit
set_option maxRecDepth 8000

/-- what a Put call comes to -/
def PutR (k : Nat) (B : List Int) (w : World) (x : Ending) (w' : World) : Prop := (k = 0 → PutP B w x w') ∧ (k ≠ 0 → PutE k w x w')
theorem ne_bool {k : Nat} (h : k ≠ 0) : ((k : Int) != 0) = true := by simpa using h
theorem putRec_gen (r : RT) (w : World) (S : Nat → Prop) (hin : RT.In w S r) (hS : ∀ b, S b → b < w.heap.size) : Calls Tryz.prog 23 #[r.val] w fun x w' => PutR (chkRec r) (recB r) w x w' := by
  by_cases h : chkRec r = 0
  · exact (putRec_any r w S hin h hS).mono fun _ _ hp => ⟨fun _ => hp, fun h2 => absurd h h2⟩
  · exact (putRec_bad r w S hin hS (ne_bool h)).mono fun _ _ hp => ⟨fun h2 => absurd h2 h, fun _ => hp⟩
theorem putSt_gen (s : ST) (w : World) (S : Nat → Prop) (hin : ST.In2 w S s) (hS : ∀ b, S b → b < w.heap.size) : Calls Tryz.prog 18 #[s.val] w fun x w' => PutR (chkState s) (stateB s) w x w' := by
  by_cases h : chkState s = 0
  · exact (putSt_any s w S hin h hS).mono fun _ _ hp => ⟨fun _ => hp, fun h2 => absurd h h2⟩
  · exact (putSt_bad s w S hin hS (ne_bool h)).mono fun _ _ hp => ⟨fun h2 => absurd h2 h, fun _ => hp⟩
def OI.to (o : OI) : OT := ⟨o.num.toNat, o.rec_⟩
theorem chkOut_zero {o : OI} (h : chkOut o = 0) : (0 ≤ o.num ∧ o.num ≤ 1073741824) ∧ chkRec o.rec_ = 0 := by
  unfold chkOut at h
  split at h
  · rename_i h1; exact ⟨h1, h⟩
  · cases h
theorem OI.to_val {o : OI} (h : 0 ≤ o.num) : o.to.val = o.val := by
  unfold OI.to OT.val OI.val
  simp only [Int.toNat_of_nonneg h]
theorem putRow_gen (o : OI) (w : World) (S : Nat → Prop) (hin : RT.In w S o.rec_) (hS : ∀ b, S b → b < w.heap.size) : Calls Tryz.prog 22 #[o.val] w fun x w' => PutR (chkOut o) (outB o.to) w x w' := by
  by_cases h : chkOut o = 0
  · obtain ⟨⟨h1, h2⟩, h3⟩ := chkOut_zero h
    rw [← OI.to_val h1]
    exact (putRow_any o.to w S hin (by show o.num.toNat ≤ _; omega) h3 hS).mono fun _ _ hp => ⟨fun _ => hp, fun h2 => absurd h h2⟩
  · exact (putRow_bad o w S hin hS (ne_bool h)).mono fun _ _ hp => ⟨fun h2 => absurd h2 h, fun _ => hp⟩
def MI.to (m : MI) : MT := ⟨m.id.toNat, m.sum, ⟨m.rows.p, m.rows.n, m.rows.c, fun j => ((m.rows.item j).1.toNat, (m.rows.item j).2)⟩⟩
theorem chkMan_zero {m : MI} (h : chkMan m = 0) : (0 ≤ m.id ∧ m.id ≤ 9999) ∧ m.rows.n ≤ 12 ∧ ∀ j, j < m.rows.n → 0 ≤ (m.rows.item j).1 ∧ (m.rows.item j).1 ≤ 65536 := by
  unfold chkMan at h
  split at h
  · rename_i h1
    split at h
    · cases h
    · rename_i h2
      refine ⟨h1, by omega, fun j hj => ?_⟩
      have h3 := firstC_all _ h j hj
      unfold chkSize at h3
      split at h3
      · rename_i h4; exact h4
      · cases h3
  · cases h
theorem MI.to_val {m : MI} (h : 0 ≤ m.id) : m.to.val = m.val := by
  unfold MI.to MT.val MI.val
  simp only [Int.toNat_of_nonneg h]
theorem MI.to_in {m : MI} {w : World} {S : Nat → Prop} (h : LT.In elRowI w S m.rows) (hs : ∀ j, j < m.rows.n → 0 ≤ (m.rows.item j).1 ∧ (m.rows.item j).1 ≤ 65536) : LT.In elRow w S m.to.rows := by
  refine ⟨fun hn => ?_, fun j hj => ?_, h.nc, h.nn, h.cc, h.nil⟩
  · obtain ⟨b, o, e, hS, hl, ha⟩ := h.at_ hn
    refine ⟨b, o, e, hS, hl, fun j hj r u hu => ?_⟩
    refine ha j hj r u ?_
    have e1 : elRow.cells (m.to.rows.item j) = elRowI.cells (m.rows.item j) := by
      show [Value.int .i64 (((m.rows.item j).1.toNat : Nat) : Int), Value.int .u32 (((m.rows.item j).2 : Nat) : Int)] = [Value.int .i64 (m.rows.item j).1, Value.int .u32 (((m.rows.item j).2 : Nat) : Int)]
      rw [Int.toNat_of_nonneg (hs j hj).1]
    rw [← e1]
    exact hu
  · have h1 := h.each j hj
    have h2 := hs j hj
    refine ⟨?_, h1.2⟩
    show (m.rows.item j).1.toNat ≤ _
    omega
theorem MI.to_vm {m : MI} {w : World} {S : Nat → Prop} (h : LT.In elRowI w S m.rows) (hsum : m.sum < 4294967296) (hc : chkMan m = 0) : VM m.to := by
  obtain ⟨h1, h2, h3⟩ := chkMan_zero hc
  refine ⟨by show m.id.toNat ≤ _; omega, hsum, h2, fun j hj => ⟨?_, (h.each j hj).2⟩⟩
  have := h3 j hj
  show (m.rows.item j).1.toNat ≤ _
  omega
theorem putMan_gen (m : MI) (w : World) (S : Nat → Prop) (hin : LT.In elRowI w S m.rows) (hsum : m.sum < 4294967296) (hS : ∀ b, S b → b < w.heap.size) : Calls Tryz.prog 21 #[m.val] w fun x w' => PutR (chkMan m) (manB m.to) w x w' := by
  by_cases h : chkMan m = 0
  · obtain ⟨h1, h2, h3⟩ := chkMan_zero h
    rw [← MI.to_val h1.1]
    exact (putMan_any m.to w S (MI.to_in hin h3) (MI.to_vm hin hsum h) hS).mono fun _ _ hp => ⟨fun _ => hp, fun h2 => absurd h h2⟩
  · exact (putMan_bad m w S hin hS (ne_bool h)).mono fun _ _ hp => ⟨fun h2 => absurd h2 h, fun _ => hp⟩
def GI.to (g : GI) : GT := ⟨g.id.toNat, g.task.toNat, g.base.toNat, g.sum, g.st, ⟨g.dnum.toNat, g.set, g.gone⟩, g.logs, g.pend⟩
theorem chkGone_zero {l : LT ByteArray} (h : chkGone l = 0) : l.n ≤ 64 ∧ Rises l := by
  unfold chkGone at h
  split at h
  · cases h
  rename_i h1
  refine ⟨by omega, fun j hj => ?_⟩
  have h3 := firstC_all _ h j hj
  unfold chkGo at h3
  split at h3
  · cases h3
  rename_i h4
  split at h3
  · cases h3
  rename_i h5
  refine ⟨by omega, fun h0 => ?_⟩
  cases hb : Op.bytesLess (l.item (j - 1)).toList (l.item j).toList
  · exact absurd ⟨h0, hb⟩ h5
  · rfl
theorem chkRecs_zero {l : LT RT} (h : chkRecs l = 0) : l.n ≤ 256 ∧ ∀ j, j < l.n → chkRec (l.item j) = 0 := by
  unfold chkRecs at h
  split at h
  · cases h
  rename_i h1
  exact ⟨by omega, firstC_all _ h⟩
theorem chkState_num {s : ST} (h : chkState s = 0) : 0 ≤ s.num := (vs_of h).num0
theorem GI.to_fg {g : GI} {w : World} {S : Nat → Prop} (hin : GI.In w S g) (h : chkSeg g = 0) : FG g.to ∧ bnd g ∧ 0 ≤ g.dnum ∧ g.dnum ≤ 1073741824 := by
  unfold chkSeg at h
  split at h
  case isFalse => cases h
  rename_i hb
  split at h
  · cases h
  rename_i ho
  split at h
  case isFalse h1 => exact absurd h h1
  rename_i hk
  split at h
  case isFalse h1 => exact absurd h h1
  rename_i hl
  obtain ⟨p1, p2⟩ := chkRecs_zero h
  have hlg : g.logs.n ≤ 4 ∧ ∀ j, j < g.logs.n → chkRecs (g.logs.item j) = 0 := by
    unfold chkLogs at hl
    split at hl
    · cases hl
    rename_i h1
    exact ⟨by omega, firstC_all _ hl⟩
  obtain ⟨b1, b2, b3⟩ := hb
  have hof : other g = false := by simpa using ho
  by_cases h0 : g.base = 0
  · unfold other at hof
    rw [if_pos h0] at hof
    simp only [Bool.or_eq_false_iff, bne_eq_false_iff_eq, decide_eq_false_iff_not] at hof
    obtain ⟨o1, o2, o3, o4⟩ := hof
    unfold chkKept at hk
    rw [if_pos h0] at hk
    refine ⟨⟨by show g.id.toNat ≤ _; omega, by show g.task.toNat ≤ _; omega, by show g.base.toNat ≤ _; omega, hin.sum, fun _ => ⟨by show g.sum = 0; omega, by show g.dnum.toNat = 0; omega, by show g.set.n = 0; omega, by show g.gone.n = 0; omega, hk⟩, fun hne => absurd (show g.base.toNat = 0 by omega) hne, hlg.1, fun j hj => (chkRecs_zero (hlg.2 j hj)).1, fun j hj => (chkRecs_zero (hlg.2 j hj)).2, p1, p2⟩, ⟨b1, b2, b3⟩, by omega, by omega⟩
  · unfold other at hof
    rw [if_neg h0] at hof
    simp only [Bool.or_eq_false_iff, bne_eq_false_iff_eq, decide_eq_false_iff_not] at hof
    obtain ⟨o1, o2⟩ := hof
    unfold chkKept at hk
    rw [if_neg h0] at hk
    split at hk
    case isFalse h1 => exact absurd hk h1
    rename_i hd
    obtain ⟨q1, q2⟩ := chkGone_zero hk
    have hv := vs_of hd
    have n0 : 0 ≤ g.dnum := hv.num0
    have n1 : g.dnum ≤ 1073741824 := hv.num1
    refine ⟨⟨by show g.id.toNat ≤ _; omega, by show g.task.toNat ≤ _; omega, by show g.base.toNat ≤ _; omega, hin.sum, fun he => absurd (show g.base = 0 by have : g.base.toNat = 0 := he; omega) h0, fun _ => ⟨o1, by show g.st.n = 0; omega, ?_, q1, q2⟩, hlg.1, fun j hj => (chkRecs_zero (hlg.2 j hj)).1, fun j hj => (chkRecs_zero (hlg.2 j hj)).2, p1, p2⟩, ⟨b1, b2, b3⟩, n0, n1⟩
    show chkState ⟨((g.dnum.toNat : Nat) : Int), g.set.p, g.set.n, g.set.c, g.set.item⟩ = 0
    rw [Int.toNat_of_nonneg n0]
    exact hd
theorem GI.to_val {g : GI} (hb : bnd g) (h0 : 0 ≤ g.dnum) : g.to.val = g.val := by
  unfold GI.to GT.val GI.val
  simp only [Int.toNat_of_nonneg hb.1.1, Int.toNat_of_nonneg hb.2.1.1, Int.toNat_of_nonneg hb.2.2.1, Int.toNat_of_nonneg h0]
theorem GI.to_in {g : GI} {w : World} {S : Nat → Prop} (h : GI.In w S g) (hb : bnd g) (h1 : g.dnum ≤ 1073741824) : GT.In w S g.to := by
  obtain ⟨b1, b2, b3⟩ := hb
  exact ⟨by show g.id.toNat ≤ _; omega, by show g.task.toNat ≤ _; omega, by show g.base.toNat ≤ _; omega, h.sum, h.st, ⟨by show g.dnum.toNat ≤ _; omega, h.set, h.gone⟩, h.logs, h.pend⟩
theorem putSeg_gen (g : GI) (w : World) (S : Nat → Prop) (hin : GI.In w S g) (hS : ∀ b, S b → b < w.heap.size) : Calls Tryz.prog 20 #[g.val] w fun x w' => PutR (chkSeg g) (segB g.to) w x w' := by
  by_cases h : chkSeg g = 0
  · obtain ⟨h1, h2, h3, h4⟩ := GI.to_fg hin h
    rw [← GI.to_val h2 h3]
    exact (putSeg_any g.to w S (GI.to_in hin h2 h4) h1 hS).mono fun _ _ hp => ⟨fun _ => hp, fun h2 => absurd h h2⟩
  · exact (putSeg_bad g w S hin hS (ne_bool h)).mono fun _ _ hp => ⟨fun h2 => absurd h2 h, fun _ => hp⟩
end Go.Proofs.YtfonicphdejdlaaGreat

namespace Go.Proofs.YtfonicphdejdlaaGreat
open Go.RowKit
set_option maxRecDepth 8000

/-- a thing -/
structure HI where
  kind : Int
  r : RT
  s : ST
  g : GI
  m : MI
  o : OI
def HI.cells (t : HI) : Array Value := #[.int .i64 t.kind, .string t.r.key, .int .i64 t.r.v.kind, .int .i64 t.r.v.int, .string t.r.v.text, .slice t.r.v.p t.r.v.n t.r.v.c, .slice t.r.p t.r.n t.r.c, .int .i64 t.s.num, .slice t.s.p t.s.n t.s.c, .int .i64 t.g.id, .int .i64 t.g.task, .int .i64 t.g.base, .int .u32 (t.g.sum : Int), .int .i64 t.g.st.num, .slice t.g.st.p t.g.st.n t.g.st.c, .int .i64 t.g.dnum, .slice t.g.set.p t.g.set.n t.g.set.c, .slice t.g.gone.p t.g.gone.n t.g.gone.c, .slice t.g.logs.p t.g.logs.n t.g.logs.c, .slice t.g.pend.p t.g.pend.n t.g.pend.c, .int .i64 t.m.id, .int .u32 (t.m.sum : Int), .slice t.m.rows.p t.m.rows.n t.m.rows.c, .int .i64 t.o.num, .string t.o.rec_.key, .int .i64 t.o.rec_.v.kind, .int .i64 t.o.rec_.v.int, .string t.o.rec_.v.text, .slice t.o.rec_.v.p t.o.rec_.v.n t.o.rec_.v.c, .slice t.o.rec_.p t.o.rec_.n t.o.rec_.c]
structure HI.In (w : World) (S : Nat → Prop) (t : HI) : Prop where
  k0 : -9223372036854775808 ≤ t.kind
  k1 : t.kind ≤ 9223372036854775807
  r : RT.In w S t.r
  s : ST.In2 w S t.s
  g : GI.In w S t.g
  m : LT.In elRowI w S t.m.rows
  msum : t.m.sum < 4294967296
  m0 : -9223372036854775808 ≤ t.m.id
  m1 : t.m.id ≤ 9223372036854775807
  o : RT.In w S t.o.rec_
  o0 : -9223372036854775808 ≤ t.o.num
  o1 : t.o.num ≤ 9223372036854775807
theorem HI.In.below {w w' : World} {S : Nat → Prop} {t : HI} (h : HI.In w S t) (hb : Below w.heap.size w w') : HI.In w' S t :=
  ⟨h.k0, h.k1, h.r.below hb, h.s.below hb, h.g.below hb, h.m.below hb, h.msum, h.m0, h.m1, h.o.below hb, h.o0, h.o1⟩
theorem HI.size (t : HI) : t.cells.size = 30 := rfl
theorem HI.one (t : HI) : t.cells.all (·.oneCell') = true := by simp [HI.cells, Value.oneCell']
set_option maxHeartbeats 1000000 in
theorem cDelta (d : Int) (l : LT VT) (g : LT ByteArray) (w : World) (S : Nat → Prop) (b : Nat) (hin : LT.In elCell w S l) (hg : LT.In elStr w S g) (hS : ¬ S b) (h : Cn w b) : Calls Tryz.prog 37 #[.pointer (some ⟨b, 0, none⟩), .agg #[.int .i64 d, .slice l.p l.n l.c, .slice g.p g.n g.c]] w fun e w' => CPost b w e w' := by
  have hnn := hg.nn
  have hbl := h.lt
  have HB := hid h
  have HI := hid hin
  clear hin hg h
  have hal : Below w.heap.size w (w.alloc (.cells #[.int .i64 d, .slice l.p l.n l.c, .slice g.p g.n g.c] 34)) := (Below.refl _ _).alloc (Nat.le_refl _) _
  have HL := hid hal
  clear hal
  go_enter Tryz.func37, Tryz.ntmps37
  go_wp2_with fail
  have hbx := Box.new w #[.int .i64 d, .slice l.p l.n l.c, .slice g.p g.n g.c] 34
  refine (cAdd _ b (g.n : Int) (HB.out.below HL.out) (by omega) (by omega)).mono ?_
  rintro e w1 ⟨x, rfl, hb1, hk1⟩
  have hbx1 := hbx.but hk1 (show w.heap.size ≠ b by omega)
  have x1 := hbx1.cell 1
  simp at x1
  have HX := hid (And.intro hb1 ((But.ofBelow HL.out).trans hk1))
  clear hb1 hk1 hbx hbx1
  go_wp2_with fail
  refine (cCells l w1 S b (HI.out.but HX.out.2 (fun x hx _ e => hS (e ▸ hx))) hS HX.out.1).mono ?_
  rintro e w2 ⟨rfl, hc2, hk2⟩
  go_wp2_with fail
  go_end0
  exact ⟨rfl, hc2, HX.out.2.trans hk2⟩
set_option maxHeartbeats 1000000 in
theorem cPart (s : ST) (l : LT (LT RT)) (p : LT RT) (w : World) (S : Nat → Prop) (b : Nat) (hs : ST.In2 w S s) (hl : LT.In elRecs w S l) (hp : LT.In elRec w S p) (hS : ¬ S b) (h : Cn w b) : Calls Tryz.prog 36 #[.pointer (some ⟨b, 0, none⟩), .agg #[.int .i64 s.num, .slice s.p s.n s.c, .slice l.p l.n l.c, .slice p.p p.n p.c]] w fun e w' => CPost b w e w' := by
  have hbl := h.lt
  have HB := hid h
  have HS := hid (ST.toLT hs.i hs.nil)
  have HLs := hid hl
  have HP := hid hp
  clear hs hl hp h
  have hal : Below w.heap.size w (w.alloc (.cells #[.int .i64 s.num, .slice s.p s.n s.c, .slice l.p l.n l.c, .slice p.p p.n p.c] 88)) := (Below.refl _ _).alloc (Nat.le_refl _) _
  have HL := hid hal
  clear hal
  go_enter Tryz.func36, Tryz.ntmps36
  go_wp2_with fail
  have hbx := Box.new w #[.int .i64 s.num, .slice s.p s.n s.c, .slice l.p l.n l.c, .slice p.p p.n p.c] 88
  refine (cCells _ _ S b (HS.out.below HL.out) hS (HB.out.below HL.out)).mono ?_
  rintro e w1 ⟨rfl, hb1, hk1⟩
  have hbx1 := hbx.but hk1 (show w.heap.size ≠ b by omega)
  have x2 := hbx1.cell 2
  simp at x2
  have HX := hid (And.intro hb1 (And.intro ((But.ofBelow HL.out).trans hk1) hbx1))
  clear hb1 hk1 hbx hbx1
  go_wp2_with fail
  refine (cLists l w1 S b (HLs.out.but HX.out.2.1 (fun x hx _ e => hS (e ▸ hx))) hS HX.out.1).mono ?_
  rintro e w2 ⟨rfl, hb2, hk2⟩
  have hbx2 := HX.out.2.2.but hk2 (show w.heap.size ≠ b by omega)
  have y3 := hbx2.cell 3
  simp at y3
  have HX2 := hid (And.intro hb2 (HX.out.2.1.trans hk2))
  clear hb2 hk2 hbx2 x2
  go_wp2_with fail
  refine (cRecords p w2 S b (HP.out.but HX2.out.2 (fun x hx _ e => hS (e ▸ hx))) hS HX2.out.1).mono ?_
  rintro e w3 ⟨rfl, hc3, hk3⟩
  go_wp2_with fail
  go_end0
  exact ⟨rfl, hc3, HX2.out.2.trans hk3⟩
end Go.Proofs.YtfonicphdejdlaaGreat
