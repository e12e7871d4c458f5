import Derived.Test.YtikfpoabaaiegaaPack10
namespace Go.Proofs.Ytikfpoabaaiegaa
open Go.RowKit
set_option maxRecDepth 8000
theorem set11_box {w : World} {b : Nat} {a0 a1 a2 a3 a4 a5 a6 a7 a8 a9 a10 : Value} {e : TypeId} (h : Box w b #[a0, a1, a2, a3, a4, a5, a6, a7, a8, a9, a10] e) (x0 x1 x2 x3 x4 x5 x6 x7 x8 x9 x10 : Value) : Box (((((((((((w.setCell ⟨b, 0, none⟩ x0).setCell ⟨b, 1, none⟩ x1).setCell ⟨b, 2, none⟩ x2).setCell ⟨b, 3, none⟩ x3).setCell ⟨b, 4, none⟩ x4).setCell ⟨b, 5, none⟩ x5).setCell ⟨b, 6, none⟩ x6).setCell ⟨b, 7, none⟩ x7).setCell ⟨b, 8, none⟩ x8).setCell ⟨b, 9, none⟩ x9).setCell ⟨b, 10, none⟩ x10) b #[x0, x1, x2, x3, x4, x5, x6, x7, x8, x9, x10] e := by
  have h0 : Box _ b #[x0, a1, a2, a3, a4, a5, a6, a7, a8, a9, a10] e := h.set 0 x0
  have h1 : Box _ b #[x0, x1, a2, a3, a4, a5, a6, a7, a8, a9, a10] e := h0.set 1 x1
  have h2 : Box _ b #[x0, x1, x2, a3, a4, a5, a6, a7, a8, a9, a10] e := h1.set 2 x2
  have h3 : Box _ b #[x0, x1, x2, x3, a4, a5, a6, a7, a8, a9, a10] e := h2.set 3 x3
  have h4 : Box _ b #[x0, x1, x2, x3, x4, a5, a6, a7, a8, a9, a10] e := h3.set 4 x4
  have h5 : Box _ b #[x0, x1, x2, x3, x4, x5, a6, a7, a8, a9, a10] e := h4.set 5 x5
  have h6 : Box _ b #[x0, x1, x2, x3, x4, x5, x6, a7, a8, a9, a10] e := h5.set 6 x6
  have h7 : Box _ b #[x0, x1, x2, x3, x4, x5, x6, x7, a8, a9, a10] e := h6.set 7 x7
  have h8 : Box _ b #[x0, x1, x2, x3, x4, x5, x6, x7, x8, a9, a10] e := h7.set 8 x8
  have h9 : Box _ b #[x0, x1, x2, x3, x4, x5, x6, x7, x8, x9, a10] e := h8.set 9 x9
  have h10 : Box _ b #[x0, x1, x2, x3, x4, x5, x6, x7, x8, x9, x10] e := h9.set 10 x10
  exact h10
theorem But.sets11 (w : World) (b : Nat) (x0 x1 x2 x3 x4 x5 x6 x7 x8 x9 x10 : Value) : But (fun y => y = b) w (((((((((((w.setCell ⟨b, 0, none⟩ x0).setCell ⟨b, 1, none⟩ x1).setCell ⟨b, 2, none⟩ x2).setCell ⟨b, 3, none⟩ x3).setCell ⟨b, 4, none⟩ x4).setCell ⟨b, 5, none⟩ x5).setCell ⟨b, 6, none⟩ x6).setCell ⟨b, 7, none⟩ x7).setCell ⟨b, 8, none⟩ x8).setCell ⟨b, 9, none⟩ x9).setCell ⟨b, 10, none⟩ x10) := (((((((((((But.one w b).setAt 0 x0).setAt 1 x1).setAt 2 x2).setAt 3 x3).setAt 4 x4).setAt 5 x5).setAt 6 x6).setAt 7 x7).setAt 8 x8).setAt 9 x9).setAt 10 x10
def zeroR : RT := ⟨⟨#[]⟩, .nil, none, 0, 0, fun _ => 0⟩
def mkLT {α : Type} (d : α) (l : List α) : LT α := ⟨none, l.length, 0, fun j => l.getD j d⟩
def recsL : RS (LT RT) := bindS recsS fun l => retS (mkLT zeroR l)
def RecsAlike (y u : LT RT) : Prop := u.n = y.n ∧ ∀ j, j < y.n → RT.Alike (y.item j) (u.item j)
theorem recs_alike {t : LT RT} {l : List RT} (h : Isl RT.Alike t l) : RecsAlike (mkLT zeroR l) t := by
  refine ⟨h.1, fun j hj => ?_⟩
  have hj' : j < l.length := hj
  have := h.2 j l[j] (by rw [List.getElem?_eq_getElem hj'])
  show RT.Alike (l.getD j zeroR) (t.item j)
  simpa [List.getD_eq_getElem?_getD, List.getElem?_eq_getElem hj'] using this
theorem recs_item (S : Nat → Prop) (rb : Nat) (W : World) (R : List Int) (hS : ∀ b, S b → b < W.heap.size) (h : Rdr W S rb R 0) : Calls Try.prog 124 #[.pointer (some ⟨rb, 0, none⟩)] W fun x W' => ItemP elRecs (fun u => .slice u.p u.n u.c) RecsAlike (fun _ : Unit => recsL) (fun _ _ => ()) (fun _ _ => True) (fun y => y = rb) S rb () R W x W' := by
  refine (wrRecords_any W S rb R 0 hS h).mono ?_
  rintro x w1 ⟨l, R1, e1, rfl, hin, ⟨hr, hd, hk⟩⟩
  exact ⟨l, R1, e1, rfl, hin, hr.map fun _ y hy => ⟨recs_alike hy, trivial⟩, hd, hk⟩
def logsL : RS (List (LT RT)) := listS 4 (fun _ : Unit => recsL) (fun _ _ => ()) ()
theorem logs_list (w : World) (S : Nat → Prop) (rb : Nat) (L : List Int) (e : Int) (hS : ∀ b, S b → b < w.heap.size) (h : Rdr w S rb L e) : Calls Try.prog 123 #[.pointer (some ⟨rb, 0, none⟩), .int .i64 4, .func (.func 124) #[] #[]] w fun x w' => ListP elRecs RecsAlike logsL (fun y => y = rb) w S rb L e x w' :=
  rlRecs RecsAlike (fun _ : Unit => recsL) (fun _ _ => ()) (fun _ _ => True) (fun y => y = rb) () w S rb L e 4 (by omega) rfl (fun k hk => by subst hk; exact h.lt) hS trivial (fun _ _ _ _ _ _ _ => trivial) (fun W _ R hk hr _ => recs_item S rb W R (fun b hb => Nat.lt_of_lt_of_le (hS b hb) hk.size) hr) h
structure GP where
  id : Nat
  task : Nat
  base : Nat
  sum : Nat
  st : ST
  dl : Nat × List VT × List ByteArray
  logs : List (LT RT)
  pend : List RT
def segS : RS GP := bindS (firstS 83) fun _ => bindS (numS 9999) fun i => bindS (numS 11) fun t => bindS (numS 9999) fun b =>
  if b = 0 then bindS stateS fun s => bindS logsL fun l => bindS recsS fun p => retS ⟨i, t, 0, 0, s, (0, [], []), l, p⟩
  else bindS wordS fun u => bindS deltaS fun d => bindS logsL fun l => bindS recsS fun p => retS ⟨i, t, b, u, mkS 0 [], d, l, p⟩
structure GT where
  id : Nat
  task : Nat
  base : Nat
  sum : Nat
  st : ST
  d : DT
  logs : LT (LT RT)
  pend : LT RT
def GT.val (g : GT) : Value := .agg #[.int .i64 (g.id : Int), .int .i64 (g.task : Int), .int .i64 (g.base : Int), .int .u32 (g.sum : Int), .int .i64 g.st.num, .slice g.st.p g.st.n g.st.c, .int .i64 (g.d.num : Int), .slice g.d.set.p g.d.set.n g.d.set.c, .slice g.d.gone.p g.d.gone.n g.d.gone.c, .slice g.logs.p g.logs.n g.logs.c, .slice g.pend.p g.pend.n g.pend.c]
structure GT.In (w : World) (S : Nat → Prop) (g : GT) : Prop where
  id : g.id ≤ 9999
  task : g.task ≤ 11
  base : g.base ≤ 9999
  sum : g.sum < 4294967296
  st : ST.In2 w S g.st
  d : DT.In w S g.d
  logs : LT.In elRecs w S g.logs
  pend : LT.In elRec w S g.pend
structure GT.Is (g : GT) (y : GP) : Prop where
  id : g.id = y.id
  task : g.task = y.task
  base : g.base = y.base
  sum : g.sum = y.sum
  st : ST.Alike y.st g.st
  d : g.d.Is y.dl
  logs : Isl RecsAlike g.logs y.logs
  pend : Isl RT.Alike g.pend y.pend
def SegP (w : World) (S : Nat → Prop) (rb : Nat) (L : List Int) (e : Int) (x : Ending) (w' : World) : Prop :=
  ∃ (g : GT) (R : List Int) (e' : Int), x = .returned g.val ∧ GT.In w' (fun b => w.heap.size ≤ b) g ∧ RdS segS (fun y => g.Is y) w S rb L e R e' w'
def noL {α : Type} (d : α) : LT α := ⟨none, 0, 0, fun _ => d⟩
def noS : ST := ⟨0, none, 0, 0, fun _ => .nil⟩
def noD : DT := ⟨0, noL .nil, noL ⟨#[]⟩⟩
theorem in_noS (w : World) (S : Nat → Prop) : ST.In2 w S noS := ⟨⟨fun h => absurd h (by decide), fun j h => absurd h (Nat.not_lt_zero j), by decide, by decide, by decide, by decide, by decide⟩, fun _ => ⟨rfl, rfl⟩⟩
theorem in_noD (w : World) (S : Nat → Prop) : DT.In w S noD := ⟨by decide, LT.In.none_ _ _ _ _ _ _ (by decide) (fun _ => rfl), LT.In.none_ _ _ _ _ _ _ (by decide) (fun _ => rfl)⟩
theorem alike_noS : ST.Alike (mkS 0 []) noS := ⟨rfl, rfl, fun j h => absurd h (Nat.not_lt_zero j)⟩
theorem is_noD : noD.Is (0, [], []) := ⟨rfl, ⟨rfl, fun i u h => by simp at h⟩, ⟨rfl, fun i u h => by simp at h⟩⟩
set_option maxHeartbeats 8000000 in
theorem wrSeg_any (w : World) (S : Nat → Prop) (rb : Nat) (L : List Int) (e : Int) (hS : ∀ b, S b → b < w.heap.size) (h : Rdr w S rb L e) : Calls Try.prog 77 #[.pointer (some ⟨rb, 0, none⟩)] w fun x w' => SegP w S rb L e x w' := by
  have hrl := h.lt
  obtain ⟨W0, hW0⟩ : ∃ W0, W0 = (w.alloc (.cells #[.int .i64 0, .int .i64 0, .int .i64 0, .int .u32 0, .int .i64 0, .slice none 0 0, .int .i64 0, .slice none 0 0, .slice none 0 0, .slice none 0 0, .slice none 0 0] 38)).alloc (.cells #[.int .i64 0, .int .i64 0, .int .i64 0, .int .u32 0, .int .i64 0, .slice none 0 0, .int .i64 0, .slice none 0 0, .slice none 0 0, .slice none 0 0, .slice none 0 0] 38) := ⟨_, rfl⟩
  have hb0 : Below w.heap.size w W0 := by rw [hW0]; exact ((Below.refl _ _).alloc (Nat.le_refl _) _).alloc (by simp) _
  have hv0 : Box W0 w.heap.size #[.int .i64 0, .int .i64 0, .int .i64 0, .int .u32 0, .int .i64 0, .slice none 0 0, .int .i64 0, .slice none 0 0, .slice none 0 0, .slice none 0 0, .slice none 0 0] 38 := by rw [hW0]; exact (Box.new w _ _).below ((Below.refl _ _).alloc (Nat.le_refl _) _)
  have hu0 : Box W0 (w.heap.size + 1) #[.int .i64 0, .int .i64 0, .int .i64 0, .int .u32 0, .int .i64 0, .slice none 0 0, .int .i64 0, .slice none 0 0, .slice none 0 0, .slice none 0 0, .slice none 0 0] 38 := by
    have := Box.new (w.alloc (.cells #[.int .i64 0, .int .i64 0, .int .i64 0, .int .u32 0, .int .i64 0, .slice none 0 0, .int .i64 0, .slice none 0 0, .slice none 0 0, .slice none 0 0, .slice none 0 0] 38)) #[.int .i64 0, .int .i64 0, .int .i64 0, .int .u32 0, .int .i64 0, .slice none 0 0, .int .i64 0, .slice none 0 0, .slice none 0 0, .slice none 0 0, .slice none 0 0] 38
    rw [show (w.alloc (.cells #[.int .i64 0, .int .i64 0, .int .i64 0, .int .u32 0, .int .i64 0, .slice none 0 0, .int .i64 0, .slice none 0 0, .slice none 0 0, .slice none 0 0, .slice none 0 0] 38)).heap.size = w.heap.size + 1 by simp] at this
    rw [hW0]; exact this
  have HS := hid hS
  have HB0 : Hid (But (fun y => y = rb) w W0) := But.ofBelow hb0
  have HV0 := hid hv0
  have HU0 := hid hu0
  have HD0 : Hid (Rdr W0 S rb L e) := h.below hb0
  have hsz0 := hu0.lt
  have HC1 := hid (wrFirst_any W0 S rb L e 83 HD0.out)
  rw [hW0] at HC1
  clear h hb0 hv0 hu0 hS
  go_enter Try.func77, Try.ntmps77
  go_wp2_with fail
  refine HC1.out.mono ?_
  rw [← hW0]
  rintro x1 V1 ⟨R1, e1, rfl, ⟨hr1, hd1, hk1⟩⟩
  clear HC1
  have hkw1 := HB0.out.trans hk1
  have hv1 := HV0.out.but hk1 (by omega)
  have hu1 := HU0.out.but hk1 (by omega)
  have HR1 := hid hr1
  have HV1 := hid hv1
  have HU1 := hid hu1
  have HB1 := hid hkw1
  have HD1 := hid hd1
  have hsz1 := HU1.out.lt
  clear hr1 hd1 hk1 hkw1 hv1 hu1
  have HC2 := hid (wrNumber_any V1 S rb R1 e1 9999 (by omega) HD1.out)
  go_wp2_with fail
  refine HC2.out.mono ?_
  rintro x2 V2 ⟨r2, R2, e2, rfl, ⟨hr2, hd2, hk2⟩, hm2, _⟩
  clear HC2
  have hkw2 := HB1.out.trans hk2
  have hv2 := HV1.out.but hk2 (by omega)
  have hu2 := HU1.out.but hk2 (by omega)
  have HR2 := hid hr2
  have HM2 := hid hm2
  have c0 := hu2.cell 0
  have f0 := hu2.frozen 0
  simp at c0
  have hus2_0 : Box _ (w.heap.size + 1) #[.int .i64 (r2 : Int), .int .i64 0, .int .i64 0, .int .u32 0, .int .i64 0, .slice none 0 0, .int .i64 0, .slice none 0 0, .slice none 0 0, .slice none 0 0, .slice none 0 0] 38 := hu2.set 0 (.int .i64 (r2 : Int))
  have hst2 : But (fun y => y = w.heap.size + 1) V2 (V2.setCell ⟨w.heap.size + 1, 0, none⟩ (.int .i64 (r2 : Int))) := (But.one V2 (w.heap.size + 1)).setAt 0 (.int .i64 (r2 : Int))
  have HV2 := hid (hv2.but hst2 (by omega))
  have HU2 := hid hus2_0
  have HB2 := hid (hkw2.new hst2 (by omega))
  have HD2 := hid (hd2.new (w := w) hst2 (by omega) hrl HS.out)
  have hsz2 := HU2.out.lt
  clear hr2 hd2 hk2 hkw2 hv2 hu2 hst2 hus2_0 hm2
  have HC3 := hid (wrNumber_any (V2.setCell ⟨w.heap.size + 1, 0, none⟩ (.int .i64 (r2 : Int))) S rb R2 e2 11 (by omega) HD2.out)
  go_wp2_with fail
  refine HC3.out.mono ?_
  rintro x3 V3 ⟨r3, R3, e3, rfl, ⟨hr3, hd3, hk3⟩, hm3, _⟩
  clear HC3
  have hkw3 := HB2.out.trans hk3
  have hv3 := HV2.out.but hk3 (by omega)
  have hu3 := HU2.out.but hk3 (by omega)
  have HR3 := hid hr3
  have HM3 := hid hm3
  have c1 := hu3.cell 1
  have f1 := hu3.frozen 1
  simp at c1
  have hus3_0 : Box _ (w.heap.size + 1) #[.int .i64 (r2 : Int), .int .i64 (r3 : Int), .int .i64 0, .int .u32 0, .int .i64 0, .slice none 0 0, .int .i64 0, .slice none 0 0, .slice none 0 0, .slice none 0 0, .slice none 0 0] 38 := hu3.set 1 (.int .i64 (r3 : Int))
  have hst3 : But (fun y => y = w.heap.size + 1) V3 (V3.setCell ⟨w.heap.size + 1, 1, none⟩ (.int .i64 (r3 : Int))) := (But.one V3 (w.heap.size + 1)).setAt 1 (.int .i64 (r3 : Int))
  have HV3 := hid (hv3.but hst3 (by omega))
  have HU3 := hid hus3_0
  have HB3 := hid (hkw3.new hst3 (by omega))
  have HD3 := hid (hd3.new (w := w) hst3 (by omega) hrl HS.out)
  have hsz3 := HU3.out.lt
  clear hr3 hd3 hk3 hkw3 hv3 hu3 hst3 hus3_0 hm3
  have HC4 := hid (wrNumber_any (V3.setCell ⟨w.heap.size + 1, 1, none⟩ (.int .i64 (r3 : Int))) S rb R3 e3 9999 (by omega) HD3.out)
  go_wp2_with fail
  refine HC4.out.mono ?_
  rintro x4 V4 ⟨r4, R4, e4, rfl, ⟨hr4, hd4, hk4⟩, hm4, _⟩
  clear HC4
  have hkw4 := HB3.out.trans hk4
  have hv4 := HV3.out.but hk4 (by omega)
  have hu4 := HU3.out.but hk4 (by omega)
  have HR4 := hid hr4
  have HM4 := hid hm4
  have c2 := hu4.cell 2
  have f2 := hu4.frozen 2
  simp at c2
  have hus4_0 : Box _ (w.heap.size + 1) #[.int .i64 (r2 : Int), .int .i64 (r3 : Int), .int .i64 (r4 : Int), .int .u32 0, .int .i64 0, .slice none 0 0, .int .i64 0, .slice none 0 0, .slice none 0 0, .slice none 0 0, .slice none 0 0] 38 := hu4.set 2 (.int .i64 (r4 : Int))
  have hst4 : But (fun y => y = w.heap.size + 1) V4 (V4.setCell ⟨w.heap.size + 1, 2, none⟩ (.int .i64 (r4 : Int))) := (But.one V4 (w.heap.size + 1)).setAt 2 (.int .i64 (r4 : Int))
  have HV4 := hid (hv4.but hst4 (by omega))
  have HU4 := hid hus4_0
  have HB4 := hid (hkw4.new hst4 (by omega))
  have HD4 := hid (hd4.new (w := w) hst4 (by omega) hrl HS.out)
  have hsz4 := HU4.out.lt
  clear hr4 hd4 hk4 hkw4 hv4 hu4 hst4 hus4_0 hm4
  cases hz : ((r4 : Int) == 0)
  · have hzz := hz
    have HC5 := hid (wrWord_any (V4.setCell ⟨w.heap.size + 1, 2, none⟩ (.int .i64 (r4 : Int))) S rb R4 e4 HD4.out)
    go_wp2_with fail
    refine HC5.out.mono ?_
    rintro x5 V5 ⟨r5, R5, e5, rfl, ⟨hr5, hd5, hk5⟩, hm5⟩
    clear HC5
    have hkw5 := HB4.out.trans hk5
    have hv5 := HV4.out.but hk5 (by omega)
    have hu5 := HU4.out.but hk5 (by omega)
    have HR5 := hid hr5
    have HM5 := hid hm5
    have c3 := hu5.cell 3
    have f3 := hu5.frozen 3
    simp at c3
    have hus5_0 : Box _ (w.heap.size + 1) #[.int .i64 (r2 : Int), .int .i64 (r3 : Int), .int .i64 (r4 : Int), .int .u32 (r5 : Int), .int .i64 0, .slice none 0 0, .int .i64 0, .slice none 0 0, .slice none 0 0, .slice none 0 0, .slice none 0 0] 38 := hu5.set 3 (.int .u32 (r5 : Int))
    have hst5 : But (fun y => y = w.heap.size + 1) V5 (V5.setCell ⟨w.heap.size + 1, 3, none⟩ (.int .u32 (r5 : Int))) := (But.one V5 (w.heap.size + 1)).setAt 3 (.int .u32 (r5 : Int))
    have HV5 := hid (hv5.but hst5 (by omega))
    have HU5 := hid hus5_0
    have HB5 := hid (hkw5.new hst5 (by omega))
    have HD5 := hid (hd5.new (w := w) hst5 (by omega) hrl HS.out)
    have hsz5 := HU5.out.lt
    clear hr5 hd5 hk5 hkw5 hv5 hu5 hst5 hus5_0 hm5
    have HC6 := hid (wrDelta_any (V5.setCell ⟨w.heap.size + 1, 3, none⟩ (.int .u32 (r5 : Int))) S rb R5 e5 (fun b hb => by have := HS.out b hb; omega) HD5.out)
    go_wp2_with fail
    refine HC6.out.mono ?_
    rintro x6 V6 ⟨t6, R6, e6, rfl, hin6, ⟨hr6, hd6, hk6⟩⟩
    clear HC6
    have hkw6 := HB5.out.trans hk6
    have hv6 := HV5.out.but hk6 (by omega)
    have hu6 := HU5.out.but hk6 (by omega)
    have HR6 := hid hr6
    have c6 := hu6.cell 6
    have f6 := hu6.frozen 6
    simp at c6
    have c7 := hu6.cell 7
    have f7 := hu6.frozen 7
    simp at c7
    have c8 := hu6.cell 8
    have f8 := hu6.frozen 8
    simp at c8
    have hus6_0 : Box _ (w.heap.size + 1) #[.int .i64 (r2 : Int), .int .i64 (r3 : Int), .int .i64 (r4 : Int), .int .u32 (r5 : Int), .int .i64 0, .slice none 0 0, .int .i64 (t6.num : Int), .slice none 0 0, .slice none 0 0, .slice none 0 0, .slice none 0 0] 38 := hu6.set 6 (.int .i64 (t6.num : Int))
    have hus6_1 : Box _ (w.heap.size + 1) #[.int .i64 (r2 : Int), .int .i64 (r3 : Int), .int .i64 (r4 : Int), .int .u32 (r5 : Int), .int .i64 0, .slice none 0 0, .int .i64 (t6.num : Int), .slice t6.set.p t6.set.n t6.set.c, .slice none 0 0, .slice none 0 0, .slice none 0 0] 38 := hus6_0.set 7 (.slice t6.set.p t6.set.n t6.set.c)
    have hus6_2 : Box _ (w.heap.size + 1) #[.int .i64 (r2 : Int), .int .i64 (r3 : Int), .int .i64 (r4 : Int), .int .u32 (r5 : Int), .int .i64 0, .slice none 0 0, .int .i64 (t6.num : Int), .slice t6.set.p t6.set.n t6.set.c, .slice t6.gone.p t6.gone.n t6.gone.c, .slice none 0 0, .slice none 0 0] 38 := hus6_1.set 8 (.slice t6.gone.p t6.gone.n t6.gone.c)
    have hst6 : But (fun y => y = w.heap.size + 1) V6 (((V6.setCell ⟨w.heap.size + 1, 6, none⟩ (.int .i64 (t6.num : Int))).setCell ⟨w.heap.size + 1, 7, none⟩ (.slice t6.set.p t6.set.n t6.set.c)).setCell ⟨w.heap.size + 1, 8, none⟩ (.slice t6.gone.p t6.gone.n t6.gone.c)) := (((But.one V6 (w.heap.size + 1)).setAt 6 (.int .i64 (t6.num : Int))).setAt 7 (.slice t6.set.p t6.set.n t6.set.c)).setAt 8 (.slice t6.gone.p t6.gone.n t6.gone.c)
    have HV6 := hid (hv6.but hst6 (by omega))
    have HU6 := hid hus6_2
    have HB6 := hid (hkw6.new hst6 (by omega))
    have HD6 := hid (hd6.new (w := w) hst6 (by omega) hrl HS.out)
    have hin6b := hin6.mono (S' := fun b => w.heap.size + 2 ≤ b) (fun b hb _ => by omega)
    have HI6_6 := hid (hin6b.but hst6 (fun b hb _ e => by omega))
    have hsz6 := HU6.out.lt
    clear hr6 hd6 hk6 hkw6 hv6 hu6 hst6 hus6_0 hus6_1 hus6_2 hin6 hin6b
    unfold DT.val
    have HC7 := hid (logs_list (((V6.setCell ⟨w.heap.size + 1, 6, none⟩ (.int .i64 (t6.num : Int))).setCell ⟨w.heap.size + 1, 7, none⟩ (.slice t6.set.p t6.set.n t6.set.c)).setCell ⟨w.heap.size + 1, 8, none⟩ (.slice t6.gone.p t6.gone.n t6.gone.c)) S rb R6 e6 (fun b hb => by have := HS.out b hb; omega) HD6.out)
    go_wp2_with fail
    refine HC7.out.mono ?_
    rintro x7 V7 ⟨t7, R7, e7, rfl, hin7, ⟨hr7, hd7, hk7⟩⟩
    clear HC7
    have hkw7 := HB6.out.trans hk7
    have hv7 := HV6.out.but hk7 (by omega)
    have hu7 := HU6.out.but hk7 (by omega)
    have hi6_7 := HI6_6.out.but hk7 (fun b hb _ e => by omega)
    have HR7 := hid hr7
    have c9 := hu7.cell 9
    have f9 := hu7.frozen 9
    simp at c9
    have hus7_0 : Box _ (w.heap.size + 1) #[.int .i64 (r2 : Int), .int .i64 (r3 : Int), .int .i64 (r4 : Int), .int .u32 (r5 : Int), .int .i64 0, .slice none 0 0, .int .i64 (t6.num : Int), .slice t6.set.p t6.set.n t6.set.c, .slice t6.gone.p t6.gone.n t6.gone.c, .slice t7.p t7.n t7.c, .slice none 0 0] 38 := hu7.set 9 (.slice t7.p t7.n t7.c)
    have hst7 : But (fun y => y = w.heap.size + 1) V7 (V7.setCell ⟨w.heap.size + 1, 9, none⟩ (.slice t7.p t7.n t7.c)) := (But.one V7 (w.heap.size + 1)).setAt 9 (.slice t7.p t7.n t7.c)
    have HV7 := hid (hv7.but hst7 (by omega))
    have HU7 := hid hus7_0
    have HB7 := hid (hkw7.new hst7 (by omega))
    have HD7 := hid (hd7.new (w := w) hst7 (by omega) hrl HS.out)
    have HI6_7 := hid (hi6_7.but hst7 (fun b hb _ e => by omega))
    have hin7b := hin7.mono (S' := fun b => w.heap.size + 2 ≤ b) (fun b hb _ => by omega)
    have HI7_7 := hid (hin7b.but hst7 (fun b hb _ e => by omega))
    have hsz7 := HU7.out.lt
    clear hr7 hd7 hk7 hkw7 hv7 hu7 hi6_7 hst7 hus7_0 hin7 hin7b
    have HC8 := hid (wrRecords_any (V7.setCell ⟨w.heap.size + 1, 9, none⟩ (.slice t7.p t7.n t7.c)) S rb R7 e7 (fun b hb => by have := HS.out b hb; omega) HD7.out)
    go_wp2_with fail
    refine HC8.out.mono ?_
    rintro x8 V8 ⟨t8, R8, e8, rfl, hin8, ⟨hr8, hd8, hk8⟩⟩
    clear HC8
    have hkw8 := HB7.out.trans hk8
    have hv8 := HV7.out.but hk8 (by omega)
    have hu8 := HU7.out.but hk8 (by omega)
    have hi6_8 := HI6_7.out.but hk8 (fun b hb _ e => by omega)
    have hi7_8 := HI7_7.out.but hk8 (fun b hb _ e => by omega)
    have HR8 := hid hr8
    have c0 := hu8.cell 0
    have f0 := hu8.frozen 0
    simp at c0
    have c1 := hu8.cell 1
    have f1 := hu8.frozen 1
    simp at c1
    have c2 := hu8.cell 2
    have f2 := hu8.frozen 2
    simp at c2
    have c3 := hu8.cell 3
    have f3 := hu8.frozen 3
    simp at c3
    have c4 := hu8.cell 4
    have f4 := hu8.frozen 4
    simp at c4
    have c5 := hu8.cell 5
    have f5 := hu8.frozen 5
    simp at c5
    have c6 := hu8.cell 6
    have f6 := hu8.frozen 6
    simp at c6
    have c7 := hu8.cell 7
    have f7 := hu8.frozen 7
    simp at c7
    have c8 := hu8.cell 8
    have f8 := hu8.frozen 8
    simp at c8
    have c9 := hu8.cell 9
    have f9 := hu8.frozen 9
    simp at c9
    have c10 := hu8.cell 10
    have f10 := hu8.frozen 10
    simp at c10
    have d0 := hv8.cell 0
    have g0 := hv8.frozen 0
    simp at d0
    have d1 := hv8.cell 1
    have g1 := hv8.frozen 1
    simp at d1
    have d2 := hv8.cell 2
    have g2 := hv8.frozen 2
    simp at d2
    have d3 := hv8.cell 3
    have g3 := hv8.frozen 3
    simp at d3
    have d4 := hv8.cell 4
    have g4 := hv8.frozen 4
    simp at d4
    have d5 := hv8.cell 5
    have g5 := hv8.frozen 5
    simp at d5
    have d6 := hv8.cell 6
    have g6 := hv8.frozen 6
    simp at d6
    have d7 := hv8.cell 7
    have g7 := hv8.frozen 7
    simp at d7
    have d8 := hv8.cell 8
    have g8 := hv8.frozen 8
    simp at d8
    have d9 := hv8.cell 9
    have g9 := hv8.frozen 9
    simp at d9
    have d10 := hv8.cell 10
    have g10 := hv8.frozen 10
    simp at d10
    have hus8_0 : Box _ (w.heap.size + 1) #[.int .i64 (r2 : Int), .int .i64 (r3 : Int), .int .i64 (r4 : Int), .int .u32 (r5 : Int), .int .i64 0, .slice none 0 0, .int .i64 (t6.num : Int), .slice t6.set.p t6.set.n t6.set.c, .slice t6.gone.p t6.gone.n t6.gone.c, .slice t7.p t7.n t7.c, .slice t8.p t8.n t8.c] 38 := hu8.set 10 (.slice t8.p t8.n t8.c)
    have hst8 : But (fun y => y = w.heap.size + 1) V8 (V8.setCell ⟨w.heap.size + 1, 10, none⟩ (.slice t8.p t8.n t8.c)) := (But.one V8 (w.heap.size + 1)).setAt 10 (.slice t8.p t8.n t8.c)
    have HV8 := hid (hv8.but hst8 (by omega))
    have HU8 := hid hus8_0
    have HB8 := hid (hkw8.new hst8 (by omega))
    have HD8 := hid (hd8.new (w := w) hst8 (by omega) hrl HS.out)
    have HI6_8 := hid (hi6_8.but hst8 (fun b hb _ e => by omega))
    have HI7_8 := hid (hi7_8.but hst8 (fun b hb _ e => by omega))
    have hin8b := hin8.mono (S' := fun b => w.heap.size + 2 ≤ b) (fun b hb _ => by omega)
    have HI8_8 := hid (hin8b.but hst8 (fun b hb _ e => by omega))
    have hsz8 := HU8.out.lt
    have zz := set11_box HV8.out (.int .i64 (r2 : Int)) (.int .i64 (r3 : Int)) (.int .i64 (r4 : Int)) (.int .u32 (r5 : Int)) (.int .i64 0) (.slice none 0 0) (.int .i64 (t6.num : Int)) (.slice t6.set.p t6.set.n t6.set.c) (.slice t6.gone.p t6.gone.n t6.gone.c) (.slice t7.p t7.n t7.c) (.slice t8.p t8.n t8.c)
    have r0' := zz.cell 0
    have r1' := zz.cell 1
    have r2' := zz.cell 2
    have r3' := zz.cell 3
    have r4' := zz.cell 4
    have r5' := zz.cell 5
    have r6' := zz.cell 6
    have r7' := zz.cell 7
    have r8' := zz.cell 8
    have r9' := zz.cell 9
    have r10' := zz.cell 10
    simp only [List.getElem?_toArray, List.getElem?_cons_zero, List.getElem?_cons_succ] at r0'  r1'  r2'  r3'  r4'  r5'  r6'  r7'  r8'  r9'  r10' 
    have HZ := hid (And.intro r0' (And.intro r1' (And.intro r2' (And.intro r3' (And.intro r4' (And.intro r5' (And.intro r6' (And.intro r7' (And.intro r8' (And.intro r9' (r10')))))))))))
    clear hr8 hd8 hk8 hkw8 hv8 hu8 hi6_8 hi7_8 hst8 hus8_0 hin8 hin8b zz r0' r1' r2' r3' r4' r5' r6' r7' r8' r9' r10'
    go_wp2
    obtain ⟨r0' , r1' , r2' , r3' , r4' , r5' , r6' , r7' , r8' , r9' , r10' ⟩ := HZ.out
    have hfin := But.sets11 (V8.setCell ⟨w.heap.size + 1, 10, none⟩ (.slice t8.p t8.n t8.c)) w.heap.size (.int .i64 (r2 : Int)) (.int .i64 (r3 : Int)) (.int .i64 (r4 : Int)) (.int .u32 (r5 : Int)) (.int .i64 0) (.slice none 0 0) (.int .i64 (t6.num : Int)) (.slice t6.set.p t6.set.n t6.set.c) (.slice t6.gone.p t6.gone.n t6.gone.c) (.slice t7.p t7.n t7.c) (.slice t8.p t8.n t8.c)
    have HBf := HB8.out.new hfin (Nat.le_refl _)
    have HDf := HD8.out.new (w := w) hfin (Nat.le_refl _) hrl HS.out
    have HF6 := (HI6_8.out.but hfin (fun b hb _ e => by omega)).mono (S' := fun b => w.heap.size ≤ b) (fun b hb _ => by omega)
    have HF7 := (HI7_8.out.but hfin (fun b hb _ e => by omega)).mono (S' := fun b => w.heap.size ≤ b) (fun b hb _ => by omega)
    have HF8 := (HI8_8.out.but hfin (fun b hb _ e => by omega)).mono (S' := fun b => w.heap.size ≤ b) (fun b hb _ => by omega)
    refine bodyPost_ret (v := GT.val ⟨r2, r3, r4, r5, noS, t6, t7, t8⟩) (by simp [results, Try.results77, go_sem, GT.val, noS, r0' , r1' , r2' , r3' , r4' , r5' , r6' , r7' , r8' , r9' , r10' ]) rfl ?_
    have hr0 : ¬ r4 = 0 := by simpa using hz
    refine ⟨⟨r2, r3, r4, r5, noS, t6, t7, t8⟩, R8, e8, rfl, ⟨HM2.out, HM3.out, HM4.out, HM5.out, in_noS _ _, HF6, HF7, HF8⟩, ⟨HR1.out.bind (fun _ _ _ => ?_) (RR.stay2 HR2.out.stay (RR.stay2 HR3.out.stay (RR.stay2 HR4.out.stay (RR.stay2 HR5.out.stay (RR.stay2 HR6.out.stay (RR.stay2 HR7.out.stay HR8.out.stay)))))), HDf, HBf⟩⟩
    refine HR2.out.bind (fun y hy _ => ?_) (RR.stay2 HR3.out.stay (RR.stay2 HR4.out.stay (RR.stay2 HR5.out.stay (RR.stay2 HR6.out.stay (RR.stay2 HR7.out.stay HR8.out.stay)))))
    subst hy
    refine HR3.out.bind (fun y hy _ => ?_) (RR.stay2 HR4.out.stay (RR.stay2 HR5.out.stay (RR.stay2 HR6.out.stay (RR.stay2 HR7.out.stay HR8.out.stay))))
    subst hy
    refine HR4.out.bind (fun y hy _ => ?_) (RR.stay2 HR5.out.stay (RR.stay2 HR6.out.stay (RR.stay2 HR7.out.stay HR8.out.stay)))
    subst hy
    rw [if_neg hr0]
    refine HR5.out.bind (fun y5 hy5 _ => ?_) (RR.stay2 HR6.out.stay (RR.stay2 HR7.out.stay HR8.out.stay))
    subst hy5
    refine HR6.out.bind (fun y6 hy6 _ => ?_) (RR.stay2 HR7.out.stay HR8.out.stay)
    refine HR7.out.bind (fun y7 hy7 _ => ?_) HR8.out.stay
    exact HR8.out.map fun _ y8 hy8 => ⟨rfl, rfl, rfl, rfl, alike_noS, hy6, hy7, hy8⟩
  · have hzz := hz
    have HC5 := hid (wrState_any (V4.setCell ⟨w.heap.size + 1, 2, none⟩ (.int .i64 (r4 : Int))) S rb R4 e4 (fun b hb => by have := HS.out b hb; omega) HD4.out)
    go_wp2_with fail
    refine HC5.out.mono ?_
    rintro x5 V5 ⟨t5, R5, e5, rfl, hin5, ⟨hr5, hd5, hk5⟩⟩
    clear HC5
    have hkw5 := HB4.out.trans hk5
    have hv5 := HV4.out.but hk5 (by omega)
    have hu5 := HU4.out.but hk5 (by omega)
    have HR5 := hid hr5
    have c4 := hu5.cell 4
    have f4 := hu5.frozen 4
    simp at c4
    have c5 := hu5.cell 5
    have f5 := hu5.frozen 5
    simp at c5
    have hus5_0 : Box _ (w.heap.size + 1) #[.int .i64 (r2 : Int), .int .i64 (r3 : Int), .int .i64 (r4 : Int), .int .u32 0, .int .i64 t5.num, .slice none 0 0, .int .i64 0, .slice none 0 0, .slice none 0 0, .slice none 0 0, .slice none 0 0] 38 := hu5.set 4 (.int .i64 t5.num)
    have hus5_1 : Box _ (w.heap.size + 1) #[.int .i64 (r2 : Int), .int .i64 (r3 : Int), .int .i64 (r4 : Int), .int .u32 0, .int .i64 t5.num, .slice t5.p t5.n t5.c, .int .i64 0, .slice none 0 0, .slice none 0 0, .slice none 0 0, .slice none 0 0] 38 := hus5_0.set 5 (.slice t5.p t5.n t5.c)
    have hst5 : But (fun y => y = w.heap.size + 1) V5 ((V5.setCell ⟨w.heap.size + 1, 4, none⟩ (.int .i64 t5.num)).setCell ⟨w.heap.size + 1, 5, none⟩ (.slice t5.p t5.n t5.c)) := ((But.one V5 (w.heap.size + 1)).setAt 4 (.int .i64 t5.num)).setAt 5 (.slice t5.p t5.n t5.c)
    have HV5 := hid (hv5.but hst5 (by omega))
    have HU5 := hid hus5_1
    have HB5 := hid (hkw5.new hst5 (by omega))
    have HD5 := hid (hd5.new (w := w) hst5 (by omega) hrl HS.out)
    have hin5b := hin5.mono (S' := fun b => w.heap.size + 2 ≤ b) (fun b hb _ => by omega)
    have HI5_5 := hid (hin5b.but hst5 (fun b hb _ e => by omega))
    have hsz5 := HU5.out.lt
    clear hr5 hd5 hk5 hkw5 hv5 hu5 hst5 hus5_0 hus5_1 hin5 hin5b
    unfold ST.val
    have HC6 := hid (logs_list ((V5.setCell ⟨w.heap.size + 1, 4, none⟩ (.int .i64 t5.num)).setCell ⟨w.heap.size + 1, 5, none⟩ (.slice t5.p t5.n t5.c)) S rb R5 e5 (fun b hb => by have := HS.out b hb; omega) HD5.out)
    go_wp2_with fail
    refine HC6.out.mono ?_
    rintro x6 V6 ⟨t6, R6, e6, rfl, hin6, ⟨hr6, hd6, hk6⟩⟩
    clear HC6
    have hkw6 := HB5.out.trans hk6
    have hv6 := HV5.out.but hk6 (by omega)
    have hu6 := HU5.out.but hk6 (by omega)
    have hi5_6 := HI5_5.out.but hk6 (fun b hb _ e => by omega)
    have HR6 := hid hr6
    have c9 := hu6.cell 9
    have f9 := hu6.frozen 9
    simp at c9
    have hus6_0 : Box _ (w.heap.size + 1) #[.int .i64 (r2 : Int), .int .i64 (r3 : Int), .int .i64 (r4 : Int), .int .u32 0, .int .i64 t5.num, .slice t5.p t5.n t5.c, .int .i64 0, .slice none 0 0, .slice none 0 0, .slice t6.p t6.n t6.c, .slice none 0 0] 38 := hu6.set 9 (.slice t6.p t6.n t6.c)
    have hst6 : But (fun y => y = w.heap.size + 1) V6 (V6.setCell ⟨w.heap.size + 1, 9, none⟩ (.slice t6.p t6.n t6.c)) := (But.one V6 (w.heap.size + 1)).setAt 9 (.slice t6.p t6.n t6.c)
    have HV6 := hid (hv6.but hst6 (by omega))
    have HU6 := hid hus6_0
    have HB6 := hid (hkw6.new hst6 (by omega))
    have HD6 := hid (hd6.new (w := w) hst6 (by omega) hrl HS.out)
    have HI5_6 := hid (hi5_6.but hst6 (fun b hb _ e => by omega))
    have hin6b := hin6.mono (S' := fun b => w.heap.size + 2 ≤ b) (fun b hb _ => by omega)
    have HI6_6 := hid (hin6b.but hst6 (fun b hb _ e => by omega))
    have hsz6 := HU6.out.lt
    clear hr6 hd6 hk6 hkw6 hv6 hu6 hi5_6 hst6 hus6_0 hin6 hin6b
    have HC7 := hid (wrRecords_any (V6.setCell ⟨w.heap.size + 1, 9, none⟩ (.slice t6.p t6.n t6.c)) S rb R6 e6 (fun b hb => by have := HS.out b hb; omega) HD6.out)
    go_wp2_with fail
    refine HC7.out.mono ?_
    rintro x7 V7 ⟨t7, R7, e7, rfl, hin7, ⟨hr7, hd7, hk7⟩⟩
    clear HC7
    have hkw7 := HB6.out.trans hk7
    have hv7 := HV6.out.but hk7 (by omega)
    have hu7 := HU6.out.but hk7 (by omega)
    have hi5_7 := HI5_6.out.but hk7 (fun b hb _ e => by omega)
    have hi6_7 := HI6_6.out.but hk7 (fun b hb _ e => by omega)
    have HR7 := hid hr7
    have c0 := hu7.cell 0
    have f0 := hu7.frozen 0
    simp at c0
    have c1 := hu7.cell 1
    have f1 := hu7.frozen 1
    simp at c1
    have c2 := hu7.cell 2
    have f2 := hu7.frozen 2
    simp at c2
    have c3 := hu7.cell 3
    have f3 := hu7.frozen 3
    simp at c3
    have c4 := hu7.cell 4
    have f4 := hu7.frozen 4
    simp at c4
    have c5 := hu7.cell 5
    have f5 := hu7.frozen 5
    simp at c5
    have c6 := hu7.cell 6
    have f6 := hu7.frozen 6
    simp at c6
    have c7 := hu7.cell 7
    have f7 := hu7.frozen 7
    simp at c7
    have c8 := hu7.cell 8
    have f8 := hu7.frozen 8
    simp at c8
    have c9 := hu7.cell 9
    have f9 := hu7.frozen 9
    simp at c9
    have c10 := hu7.cell 10
    have f10 := hu7.frozen 10
    simp at c10
    have d0 := hv7.cell 0
    have g0 := hv7.frozen 0
    simp at d0
    have d1 := hv7.cell 1
    have g1 := hv7.frozen 1
    simp at d1
    have d2 := hv7.cell 2
    have g2 := hv7.frozen 2
    simp at d2
    have d3 := hv7.cell 3
    have g3 := hv7.frozen 3
    simp at d3
    have d4 := hv7.cell 4
    have g4 := hv7.frozen 4
    simp at d4
    have d5 := hv7.cell 5
    have g5 := hv7.frozen 5
    simp at d5
    have d6 := hv7.cell 6
    have g6 := hv7.frozen 6
    simp at d6
    have d7 := hv7.cell 7
    have g7 := hv7.frozen 7
    simp at d7
    have d8 := hv7.cell 8
    have g8 := hv7.frozen 8
    simp at d8
    have d9 := hv7.cell 9
    have g9 := hv7.frozen 9
    simp at d9
    have d10 := hv7.cell 10
    have g10 := hv7.frozen 10
    simp at d10
    have hus7_0 : Box _ (w.heap.size + 1) #[.int .i64 (r2 : Int), .int .i64 (r3 : Int), .int .i64 (r4 : Int), .int .u32 0, .int .i64 t5.num, .slice t5.p t5.n t5.c, .int .i64 0, .slice none 0 0, .slice none 0 0, .slice t6.p t6.n t6.c, .slice t7.p t7.n t7.c] 38 := hu7.set 10 (.slice t7.p t7.n t7.c)
    have hst7 : But (fun y => y = w.heap.size + 1) V7 (V7.setCell ⟨w.heap.size + 1, 10, none⟩ (.slice t7.p t7.n t7.c)) := (But.one V7 (w.heap.size + 1)).setAt 10 (.slice t7.p t7.n t7.c)
    have HV7 := hid (hv7.but hst7 (by omega))
    have HU7 := hid hus7_0
    have HB7 := hid (hkw7.new hst7 (by omega))
    have HD7 := hid (hd7.new (w := w) hst7 (by omega) hrl HS.out)
    have HI5_7 := hid (hi5_7.but hst7 (fun b hb _ e => by omega))
    have HI6_7 := hid (hi6_7.but hst7 (fun b hb _ e => by omega))
    have hin7b := hin7.mono (S' := fun b => w.heap.size + 2 ≤ b) (fun b hb _ => by omega)
    have HI7_7 := hid (hin7b.but hst7 (fun b hb _ e => by omega))
    have hsz7 := HU7.out.lt
    have zz := set11_box HV7.out (.int .i64 (r2 : Int)) (.int .i64 (r3 : Int)) (.int .i64 (r4 : Int)) (.int .u32 0) (.int .i64 t5.num) (.slice t5.p t5.n t5.c) (.int .i64 0) (.slice none 0 0) (.slice none 0 0) (.slice t6.p t6.n t6.c) (.slice t7.p t7.n t7.c)
    have r0' := zz.cell 0
    have r1' := zz.cell 1
    have r2' := zz.cell 2
    have r3' := zz.cell 3
    have r4' := zz.cell 4
    have r5' := zz.cell 5
    have r6' := zz.cell 6
    have r7' := zz.cell 7
    have r8' := zz.cell 8
    have r9' := zz.cell 9
    have r10' := zz.cell 10
    simp only [List.getElem?_toArray, List.getElem?_cons_zero, List.getElem?_cons_succ] at r0'  r1'  r2'  r3'  r4'  r5'  r6'  r7'  r8'  r9'  r10' 
    have HZ := hid (And.intro r0' (And.intro r1' (And.intro r2' (And.intro r3' (And.intro r4' (And.intro r5' (And.intro r6' (And.intro r7' (And.intro r8' (And.intro r9' (r10')))))))))))
    clear hr7 hd7 hk7 hkw7 hv7 hu7 hi5_7 hi6_7 hst7 hus7_0 hin7 hin7b zz r0' r1' r2' r3' r4' r5' r6' r7' r8' r9' r10'
    go_wp2
    obtain ⟨r0' , r1' , r2' , r3' , r4' , r5' , r6' , r7' , r8' , r9' , r10' ⟩ := HZ.out
    have hfin := But.sets11 (V7.setCell ⟨w.heap.size + 1, 10, none⟩ (.slice t7.p t7.n t7.c)) w.heap.size (.int .i64 (r2 : Int)) (.int .i64 (r3 : Int)) (.int .i64 (r4 : Int)) (.int .u32 0) (.int .i64 t5.num) (.slice t5.p t5.n t5.c) (.int .i64 0) (.slice none 0 0) (.slice none 0 0) (.slice t6.p t6.n t6.c) (.slice t7.p t7.n t7.c)
    have HBf := HB7.out.new hfin (Nat.le_refl _)
    have HDf := HD7.out.new (w := w) hfin (Nat.le_refl _) hrl HS.out
    have HF5 := (HI5_7.out.but hfin (fun b hb _ e => by omega)).mono (S' := fun b => w.heap.size ≤ b) (fun b hb _ => by omega)
    have HF6 := (HI6_7.out.but hfin (fun b hb _ e => by omega)).mono (S' := fun b => w.heap.size ≤ b) (fun b hb _ => by omega)
    have HF7 := (HI7_7.out.but hfin (fun b hb _ e => by omega)).mono (S' := fun b => w.heap.size ≤ b) (fun b hb _ => by omega)
    refine bodyPost_ret (v := GT.val ⟨r2, r3, r4, 0, t5, noD, t6, t7⟩) (by simp [results, Try.results77, go_sem, GT.val, noD, noL, r0' , r1' , r2' , r3' , r4' , r5' , r6' , r7' , r8' , r9' , r10' ]) rfl ?_
    have hr0 : r4 = 0 := by simpa using hz
    refine ⟨⟨r2, r3, r4, 0, t5, noD, t6, t7⟩, R7, e7, rfl, ⟨HM2.out, HM3.out, HM4.out, (show (0 : Nat) < 4294967296 by decide), HF5, in_noD _ _, HF6, HF7⟩, ⟨HR1.out.bind (fun _ _ _ => ?_) (RR.stay2 HR2.out.stay (RR.stay2 HR3.out.stay (RR.stay2 HR4.out.stay (RR.stay2 HR5.out.stay (RR.stay2 HR6.out.stay HR7.out.stay))))), HDf, HBf⟩⟩
    refine HR2.out.bind (fun y hy _ => ?_) (RR.stay2 HR3.out.stay (RR.stay2 HR4.out.stay (RR.stay2 HR5.out.stay (RR.stay2 HR6.out.stay HR7.out.stay))))
    subst hy
    refine HR3.out.bind (fun y hy _ => ?_) (RR.stay2 HR4.out.stay (RR.stay2 HR5.out.stay (RR.stay2 HR6.out.stay HR7.out.stay)))
    subst hy
    refine HR4.out.bind (fun y hy _ => ?_) (RR.stay2 HR5.out.stay (RR.stay2 HR6.out.stay HR7.out.stay))
    subst hy
    rw [if_pos hr0]
    refine HR5.out.bind (fun y5 hy5 _ => ?_) (RR.stay2 HR6.out.stay HR7.out.stay)
    refine HR6.out.bind (fun y6 hy6 _ => ?_) HR7.out.stay
    exact HR7.out.map fun _ y7 hy7 => ⟨rfl, rfl, hr0, rfl, hy5, is_noD, hy6, hy7⟩
end Go.Proofs.Ytikfpoabaaiegaa
