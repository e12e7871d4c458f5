import Derived.Test.YtikfpoabaaiegaaPack9
import Derived.Laws.EntriesVeiled
import Derived.Test.YtikfpoabaaiegaaPack7
namespace Go.Proofs.Ytikfpoabaaiegaa
open Go.RowKit
set_option maxRecDepth 8000
def CellP (q0 q1 : Nat) (s : Option ByteArray) (w : World) (S : Nat → Prop) (rb : Nat) (L : List Int) (e : Int) (x : Ending) (w' : World) : Prop :=
  ∃ (t : VT) (R : List Int) (e' : Int), x = .returned (.agg #[.string t.text, .slice t.p t.n t.c]) ∧ VT.In w' (fun b => w.heap.size ≤ b) t ∧ RdX (cellS s) (fun y => VT.Alike y t ∧ Rise q0 q1 w' (some y.text)) (X3 rb q0 q1) w S rb L e R e' w'
theorem alike_cell {k : ByteArray} {l : List VT} {t : LT VT} (h : Isl VT.Alike t l) : VT.Alike (mkC k l) (.mk 0 0 k t.n t.p t.c t.item) := by
  refine ⟨rfl, rfl, rfl, h.1, fun j hj => ?_⟩
  have := h.2 j l[j] (by rw [List.getElem?_eq_getElem hj])
  show VT.Alike (l.getD j .nil) (t.item j)
  simpa [List.getD_eq_getElem?_getD, List.getElem?_eq_getElem hj] using this
set_option maxHeartbeats 8000000 in
theorem cell_any (w : World) (S : Nat → Prop) (rb kb q0 q1 : Nat) (s : Option ByteArray) (L : List Int) (e : Int) (hS : ∀ b, S b → b < w.heap.size) (hkb : Box w kb #[.func (.func 157) #[] #[.pointer (some ⟨q0, 0, none⟩), .pointer (some ⟨q1, 0, none⟩)]] 218) (hI : Rise q0 q1 w s) (hn : q0 ≠ q1) (hr0 : q0 ≠ rb) (hr1 : q1 ≠ rb) (hS0 : ¬ S q0) (hS1 : ¬ S q1) (hl0 : q0 < w.heap.size) (hl1 : q1 < w.heap.size) (h : Rdr w S rb L e) : Calls Try.prog 146 #[.pointer (some ⟨rb, 0, none⟩), .pointer (some ⟨kb, 0, none⟩)] w fun x w' => CellP q0 q1 s w S rb L e x w' := by
  have hrl := h.lt
  obtain ⟨W0, hW0⟩ : ∃ W0, W0 = (w.alloc (.cells #[.string ⟨#[]⟩, .slice none 0 0] 154)).alloc (.cells #[.string ⟨#[]⟩, .slice none 0 0] 154) := ⟨_, rfl⟩
  have hb0 : Below w.heap.size w W0 := by rw [hW0]; exact ((Below.refl _ _).alloc (Nat.le_refl _) _).alloc (by simp) _
  have hv0 : Box W0 w.heap.size #[.string ⟨#[]⟩, .slice none 0 0] 154 := by rw [hW0]; exact (Box.new w _ _).below ((Below.refl _ _).alloc (Nat.le_refl _) _)
  have hu0 : Box W0 (w.heap.size + 1) #[.string ⟨#[]⟩, .slice none 0 0] 154 := by
    have := Box.new (w.alloc (.cells #[.string ⟨#[]⟩, .slice none 0 0] 154)) #[.string ⟨#[]⟩, .slice none 0 0] 154
    rw [show (w.alloc (.cells #[.string ⟨#[]⟩, .slice none 0 0] 154)).heap.size = w.heap.size + 1 by simp] at this
    rw [hW0]; exact this
  have HS := hid hS
  have HB0 : Hid (But (X3 rb q0 q1) w W0) := But.ofBelow hb0
  have HV0 := hid hv0
  have HU0 := hid hu0
  have HD0 : Hid (Rdr W0 S rb L e) := h.below hb0
  have hsz0 := hu0.lt
  have kx := (hkb.below hb0).cell 0
  simp at kx
  rw [hW0] at kx
  have hI0 : Rise q0 q1 W0 s := hI.kept (hb0.block q0 hl0) (hb0.block q1 hl1)
  clear hkb hI
  have HC1 := hid (rise_any W0 S rb q0 q1 L e s hI0 hn hr0 hr1 hS0 hS1 HD0.out)
  rw [hW0] at HC1
  clear h hb0 hv0 hu0 hS
  go_enter Try.func146, Try.ntmps146
  go_wp2_with fail
  refine HC1.out.mono ?_
  rw [← hW0]
  rintro x1 V1 ⟨k1, R1, e1, rfl, ⟨hr1, hd1, hk1⟩, hm1⟩
  clear HC1
  have hkx1 := hk1
  have hkw1 := HB0.out.trans hkx1
  have hv1 := HV0.out.but hk1 (by unfold X3; omega)
  have hu1 := HU0.out.but hk1 (by unfold X3; omega)
  have HR1 := hid hr1
  have HM1 := hid hm1
  have c0 := hu1.cell 0
  have f0 := hu1.frozen 0
  simp at c0
  have hus1_0 : Box _ (w.heap.size + 1) #[.string k1, .slice none 0 0] 154 := hu1.set 0 (.string k1)
  have hst1 : But (fun y => y = w.heap.size + 1) V1 (V1.setCell ⟨w.heap.size + 1, 0, none⟩ (.string k1)) := (But.one V1 (w.heap.size + 1)).setAt 0 (.string k1)
  have HV1 := hid (hv1.but hst1 (by omega))
  have HU1 := hid hus1_0
  have HB1 := hid (hkw1.new hst1 (by omega))
  have HD1 := hid (hd1.new (w := w) hst1 (by omega) hrl HS.out)
  have HC01 : Hid (∀ y, Rise q0 q1 V1 (some y) → Rise q0 q1 (V1.setCell ⟨w.heap.size + 1, 0, none⟩ (.string k1)) (some y)) := fun y hy => hy.kept (hst1.block q0 (by have := hkw1.size; omega) (by omega)) (hst1.block q1 (by have := hkw1.size; omega) (by omega))
  clear kx
  have hsz1 := HU1.out.lt
  clear hkx1 hr1 hd1 hk1 hkw1 hv1 hu1 hst1 hus1_0 hm1
  have HC2 := hid (vals_list (V1.setCell ⟨w.heap.size + 1, 0, none⟩ (.string k1)) S rb R1 e1 (fun b hb => by have := HS.out b hb; omega) HD1.out)
  go_wp2_with fail
  refine HC2.out.mono ?_
  rintro x2 V2 ⟨t2, R2, e2, rfl, hin2, ⟨hr2, hd2, hk2⟩⟩
  clear HC2
  have hkx2 := hk2.mono (Y := X3 rb q0 q1) (fun b _ h => Or.inl h)
  have hkw2 := HB1.out.trans hkx2
  have hv2 := HV1.out.but hk2 (by omega)
  have hu2 := HU1.out.but hk2 (by omega)
  have HR2 := hid hr2
  have c0 := hu2.cell 0
  have f0 := hu2.frozen 0
  simp at c0
  have c1 := hu2.cell 1
  have f1 := hu2.frozen 1
  simp at c1
  have d0 := hv2.cell 0
  have g0 := hv2.frozen 0
  simp at d0
  have d1 := hv2.cell 1
  have g1 := hv2.frozen 1
  simp at d1
  have hus2_0 : Box _ (w.heap.size + 1) #[.string k1, .slice t2.p t2.n t2.c] 154 := hu2.set 1 (.slice t2.p t2.n t2.c)
  have hst2 : But (fun y => y = w.heap.size + 1) V2 (V2.setCell ⟨w.heap.size + 1, 1, none⟩ (.slice t2.p t2.n t2.c)) := (But.one V2 (w.heap.size + 1)).setAt 1 (.slice t2.p t2.n t2.c)
  have HV2 := hid (hv2.but hst2 (by omega))
  have HU2 := hid hus2_0
  have HB2 := hid (hkw2.new hst2 (by omega))
  have HD2 := hid (hd2.new (w := w) hst2 (by omega) hrl HS.out)
  have hin2b := hin2.mono (S' := fun b => w.heap.size + 2 ≤ b) (fun b hb _ => by omega)
  have HI2_2 := hid (hin2b.but hst2 (fun b hb _ e => by omega))
  have HC02 : Hid (∀ y, Rise q0 q1 V1 (some y) → Rise q0 q1 (V2.setCell ⟨w.heap.size + 1, 1, none⟩ (.slice t2.p t2.n t2.c)) (some y)) := fun y hy => ((HC01.out y hy).kept (hk2.block q0 (by omega) (by omega)) (hk2.block q1 (by omega) (by omega))).kept (hst2.block q0 (by have := hkw2.size; omega) (by omega)) (hst2.block q1 (by have := hkw2.size; omega) (by omega))
  have hsz2 := HU2.out.lt
  have zz := set2_box HV2.out (.string k1) (.slice t2.p t2.n t2.c)
  have r0' := zz.cell 0
  have r1' := zz.cell 1
  simp only [List.getElem?_toArray, List.getElem?_cons_zero, List.getElem?_cons_succ] at r0'  r1' 
  have HZ := hid (And.intro r0' (r1'))
  clear hkx2 hr2 hd2 hk2 hkw2 hv2 hu2 hst2 hus2_0 hin2 hin2b zz r0' r1'
  go_wp2
  obtain ⟨r0' , r1' ⟩ := HZ.out
  have hfin := But.sets2 (V2.setCell ⟨w.heap.size + 1, 1, none⟩ (.slice t2.p t2.n t2.c)) w.heap.size (.string k1) (.slice t2.p t2.n t2.c)
  have HBf := HB2.out.new hfin (Nat.le_refl _)
  have HDf := HD2.out.new (w := w) hfin (Nat.le_refl _) hrl HS.out
  have HF2 := (HI2_2.out.but hfin (fun b hb _ e => by omega)).mono (S' := fun b => w.heap.size ≤ b) (fun b hb _ => by omega)
  refine bodyPost_ret (v := .agg #[.string k1, .slice t2.p t2.n t2.c]) (by simp [results, Try.results146, go_sem, r0' , r1' ]) rfl ?_
  refine ⟨.mk 0 0 k1 t2.n t2.p t2.c t2.item, R2, e2, rfl, in_cell HF2 HM1.out, ⟨HR1.out.bind (fun y hy _ => ?_) HR2.out.stay, HDf, HBf⟩⟩
  obtain ⟨hy1, hy2⟩ := hy
  subst hy1
  exact HR2.out.map fun _ y2 h2 => ⟨alike_cell h2, (HC02.out k1 hy2).kept (hfin.block q0 (by omega) (by omega)) (hfin.block q1 (by omega) (by omega))⟩
def RiseK (kb q0 q1 : Nat) (W : World) (s : Option ByteArray) : Prop := Box W kb #[.func (.func 157) #[] #[.pointer (some ⟨q0, 0, none⟩), .pointer (some ⟨q1, 0, none⟩)]] 218 ∧ Rise q0 q1 W s
theorem cell_item (S : Nat → Prop) (rb kb q0 q1 : Nat) (W : World) (s : Option ByteArray) (R : List Int) (hS : ∀ b, S b → b < W.heap.size) (hI : RiseK kb q0 q1 W s) (hn : q0 ≠ q1) (hr0 : q0 ≠ rb) (hr1 : q1 ≠ rb) (hk0 : kb ≠ q0) (hk1 : kb ≠ q1) (hkr : kb ≠ rb) (hS0 : ¬ S q0) (hS1 : ¬ S q1) (hl0 : q0 < W.heap.size) (hl1 : q1 < W.heap.size) (h : Rdr W S rb R 0) :
    Calls Try.prog 146 #[.pointer (some ⟨rb, 0, none⟩), .pointer (some ⟨kb, 0, none⟩)] W fun x W' => ItemP elCell (fun u => .agg #[.string u.text, .slice u.p u.n u.c]) VT.Alike cellS (fun _ c => some c.text) (RiseK kb q0 q1) (X3 rb q0 q1) S rb s R W x W' := by
  refine (cell_any W S rb kb q0 q1 s R 0 hS hI.1 hI.2 hn hr0 hr1 hS0 hS1 hl0 hl1 h).mono ?_
  rintro x w1 ⟨t, R1, e1, rfl, hin, ⟨hr, hd, hk⟩⟩
  exact ⟨t, R1, e1, rfl, hin, hr.mono fun _ y hy => ⟨hy.1, hI.1.but hk (by unfold X3; omega), hy.2⟩, hd, hk⟩
end Go.Proofs.Ytikfpoabaaiegaa

namespace Go.Proofs.Ytikfpoabaaiegaa
open Go.RowKit
set_option maxRecDepth 8000
theorem makeFunc_run (fn : Fn) (first cap : Array Value) (w : World) : (Instr.makeFunc fn first cap).run Try.prog w = .ok (.func fn first cap) w := rfl
def KeysP (w : World) (x : Ending) (w' : World) : Prop := x = .returned (.func (.func 157) #[] #[.pointer (some ⟨w.heap.size + 1, 0, none⟩), .pointer (some ⟨w.heap.size, 0, none⟩)]) ∧ Rise (w.heap.size + 1) w.heap.size w' none ∧ Below w.heap.size w w' ∧ w'.heap.size = w.heap.size + 2
set_option maxHeartbeats 1000000 in
theorem keys_any (w : World) : Calls Try.prog 144 #[] w fun x w' => KeysP w x w' := by
  have hmf := makeFunc_run
  go_enter Try.func144, Try.ntmps144
  go_wp2
  go_ret
  have h1 := (Box.new w #[.string ⟨#[]⟩] 9).below ((Below.refl _ _).alloc (Nat.le_refl _) (.cells #[.bool false] 4))
  have h2 := Box.new (w.alloc (.cells #[.string ⟨#[]⟩] 9)) #[.bool false] 4
  rw [show (w.alloc (.cells #[.string ⟨#[]⟩] 9)).heap.size = w.heap.size + 1 by simp] at h2
  exact ⟨rfl, ⟨⟨#[]⟩, h2, h1, fun l h => by cases h⟩, ((Below.refl _ _).alloc (Nat.le_refl _) _).alloc (by simp) _, by simp⟩
theorem ListP.mono {α : Type} {E : El α} {Al : α → α → Prop} {s : RS (List α)} {X Y : Nat → Prop} {w w0 : World} {S : Nat → Prop} {rb : Nat} {L : List Int} {e : Int} {x : Ending} {w' : World} (h : ListP E Al s X w S rb L e x w') (hb : Below w0.heap.size w0 w) (hX : ∀ k, k < w0.heap.size → X k → Y k) : ListP E Al s Y w0 S rb L e x w' := by
  obtain ⟨l, R, e', hx, hin, ⟨a, b, c⟩⟩ := h
  refine ⟨l, R, e', hx, hin.mono fun b hb2 _ => Nat.le_trans hb.size hb2, ⟨a, b, ?_⟩⟩
  exact ⟨c.os.trans hb.os, c.tape.trans hb.tape, c.output.trans hb.output, Nat.le_trans hb.size c.size, fun k hk hy => (c.block k (Nat.lt_of_lt_of_le hk hb.size) (fun hx => hy (hX k hk hx))).trans (hb.block k hk)⟩
set_option maxHeartbeats 2000000 in
theorem wrCells_any (w : World) (S : Nat → Prop) (rb : Nat) (L : List Int) (e : Int) (hS : ∀ b, S b → b < w.heap.size) (h : Rdr w S rb L e) : Calls Try.prog 119 #[.pointer (some ⟨rb, 0, none⟩)] w fun x w' => ListP elCell VT.Alike cellsS (fun y => y = rb) w S rb L e x w' := by
  have hmf := makeFunc_run
  have HK := fun W => keys_any W
  have HS := hid hS
  have HH := hid h
  have hrl := h.lt
  clear h hS
  go_enter Try.func119, Try.ntmps119
  go_wp2_with fail
  refine (HK _).mono ?_
  rintro x w1 ⟨rfl, hri, hb1, hz1⟩
  have HR := hid hri
  have HB := hid hb1
  have HZ := hid hz1
  have hb2 : Below w1.heap.size w1 (w1.alloc (.cells #[.func (.func 157) #[] #[.pointer (some ⟨w.heap.size + 1, 0, none⟩), .pointer (some ⟨w.heap.size, 0, none⟩)]] 218)) := (Below.refl _ _).alloc (Nat.le_refl _) _
  have hkb := Box.new w1 #[.func (.func 157) #[] #[.pointer (some ⟨w.heap.size + 1, 0, none⟩), .pointer (some ⟨w.heap.size, 0, none⟩)]] 218
  have hz2 : (w1.alloc (.cells #[.func (.func 157) #[] #[.pointer (some ⟨w.heap.size + 1, 0, none⟩), .pointer (some ⟨w.heap.size, 0, none⟩)]] 218)).heap.size = w.heap.size + 3 := by simp; omega
  have hri2 : Rise (w.heap.size + 1) w.heap.size (w1.alloc (.cells #[.func (.func 157) #[] #[.pointer (some ⟨w.heap.size + 1, 0, none⟩), .pointer (some ⟨w.heap.size, 0, none⟩)]] 218)) none := hri.kept (hb2.block _ (by omega)) (hb2.block _ (by omega))
  have HC := hid (rlCell VT.Alike cellS (fun _ c => some c.text) (RiseK w1.heap.size (w.heap.size + 1) w.heap.size) (X3 rb (w.heap.size + 1) w.heap.size) none _ S rb L e 64 w1.heap.size (by omega) (Or.inl rfl) (fun k hk => by unfold X3 at hk; omega) (fun b hb => by have := HS.out b hb; omega) ⟨hkb, hri2⟩
    (fun W W' s hi h1 h2 h3 => ⟨hi.1.kept (h3 _ (by omega) (by omega)), hi.2.kept (h3 _ (by omega) (by omega)) (h3 _ (by omega) (by omega))⟩)
    (fun W s R hk hr hi => cell_item S rb w1.heap.size (w.heap.size + 1) w.heap.size W s R (fun b hb => by have := HS.out b hb; have := hk.size; omega) hi (by omega) (by omega) (by omega) (by omega) (by omega) (by omega) (fun hb => by have := HS.out _ hb; omega) (fun hb => by have := HS.out _ hb; omega) (by have := hk.size; omega) (by have := hk.size; omega) hr)
    ((HH.out.below hb1).below hb2))
  have HBB := hid (hb1.trans (hb2.mono (by omega)))
  clear hri hb1 HK hz1 hb2 hkb hz2 hri2
  go_wp2_with fail
  refine HC.out.mono ?_
  intro x w3 hP
  have hP2 : ListP elCell VT.Alike cellsS (fun y => y = rb) w S rb L e x w3 := hP.mono HBB.out (fun k hk hx => by unfold X3 at hx; omega)
  obtain ⟨l, R, e1, rfl, hin, hr⟩ := hP2
  have HF := hid (And.intro hin hr)
  clear hin hr HC hP
  go_wp2
  go_ret
  exact ⟨l, R, e1, rfl, HF.out.1, HF.out.2⟩
theorem gone_list (w : World) (S : Nat → Prop) (rb c0 c1 : Nat) (L : List Int) (e : Int) (hS : ∀ b, S b → b < w.heap.size) (hI : Rise c0 c1 w none) (hn : c0 ≠ c1) (hr0 : c0 ≠ rb) (hr1 : c1 ≠ rb) (hS0 : ¬ S c0) (hS1 : ¬ S c1) (hl0 : c0 < w.heap.size) (hl1 : c1 < w.heap.size) (h : Rdr w S rb L e) :
    Calls Try.prog 148 #[.pointer (some ⟨rb, 0, none⟩), .int .i64 64, .func (.func 157) #[] #[.pointer (some ⟨c0, 0, none⟩), .pointer (some ⟨c1, 0, none⟩)]] w fun x w' => ListP elStr (fun y u => u = y) goneS (X3 rb c0 c1) w S rb L e x w' :=
  rlStr (fun y u => u = y) riseS (fun _ k => some k) (Rise c0 c1) (X3 rb c0 c1) none w S rb L e 64 c0 c1 (by omega) (Or.inl rfl) (fun k hk => by unfold X3 at hk; have := h.lt; omega) hS hI
    (fun W W' s hi h1 h2 h3 => hi.kept (h3 _ hl0 hr0) (h3 _ hl1 hr1))
    (fun W s R hk hr hi => rise_item S rb c0 c1 W s R hi hn hr0 hr1 hS0 hS1 hr) h
theorem ST.ofLT {w : World} {S : Nat → Prop} {l : LT VT} {n : Nat} (h : LT.In elCell w S l) (hn : n ≤ 1073741824) : ST.In w S ⟨(n : Int), l.p, l.n, l.c, l.item⟩ := by
  refine ⟨fun hn => ?_, h.each, h.nc, h.nn, h.cc, by show _ ≤ (n : Int); omega, by show (n : Int) ≤ _; omega⟩
  obtain ⟨b, o, e, hS, hl, ha⟩ := h.at_ hn
  refine ⟨b, o, e, hS, hl, fun j hj => ?_⟩
  have hc : ∀ r u, (l.item j).two[r]? = some u → w.cell? ⟨b, o + j * 2 + r, none⟩ = some u := ha j hj
  exact ⟨hc 0 _ rfl, hc 1 _ rfl⟩
structure ST.In2 (w : World) (S : Nat → Prop) (s : ST) : Prop where
  i : ST.In w S s
  nil : s.p = none → s.n = 0 ∧ s.c = 0
theorem ST.In2.mono {w : World} {S S' : Nat → Prop} {s : ST} (h : ST.In2 w S s) (hb : ∀ b, S b → b < w.heap.size → S' b) : ST.In2 w S' s := ⟨h.i.mono hb, h.nil⟩
theorem ST.In2.but {w w' : World} {S X : Nat → Prop} {s : ST} (h : ST.In2 w S s) (hb : But X w w') (hx : ∀ b, S b → b < w.heap.size → ¬ X b) : ST.In2 w' S s := ⟨h.i.but hb hx, h.nil⟩
theorem ST.In2.below {w w' : World} {S : Nat → Prop} {s : ST} (h : ST.In2 w S s) (hb : Below w.heap.size w w') : ST.In2 w' S s := ⟨h.i.below hb, h.nil⟩
def StateP (w : World) (S : Nat → Prop) (rb : Nat) (L : List Int) (e : Int) (x : Ending) (w' : World) : Prop :=
  ∃ (t : ST) (R : List Int) (e' : Int), x = .returned t.val ∧ ST.In2 w' (fun b => w.heap.size ≤ b) t ∧ RdS stateS (fun y => ST.Alike y t) w S rb L e R e' w'
structure DT where
  num : Nat
  set : LT VT
  gone : LT ByteArray
def DT.val (d : DT) : Value := .agg #[.int .i64 (d.num : Int), .slice d.set.p d.set.n d.set.c, .slice d.gone.p d.gone.n d.gone.c]
structure DT.In (w : World) (S : Nat → Prop) (d : DT) : Prop where
  n : d.num ≤ 1073741824
  set : LT.In elCell w S d.set
  gone : LT.In elStr w S d.gone
theorem DT.In.mono {w : World} {S S' : Nat → Prop} {d : DT} (h : DT.In w S d) (hb : ∀ b, S b → b < w.heap.size → S' b) : DT.In w S' d := ⟨h.n, h.set.mono hb, h.gone.mono hb⟩
theorem DT.In.but {w w' : World} {S X : Nat → Prop} {d : DT} (h : DT.In w S d) (hb : But X w w') (hx : ∀ b, S b → b < w.heap.size → ¬ X b) : DT.In w' S d := ⟨h.n, h.set.but hb hx, h.gone.but hb hx⟩
def DT.Is (d : DT) (y : Nat × List VT × List ByteArray) : Prop := d.num = y.1 ∧ Isl VT.Alike d.set y.2.1 ∧ Isl (fun y u => u = y) d.gone y.2.2
def DeltaP (w : World) (S : Nat → Prop) (rb : Nat) (L : List Int) (e : Int) (x : Ending) (w' : World) : Prop :=
  ∃ (t : DT) (R : List Int) (e' : Int), x = .returned t.val ∧ DT.In w' (fun b => w.heap.size ≤ b) t ∧ RdS deltaS (fun y => t.Is y) w S rb L e R e' w'
end Go.Proofs.Ytikfpoabaaiegaa

namespace Go.Proofs.Ytikfpoabaaiegaa
open Go.RowKit
set_option maxRecDepth 8000
theorem alike_state {n : Nat} {l : List VT} {t : LT VT} (h : Isl VT.Alike t l) : ST.Alike (mkS n l) ⟨(n : Int), t.p, t.n, t.c, t.item⟩ := by
  refine ⟨rfl, h.1, fun j hj => ?_⟩
  have hj' : j < l.length := hj
  have := h.2 j l[j] (by rw [List.getElem?_eq_getElem hj'])
  show VT.Alike (l.getD j .nil) (t.item j)
  simpa [List.getD_eq_getElem?_getD, List.getElem?_eq_getElem hj'] using this
set_option maxHeartbeats 8000000 in
theorem wrState_any (w : World) (S : Nat → Prop) (rb : Nat) (L : List Int) (e : Int) (hS : ∀ b, S b → b < w.heap.size) (h : Rdr w S rb L e) : Calls Try.prog 75 #[.pointer (some ⟨rb, 0, none⟩)] w fun x w' => StateP w S rb L e x w' := by
  have hrl := h.lt
  obtain ⟨W0, hW0⟩ : ∃ W0, W0 = (w.alloc (.cells #[.int .i64 0, .slice none 0 0] 30)).alloc (.cells #[.int .i64 0, .slice none 0 0] 30) := ⟨_, rfl⟩
  have hb0 : Below w.heap.size w W0 := by rw [hW0]; exact ((Below.refl _ _).alloc (Nat.le_refl _) _).alloc (by simp) _
  have hv0 : Box W0 w.heap.size #[.int .i64 0, .slice none 0 0] 30 := by rw [hW0]; exact (Box.new w _ _).below ((Below.refl _ _).alloc (Nat.le_refl _) _)
  have hu0 : Box W0 (w.heap.size + 1) #[.int .i64 0, .slice none 0 0] 30 := by
    have := Box.new (w.alloc (.cells #[.int .i64 0, .slice none 0 0] 30)) #[.int .i64 0, .slice none 0 0] 30
    rw [show (w.alloc (.cells #[.int .i64 0, .slice none 0 0] 30)).heap.size = w.heap.size + 1 by simp] at this
    rw [hW0]; exact this
  have HS := hid hS
  have HB0 : Hid (But (fun y => y = rb) w W0) := But.ofBelow hb0
  have HV0 := hid hv0
  have HU0 := hid hu0
  have HD0 : Hid (Rdr W0 S rb L e) := h.below hb0
  have hsz0 := hu0.lt
  have HC1 := hid (wrNumber_any W0 S rb L e 1073741824 (by omega) HD0.out)
  rw [hW0] at HC1
  clear h hb0 hv0 hu0 hS
  go_enter Try.func75, Try.ntmps75
  go_wp2_with fail
  refine HC1.out.mono ?_
  rw [← hW0]
  rintro x1 V1 ⟨r1, R1, e1, rfl, ⟨hr1, hd1, hk1⟩, hm1, _⟩
  clear HC1
  have hkw1 := HB0.out.trans hk1
  have hv1 := HV0.out.but hk1 (by omega)
  have hu1 := HU0.out.but hk1 (by omega)
  have HR1 := hid hr1
  have HM1 := hid hm1
  have c0 := hu1.cell 0
  have f0 := hu1.frozen 0
  simp at c0
  have hus1_0 : Box _ (w.heap.size + 1) #[.int .i64 (r1 : Int), .slice none 0 0] 30 := hu1.set 0 (.int .i64 (r1 : Int))
  have hst1 : But (fun y => y = w.heap.size + 1) V1 (V1.setCell ⟨w.heap.size + 1, 0, none⟩ (.int .i64 (r1 : Int))) := (But.one V1 (w.heap.size + 1)).setAt 0 (.int .i64 (r1 : Int))
  have HV1 := hid (hv1.but hst1 (by omega))
  have HU1 := hid hus1_0
  have HB1 := hid (hkw1.new hst1 (by omega))
  have HD1 := hid (hd1.new (w := w) hst1 (by omega) hrl HS.out)
  have hsz1 := HU1.out.lt
  clear hr1 hd1 hk1 hkw1 hv1 hu1 hst1 hus1_0 hm1
  have HC2 := hid (wrCells_any (V1.setCell ⟨w.heap.size + 1, 0, none⟩ (.int .i64 (r1 : Int))) S rb R1 e1 (fun b hb => by have := HS.out b hb; omega) HD1.out)
  go_wp2_with fail
  refine HC2.out.mono ?_
  rintro x2 V2 ⟨t2, R2, e2, rfl, hin2, ⟨hr2, hd2, hk2⟩⟩
  clear HC2
  have hkw2 := HB1.out.trans hk2
  have hv2 := HV1.out.but hk2 (by omega)
  have hu2 := HU1.out.but hk2 (by omega)
  have HR2 := hid hr2
  have c0 := hu2.cell 0
  have f0 := hu2.frozen 0
  simp at c0
  have c1 := hu2.cell 1
  have f1 := hu2.frozen 1
  simp at c1
  have d0 := hv2.cell 0
  have g0 := hv2.frozen 0
  simp at d0
  have d1 := hv2.cell 1
  have g1 := hv2.frozen 1
  simp at d1
  have hus2_0 : Box _ (w.heap.size + 1) #[.int .i64 (r1 : Int), .slice t2.p t2.n t2.c] 30 := hu2.set 1 (.slice t2.p t2.n t2.c)
  have hst2 : But (fun y => y = w.heap.size + 1) V2 (V2.setCell ⟨w.heap.size + 1, 1, none⟩ (.slice t2.p t2.n t2.c)) := (But.one V2 (w.heap.size + 1)).setAt 1 (.slice t2.p t2.n t2.c)
  have HV2 := hid (hv2.but hst2 (by omega))
  have HU2 := hid hus2_0
  have HB2 := hid (hkw2.new hst2 (by omega))
  have HD2 := hid (hd2.new (w := w) hst2 (by omega) hrl HS.out)
  have hin2b := hin2.mono (S' := fun b => w.heap.size + 2 ≤ b) (fun b hb _ => by omega)
  have HI2_2 := hid (hin2b.but hst2 (fun b hb _ e => by omega))
  have hsz2 := HU2.out.lt
  have zz := set2_box HV2.out (.int .i64 (r1 : Int)) (.slice t2.p t2.n t2.c)
  have r0' := zz.cell 0
  have r1' := zz.cell 1
  simp only [List.getElem?_toArray, List.getElem?_cons_zero, List.getElem?_cons_succ] at r0'  r1' 
  have HZ := hid (And.intro r0' (r1'))
  clear hr2 hd2 hk2 hkw2 hv2 hu2 hst2 hus2_0 hin2 hin2b zz r0' r1'
  go_wp2
  obtain ⟨r0' , r1' ⟩ := HZ.out
  have hfin := But.sets2 (V2.setCell ⟨w.heap.size + 1, 1, none⟩ (.slice t2.p t2.n t2.c)) w.heap.size (.int .i64 (r1 : Int)) (.slice t2.p t2.n t2.c)
  have HBf := HB2.out.new hfin (Nat.le_refl _)
  have HDf := HD2.out.new (w := w) hfin (Nat.le_refl _) hrl HS.out
  have HF2 := (HI2_2.out.but hfin (fun b hb _ e => by omega)).mono (S' := fun b => w.heap.size ≤ b) (fun b hb _ => by omega)
  refine bodyPost_ret (v := .agg #[.int .i64 (r1 : Int), .slice t2.p t2.n t2.c]) (by simp [results, Try.results75, go_sem, r0' , r1' ]) rfl ?_
  refine ⟨⟨(r1 : Int), t2.p, t2.n, t2.c, t2.item⟩, R2, e2, rfl, ⟨ST.ofLT HF2 HM1.out, HF2.nil⟩, ⟨HR1.out.bind (fun y hy _ => ?_) HR2.out.stay, HDf, HBf⟩⟩
  subst hy
  exact HR2.out.map fun _ y2 h2 => alike_state h2
set_option maxHeartbeats 8000000 in
theorem wrDelta_any (w : World) (S : Nat → Prop) (rb : Nat) (L : List Int) (e : Int) (hS : ∀ b, S b → b < w.heap.size) (h : Rdr w S rb L e) : Calls Try.prog 122 #[.pointer (some ⟨rb, 0, none⟩)] w fun x w' => DeltaP w S rb L e x w' := by
  have hrl := h.lt
  obtain ⟨W0, hW0⟩ : ∃ W0, W0 = (w.alloc (.cells #[.int .i64 0, .slice none 0 0, .slice none 0 0] 34)).alloc (.cells #[.int .i64 0, .slice none 0 0, .slice none 0 0] 34) := ⟨_, rfl⟩
  have hb0 : Below w.heap.size w W0 := by rw [hW0]; exact ((Below.refl _ _).alloc (Nat.le_refl _) _).alloc (by simp) _
  have hv0 : Box W0 w.heap.size #[.int .i64 0, .slice none 0 0, .slice none 0 0] 34 := by rw [hW0]; exact (Box.new w _ _).below ((Below.refl _ _).alloc (Nat.le_refl _) _)
  have hu0 : Box W0 (w.heap.size + 1) #[.int .i64 0, .slice none 0 0, .slice none 0 0] 34 := by
    have := Box.new (w.alloc (.cells #[.int .i64 0, .slice none 0 0, .slice none 0 0] 34)) #[.int .i64 0, .slice none 0 0, .slice none 0 0] 34
    rw [show (w.alloc (.cells #[.int .i64 0, .slice none 0 0, .slice none 0 0] 34)).heap.size = w.heap.size + 1 by simp] at this
    rw [hW0]; exact this
  have HS := hid hS
  have HB0 : Hid (But (fun y => y = rb) w W0) := But.ofBelow hb0
  have HV0 := hid hv0
  have HU0 := hid hu0
  have HD0 : Hid (Rdr W0 S rb L e) := h.below hb0
  have hsz0 := hu0.lt
  have HC1 := hid (wrNumber_any W0 S rb L e 1073741824 (by omega) HD0.out)
  rw [hW0] at HC1
  clear h hb0 hv0 hu0 hS
  go_enter Try.func122, Try.ntmps122
  go_wp2_with fail
  refine HC1.out.mono ?_
  rw [← hW0]
  rintro x1 V1 ⟨r1, R1, e1, rfl, ⟨hr1, hd1, hk1⟩, hm1, _⟩
  clear HC1
  have hkw1 := HB0.out.trans hk1
  have hv1 := HV0.out.but hk1 (by omega)
  have hu1 := HU0.out.but hk1 (by omega)
  have HR1 := hid hr1
  have HM1 := hid hm1
  have c0 := hu1.cell 0
  have f0 := hu1.frozen 0
  simp at c0
  have hus1_0 : Box _ (w.heap.size + 1) #[.int .i64 (r1 : Int), .slice none 0 0, .slice none 0 0] 34 := hu1.set 0 (.int .i64 (r1 : Int))
  have hst1 : But (fun y => y = w.heap.size + 1) V1 (V1.setCell ⟨w.heap.size + 1, 0, none⟩ (.int .i64 (r1 : Int))) := (But.one V1 (w.heap.size + 1)).setAt 0 (.int .i64 (r1 : Int))
  have HV1 := hid (hv1.but hst1 (by omega))
  have HU1 := hid hus1_0
  have HB1 := hid (hkw1.new hst1 (by omega))
  have HD1 := hid (hd1.new (w := w) hst1 (by omega) hrl HS.out)
  have hsz1 := HU1.out.lt
  clear hr1 hd1 hk1 hkw1 hv1 hu1 hst1 hus1_0 hm1
  have HC2 := hid (wrCells_any (V1.setCell ⟨w.heap.size + 1, 0, none⟩ (.int .i64 (r1 : Int))) S rb R1 e1 (fun b hb => by have := HS.out b hb; omega) HD1.out)
  go_wp2_with fail
  refine HC2.out.mono ?_
  rintro x2 V2 ⟨t2, R2, e2, rfl, hin2, ⟨hr2, hd2, hk2⟩⟩
  clear HC2
  have hkw2 := HB1.out.trans hk2
  have hv2 := HV1.out.but hk2 (by omega)
  have hu2 := HU1.out.but hk2 (by omega)
  have HR2 := hid hr2
  have c1 := hu2.cell 1
  have f1 := hu2.frozen 1
  simp at c1
  have hus2_0 : Box _ (w.heap.size + 1) #[.int .i64 (r1 : Int), .slice t2.p t2.n t2.c, .slice none 0 0] 34 := hu2.set 1 (.slice t2.p t2.n t2.c)
  have hst2 : But (fun y => y = w.heap.size + 1) V2 (V2.setCell ⟨w.heap.size + 1, 1, none⟩ (.slice t2.p t2.n t2.c)) := (But.one V2 (w.heap.size + 1)).setAt 1 (.slice t2.p t2.n t2.c)
  have HV2 := hid (hv2.but hst2 (by omega))
  have HU2 := hid hus2_0
  have HB2 := hid (hkw2.new hst2 (by omega))
  have HD2 := hid (hd2.new (w := w) hst2 (by omega) hrl HS.out)
  have hin2b := hin2.mono (S' := fun b => w.heap.size + 2 ≤ b) (fun b hb _ => by omega)
  have HI2_2 := hid (hin2b.but hst2 (fun b hb _ e => by omega))
  have hsz2 := HU2.out.lt
  clear hr2 hd2 hk2 hkw2 hv2 hu2 hst2 hus2_0 hin2 hin2b
  have HK3 := fun W => keys_any W
  go_wp2_with fail
  refine (HK3 _).mono ?_
  rintro xk Vk ⟨rfl, hri, hbk, hzk⟩
  have hsk := hsz2
  have HC3 := hid (gone_list Vk S rb ((V2.setCell ⟨w.heap.size + 1, 1, none⟩ (.slice t2.p t2.n t2.c)).heap.size + 1) (V2.setCell ⟨w.heap.size + 1, 1, none⟩ (.slice t2.p t2.n t2.c)).heap.size R2 e2 (fun b hb => by have := HS.out b hb; omega) hri (by omega) (by omega) (by omega) (fun hb => by have := HS.out _ hb; omega) (fun hb => by have := HS.out _ hb; omega) (by omega) (by omega) (HD2.out.below hbk))
  simp only [World.size_setCell] at HC3
  have hcs : (V2.setCell ⟨w.heap.size + 1, 1, none⟩ (.slice t2.p t2.n t2.c)).heap.size = V2.heap.size := by simp only [World.size_setCell]
  have HBk := hid hbk
  clear hri hbk HK3 hzk hsk
  go_wp2_with fail
  refine HC3.out.mono ?_
  intro x3 V3 hP
  have hP2 : ListP elStr (fun y u => u = y) goneS (fun y => y = rb) (V2.setCell ⟨w.heap.size + 1, 1, none⟩ (.slice t2.p t2.n t2.c)) S rb R2 e2 x3 V3 := hP.mono HBk.out (fun k hk hx => by unfold X3 at hx; omega)
  clear hP HBk HC3 hcs
  obtain ⟨t3, R3, e3, rfl, hin3, ⟨hr3, hd3, hk3⟩⟩ := hP2
  have hkw3 := HB2.out.trans hk3
  have hv3 := HV2.out.but hk3 (by omega)
  have hu3 := HU2.out.but hk3 (by omega)
  have hi2_3 := HI2_2.out.but hk3 (fun b hb _ e => by omega)
  have HR3 := hid hr3
  have c0 := hu3.cell 0
  have f0 := hu3.frozen 0
  simp at c0
  have c1 := hu3.cell 1
  have f1 := hu3.frozen 1
  simp at c1
  have c2 := hu3.cell 2
  have f2 := hu3.frozen 2
  simp at c2
  have d0 := hv3.cell 0
  have g0 := hv3.frozen 0
  simp at d0
  have d1 := hv3.cell 1
  have g1 := hv3.frozen 1
  simp at d1
  have d2 := hv3.cell 2
  have g2 := hv3.frozen 2
  simp at d2
  have hus3_0 : Box _ (w.heap.size + 1) #[.int .i64 (r1 : Int), .slice t2.p t2.n t2.c, .slice t3.p t3.n t3.c] 34 := hu3.set 2 (.slice t3.p t3.n t3.c)
  have hst3 : But (fun y => y = w.heap.size + 1) V3 (V3.setCell ⟨w.heap.size + 1, 2, none⟩ (.slice t3.p t3.n t3.c)) := (But.one V3 (w.heap.size + 1)).setAt 2 (.slice t3.p t3.n t3.c)
  have HV3 := hid (hv3.but hst3 (by omega))
  have HU3 := hid hus3_0
  have HB3 := hid (hkw3.new hst3 (by omega))
  have HD3 := hid (hd3.new (w := w) hst3 (by omega) hrl HS.out)
  have HI2_3 := hid (hi2_3.but hst3 (fun b hb _ e => by omega))
  have hin3b := hin3.mono (S' := fun b => w.heap.size + 2 ≤ b) (fun b hb _ => by omega)
  have HI3_3 := hid (hin3b.but hst3 (fun b hb _ e => by omega))
  have hsz3 := HU3.out.lt
  have zz := set3_box HV3.out (.int .i64 (r1 : Int)) (.slice t2.p t2.n t2.c) (.slice t3.p t3.n t3.c)
  have r0' := zz.cell 0
  have r1' := zz.cell 1
  have r2' := zz.cell 2
  simp only [List.getElem?_toArray, List.getElem?_cons_zero, List.getElem?_cons_succ] at r0'  r1'  r2' 
  have HZ := hid (And.intro r0' (And.intro r1' (r2')))
  clear hr3 hd3 hk3 hkw3 hv3 hu3 hi2_3 hst3 hus3_0 hin3 hin3b zz r0' r1' r2'
  go_wp2
  obtain ⟨r0' , r1' , r2' ⟩ := HZ.out
  have hfin := But.sets3 (V3.setCell ⟨w.heap.size + 1, 2, none⟩ (.slice t3.p t3.n t3.c)) w.heap.size (.int .i64 (r1 : Int)) (.slice t2.p t2.n t2.c) (.slice t3.p t3.n t3.c)
  have HBf := HB3.out.new hfin (Nat.le_refl _)
  have HDf := HD3.out.new (w := w) hfin (Nat.le_refl _) hrl HS.out
  have HF2 := (HI2_3.out.but hfin (fun b hb _ e => by omega)).mono (S' := fun b => w.heap.size ≤ b) (fun b hb _ => by omega)
  have HF3 := (HI3_3.out.but hfin (fun b hb _ e => by omega)).mono (S' := fun b => w.heap.size ≤ b) (fun b hb _ => by omega)
  refine bodyPost_ret (v := DT.val ⟨r1, t2, t3⟩) (by simp [results, Try.results122, go_sem, DT.val, r0' , r1' , r2' ]) rfl ?_
  refine ⟨⟨r1, t2, t3⟩, R3, e3, rfl, ⟨HM1.out, HF2, HF3⟩, ⟨HR1.out.bind (fun y hy _ => ?_) (RR.stay2 HR2.out.stay HR3.out.stay), HDf, HBf⟩⟩
  subst hy
  refine HR2.out.bind (fun y2 hy2 _ => ?_) HR3.out.stay
  exact HR3.out.map fun _ y3 h3 => ⟨rfl, hy2, h3⟩
end Go.Proofs.Ytikfpoabaaiegaa

namespace Go.Proofs.Ytikfpoabaaiegaa
open Go.RowKit
set_option maxRecDepth 8000
theorem kindRs : ∃ i, Kind 35 36 i (.slice none 0 0) 1 24 := by
  obtain ⟨i0, hi, hz0, hz1, hz2⟩ := info_parts (show (Try.prog.info? 36).map (fun i => (i.zero, i.size, i.bytes)) = some (some (.slice none 0 0), 1, 24) by kernel_rfl)
  exact ⟨i0, Try.underlying35, hi, hz0, hz1, hz2, rfl, by decide⟩
set_option maxHeartbeats 4000000 in
theorem rlRecs {σ : Type} (Al : LT RT → LT RT → Prop) (item : σ → RS (LT RT)) (nx : σ → LT RT → σ) (Inv : World → σ → Prop) (X : Nat → Prop) (s0 : σ) (w : World) (S : Nat → Prop) (rb : Nat) (L : List Int) (e : Int) (bound : Nat) (hb : bound ≤ 1000) (hXr : X rb) (hX : ∀ k, X k → k < w.heap.size) (hS : ∀ b, S b → b < w.heap.size) (h0 : Inv w s0)
    (hInv : ∀ W W' s, Inv W s → w.heap.size ≤ W.heap.size → W.heap.size ≤ W'.heap.size → (∀ k, k < w.heap.size → k ≠ rb → W'.heap[k]? = W.heap[k]?) → Inv W' s)
    (HIt : ∀ W s R, But X w W → Rdr W S rb R 0 → Inv W s → Calls Try.prog 124 #[.pointer (some ⟨rb, 0, none⟩)] W fun x W' => ItemP elRecs (fun u => .slice u.p u.n u.c) Al item nx Inv X S rb s R W x W')
    (h : Rdr w S rb L e) : Calls Try.prog 123 #[.pointer (some ⟨rb, 0, none⟩), .int .i64 bound, .func (.func 124) #[] #[]] w fun x w' => ListP elRecs Al (listS bound item nx s0) X w S rb L e x w' := by
  obtain ⟨i0, Kd⟩ := kindRs
  have HN := hid (wrNumber_any w S rb L e bound (by omega) h)
  have hrl := h.lt
  have HIt := hid HIt
  have HInv := hid hInv
  have H0 := hid h0
  have HX := hid hX
  have HS := hid hS
  have HKd := hid Kd
  clear h hInv h0 hX hS Kd
  go_enter Try.func123, Try.ntmps123
  go_wp2_with fail
  refine HN.out.mono ?_
  rintro x w1 ⟨m, R0, e1, rfl, ⟨hrr, hrd, hkp⟩, hm, hm0⟩
  have HRR := hid hrr
  have HRd := hid hrd
  have hkx : But X w w1 := hkp.mono fun k _ e => by subst e; exact hXr
  have HKp := hid hkp
  have HKx := hid hkx
  have hws := hkp.size
  clear hrr hrd hkp hkx HN
  by_cases he1 : e1 = 0
  · subst he1
    clear hm0
    go_wp2_with (at_make; refine wpList_make_own _ rfl _ _ 35 rfl w.heap.size 36 i0 (.slice none 0 0) 1 HKd.out.ht HKd.out.hi HKd.out.hz HKd.out.hsize _ _ _ m rfl rfl rfl (by rw [HKd.out.hby]; omega) (by unfold maxLen; omega) (by omega) ?_)
    intro w2 ho2 hg2
    have hb2 : Below w1.heap.size w1 w2 := ⟨hg2.os, hg2.tape, hg2.output, hg2.size, fun k hk => hg2.block k hk (by simp)⟩
    have hst : ∀ g, LInv elRecs Al item nx Inv X w S rb R0 s0 0 (.slice (some ⟨w1.heap.size, 0, none⟩) 0 m) w2 s0 g R0 [] := fun g => LInv.start g ho2 hg2 HRd.out HKx.out (HInv.out w w2 s0 H0.out (Nat.le_refl _) (by have := hg2.size; omega) (fun k hk hne => (hb2.block k (by omega)).trans (HKp.out.block k hk hne)))
    have HSt := hid hst
    clear ho2 hg2 hb2 hst
    go_wp2_with fail
    go_loopw [8, 15] (fun v x wr => ∃ (j : Nat) (s : σ) (g : Nat → LT RT) (R : List Int) (ys : List (LT RT)), j ≤ m ∧ x = .int .i64 (j : Int) ∧ LInv elRecs Al item nx Inv X w S rb R0 s0 j v wr s g R ys) (fun _ x _ => m - (intOf x).toNat)
    case atStart => exact ⟨0, s0, fun _ => ⟨none, 0, 0, fun _ => ⟨⟨#[]⟩, .nil, none, 0, 0, fun _ => 0⟩⟩, R0, [], Nat.zero_le _, rfl, HSt.out _⟩
    case round =>
      obtain ⟨j, s, g, R, ys, hj, rfl, hL⟩ := hrel
      have HL := hid hL
      clear hL
      by_cases hlt : j < m
      · have hlt' : (j : Int) < (m : Int) := by omega
        have HC := hid (HIt.out wr s R HL.out.kp HL.out.rd HL.out.inv)
        go_wp2_with fail
        refine HC.out.mono ?_
        rintro x w4 ⟨u, R', e', rfl, hu, hR⟩
        have hsz : w.heap.size ≤ w4.heap.size := Nat.le_trans HL.out.kp.size hR.kp.size
        have hrow : w4.ownsRow w.heap.size 36 1 u8 j ((List.range j).flatMap fun j => (elRecs).cells (g j)) := ownsRow_keep HL.out.own.own fun k hk hl => hR.kp.block k hl (fun hx => by have := HX.out k hx; have := (HL.out.own.own.lt k hk).1; omega)
        have HU := hid hu
        have HR := hid hR
        have HRow := hid hrow
        clear hu hR hrow HC
        go_wp2_with (at_builtin; refine wpList_app rfl (.tmp 17) (.tmp 21) 35 36 i0 _ 1 24 HKd.out rfl w.heap.size u8 j _ rfl (HRow.out.alloc _) ⟨w4.heap.size, 0, none⟩ 1 1 ([.slice u.p u.n u.c]) rfl rfl (cell_one_new _ _ _) ((elRecs).one u) (by omega) (by omega) (by simp; omega) ?_)
        intro v3 w3 ho3 hg3 hn3
        by_cases he' : e' = 0
        · subst he'
          obtain ⟨s2, ys2, hL2⟩ := HL.out.step HU.out HR.out HX.out HS.out hrl HInv.out ho3 hg3 hn3
          obtain ⟨⟨p2, hx2, hy2⟩, hout⟩ := id hL2.rd
          have y1 := hx2.cell 1
          simp at y1
          have HL2 := hid hL2
          clear ho3 hg3 hn3 hL2 hx2 hy2 HRow HU HR
          go_wp2
          go_roundw
          case rel => exact ⟨j + 1, s2, _, R', ys2, by omega, by go_num, HL2.out⟩
          case measure => simp [intOf]; omega
        · have hlt4 : ∀ k, u8.ownBlock = some k → w.heap.size ≤ k := fun k hk => (HRow.out.lt k hk).1
          have hal : Below w4.heap.size w4 (w4.alloc (.cells #[.slice u.p u.n u.c] 36)) := (Below.refl _ _).alloc (Nat.le_refl _) _
          have hkb : ∀ k, k < w.heap.size → w3.heap[k]? = w4.heap[k]? := fun k hk => (hg3.block k (by have := hal.size; omega) (fun e => by have := hlt4 k e.symm; omega)).trans (hal.block k (by omega))
          have hs3 : w4.heap.size ≤ w3.heap.size := Nat.le_trans hal.size hg3.size
          have hrd3 : Rdr w3 S rb R' e' := by
            obtain ⟨⟨p, hx, hy⟩, hout⟩ := HR.out.rd
            exact ⟨⟨p, hx.kept (hkb rb hrl), hy.kept hs3 fun b hb _ => hkb b (HS.out b hb)⟩, hout⟩
          have hk3 : But X w w3 := ⟨hg3.os.trans (HR.out.kp.os.trans HL.out.kp.os), hg3.tape.trans (HR.out.kp.tape.trans HL.out.kp.tape), hg3.output.trans (HR.out.kp.output.trans HL.out.kp.output), by omega, fun k hk hx => (hkb k hk).trans ((HR.out.kp.block k (Nat.lt_of_lt_of_le hk HL.out.kp.size) hx).trans (HL.out.kp.block k hk hx))⟩
          have HF := hid (LInv.fail HL.out HR.out he' hlt HRR.out hk3 hrd3 (LT.In.none_ _ _ _ none 0 g (Nat.zero_le _) (fun _ => rfl)))
          obtain ⟨⟨p2, hx2, hy2⟩, hout⟩ := id hrd3
          have y1 := hx2.cell 1
          simp at y1
          have he2 : (e' == 0) = false := by simpa using he'
          clear ho3 hg3 hn3 hx2 hy2 HRow HU HR hlt4 hal hkb hs3 hrd3 hk3
          go_wp2
          go_ret
          exact HF.out
      · obtain rfl : j = m := by omega
        have hlt' : ¬ (j : Int) < (j : Int) := by omega
        have HF := hid (HL.out.done (by omega) HRR.out)
        go_wp2
        go_ret
        exact HF.out
  · obtain rfl := hm0 he1
    go_wp2_with (at_make; refine wpList_make_own _ rfl _ _ 35 rfl w.heap.size 36 i0 (.slice none 0 0) 1 HKd.out.ht HKd.out.hi HKd.out.hz HKd.out.hsize _ _ _ 0 rfl rfl rfl (by omega) (by unfold maxLen; omega) (by omega) ?_)
    intro w2 ho2 hg2
    have hb2 : Below w1.heap.size w1 w2 := ⟨hg2.os, hg2.tape, hg2.output, hg2.size, fun k hk => hg2.block k hk (by simp)⟩
    have HF := hid (list_none (E := elRecs) (Al := Al) (item := item) (nx := nx) (s0 := s0) (p := some ⟨w1.heap.size, 0, none⟩) (g := fun _ => ⟨none, 0, 0, fun _ => ⟨⟨#[]⟩, .nil, none, 0, 0, fun _ => 0⟩⟩) he1 HRR.out (HRd.out.below hb2) (HKx.out.trans (But.ofBelow hb2)))
    clear ho2 hg2 hb2
    go_wp2_with fail
    go_loopw [8, 15] (fun v x wr => v = .slice (some ⟨w1.heap.size, 0, none⟩) 0 0 ∧ x = .int .i64 0 ∧ wr = w2) (fun _ x _ => 0 - (intOf x).toNat)
    case atStart => exact ⟨rfl, rfl, rfl⟩
    case round =>
      obtain ⟨rfl, rfl, rfl⟩ := hrel
      go_wp2
      go_ret
      exact HF.out
end Go.Proofs.Ytikfpoabaaiegaa
