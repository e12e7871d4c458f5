import Derived.Test.YtikfpoabaaiegaaPack7
namespace Go.Proofs.Ytikfpoabaaiegaa
open Go.RowKit
set_option maxRecDepth 8000

theorem But.new {X : Nat → Prop} {w w1 w2 : World} {b : Nat} (h : But X w w1) (hk : But (fun y => y = b) w1 w2) (hb : w.heap.size ≤ b) : But X w w2 :=
  ⟨hk.os.trans h.os, hk.tape.trans h.tape, hk.output.trans h.output, Nat.le_trans h.size hk.size, fun j hj hx => (hk.block j (Nat.lt_of_lt_of_le hj h.size) (by omega)).trans (h.block j hj hx)⟩
theorem Rdr.new {w w1 w2 : World} {S : Nat → Prop} {rb b : Nat} {L : List Int} {e : Int} (h : Rdr w1 S rb L e) (hk : But (fun y => y = b) w1 w2) (hb : w.heap.size ≤ b) (hr : rb < w.heap.size) (hS : ∀ b, S b → b < w.heap.size) : Rdr w2 S rb L e :=
  h.but hk (by omega) (fun c hc _ e => by have := hS c hc; omega)

theorem hop_item (S : Nat → Prop) (rb : Nat) (W : World) (R : List Int) (h : Rdr W S rb R 0) : Calls Try.prog 130 #[.pointer (some ⟨rb, 0, none⟩)] W fun x W' => ItemP elInt (fun u => .int .i64 u) (fun y u => u = y) (fun _ : Unit => hopI) (fun _ _ => ()) (fun _ _ => True) (fun y => y = rb) S rb () R W x W' := by
  refine (wrHop_any W S rb R 0 h).mono ?_
  rintro x w1 ⟨r, R1, e1, rfl, ⟨hr, hd, hk⟩, hm, _⟩
  refine ⟨(r : Int), R1, e1, rfl, ⟨by omega, by omega⟩, hr.map fun _ y hy => ⟨by rw [hy], trivial⟩, hd, hk⟩
theorem hops_any (w : World) (S : Nat → Prop) (rb : Nat) (L : List Int) (e : Int) (hS : ∀ b, S b → b < w.heap.size) (h : Rdr w S rb L e) : Calls Try.prog 129 #[.pointer (some ⟨rb, 0, none⟩), .int .i64 3, .func (.func 130) #[] #[]] w fun x w' => ListP elInt (fun y u => u = y) (listS 3 (fun _ : Unit => hopI) (fun _ _ => ()) ()) (fun y => y = rb) w S rb L e x w' :=
  rlInt (fun y u => u = y) (fun _ : Unit => hopI) (fun _ _ => ()) (fun _ _ => True) (fun y => y = rb) () w S rb L e 3 (by omega) rfl (fun k hk => by subst hk; exact h.lt) hS trivial (fun _ _ _ _ _ _ _ => trivial) (fun W _ R _ hr _ => hop_item S rb W R hr) h

def RecP (w : World) (S : Nat → Prop) (rb : Nat) (L : List Int) (e : Int) (x : Ending) (w' : World) : Prop :=
  ∃ (r : RT) (R : List Int) (e' : Int), x = .returned r.val ∧ RT.In w' (fun b => w.heap.size ≤ b) r ∧ RdS recS (fun y => RT.Alike y r) w S rb L e R e' w'
theorem Ints.ofLT {w : World} {S : Nat → Prop} {l : LT Int} (h : LT.In elInt w S l) : Ints w S l.p l.n l.c l.item := by
  refine ⟨fun hn => ?_, h.nc, h.nn, h.cc, h.each, h.nil⟩
  obtain ⟨b, o, e, hS, hl, ha⟩ := h.at_ hn
  refine ⟨b, o, e, hS, hl, fun j hj => ?_⟩
  have := ha j hj 0 _ rfl
  simpa [elInt] using this
theorem RR.stay2 {e1 e2 e3 : Int} (h2 : e1 ≠ 0 → e2 = e1) (h3 : e2 ≠ 0 → e3 = e2) : e1 ≠ 0 → e3 = e1 := fun h => (h3 (by rw [h2 h]; exact h)).trans (h2 h)
end Go.Proofs.Ytikfpoabaaiegaa

namespace Go.Proofs.Ytikfpoabaaiegaa
open Go.RowKit
set_option maxRecDepth 8000
theorem set6_box {w : World} {b : Nat} {a0 a1 a2 a3 a4 a5 : Value} {e : TypeId} (h : Box w b #[a0, a1, a2, a3, a4, a5] e) (x0 x1 x2 x3 x4 x5 : Value) : Box ((((((w.setCell ⟨b, 0, none⟩ x0).setCell ⟨b, 1, none⟩ x1).setCell ⟨b, 2, none⟩ x2).setCell ⟨b, 3, none⟩ x3).setCell ⟨b, 4, none⟩ x4).setCell ⟨b, 5, none⟩ x5) b #[x0, x1, x2, x3, x4, x5] e := by
  have h0 : Box _ b #[x0, a1, a2, a3, a4, a5] e := h.set 0 x0
  have h1 : Box _ b #[x0, x1, a2, a3, a4, a5] e := h0.set 1 x1
  have h2 : Box _ b #[x0, x1, x2, a3, a4, a5] e := h1.set 2 x2
  have h3 : Box _ b #[x0, x1, x2, x3, a4, a5] e := h2.set 3 x3
  have h4 : Box _ b #[x0, x1, x2, x3, x4, a5] e := h3.set 4 x4
  have h5 : Box _ b #[x0, x1, x2, x3, x4, x5] e := h4.set 5 x5
  exact h5
theorem But.sets6 (w : World) (b : Nat) (x0 x1 x2 x3 x4 x5 : Value) : But (fun y => y = b) w ((((((w.setCell ⟨b, 0, none⟩ x0).setCell ⟨b, 1, none⟩ x1).setCell ⟨b, 2, none⟩ x2).setCell ⟨b, 3, none⟩ x3).setCell ⟨b, 4, none⟩ x4).setCell ⟨b, 5, none⟩ x5) := ((((((But.one w b).setAt 0 x0).setAt 1 x1).setAt 2 x2).setAt 3 x3).setAt 4 x4).setAt 5 x5
set_option maxHeartbeats 8000000 in
theorem wrRecord_any (w : World) (S : Nat → Prop) (rb : Nat) (L : List Int) (e : Int) (hS : ∀ b, S b → b < w.heap.size) (h : Rdr w S rb L e) : Calls Try.prog 83 #[.pointer (some ⟨rb, 0, none⟩)] w fun x w' => RecP w S rb L e x w' := by
  have hrl := h.lt
  obtain ⟨W0, hW0⟩ : ∃ W0, W0 = (w.alloc (.cells #[.string ⟨#[]⟩, .int .i64 0, .int .i64 0, .string ⟨#[]⟩, .slice none 0 0, .slice none 0 0] 27)).alloc (.cells #[.string ⟨#[]⟩, .int .i64 0, .int .i64 0, .string ⟨#[]⟩, .slice none 0 0, .slice none 0 0] 27) := ⟨_, rfl⟩
  have hb0 : Below w.heap.size w W0 := by rw [hW0]; exact ((Below.refl _ _).alloc (Nat.le_refl _) _).alloc (by simp) _
  have hv0 : Box W0 w.heap.size #[.string ⟨#[]⟩, .int .i64 0, .int .i64 0, .string ⟨#[]⟩, .slice none 0 0, .slice none 0 0] 27 := by rw [hW0]; exact (Box.new w _ _).below ((Below.refl _ _).alloc (Nat.le_refl _) _)
  have hu0 : Box W0 (w.heap.size + 1) #[.string ⟨#[]⟩, .int .i64 0, .int .i64 0, .string ⟨#[]⟩, .slice none 0 0, .slice none 0 0] 27 := by
    have := Box.new (w.alloc (.cells #[.string ⟨#[]⟩, .int .i64 0, .int .i64 0, .string ⟨#[]⟩, .slice none 0 0, .slice none 0 0] 27)) #[.string ⟨#[]⟩, .int .i64 0, .int .i64 0, .string ⟨#[]⟩, .slice none 0 0, .slice none 0 0] 27
    rw [show (w.alloc (.cells #[.string ⟨#[]⟩, .int .i64 0, .int .i64 0, .string ⟨#[]⟩, .slice none 0 0, .slice none 0 0] 27)).heap.size = w.heap.size + 1 by simp] at this
    rw [hW0]; exact this
  have HS := hid hS
  have HB0 : Hid (But (fun y => y = rb) w W0) := But.ofBelow hb0
  have HV0 := hid hv0
  have HU0 := hid hu0
  have HD0 : Hid (Rdr W0 S rb L e) := h.below hb0
  have hsz0 := hu0.lt
  have HC1 := hid (wrKey_any W0 S rb L e HD0.out)
  rw [hW0] at HC1
  clear h hb0 hv0 hu0 hS
  go_enter Try.func83, Try.ntmps83
  go_wp2_with fail
  refine HC1.out.mono ?_
  rw [← hW0]
  rintro x1 V1 ⟨k1, R1, e1, rfl, ⟨hr1, hd1, hk1⟩, hm1⟩
  clear HC1
  have hkw1 := HB0.out.trans hk1
  have hv1 := HV0.out.but hk1 (by omega)
  have hu1 := HU0.out.but hk1 (by omega)
  have HR1 := hid hr1
  have HM1 := hid hm1
  have c0 := hu1.cell 0
  have f0 := hu1.frozen 0
  simp at c0
  have hus1_0 : Box _ (w.heap.size + 1) #[.string k1, .int .i64 0, .int .i64 0, .string ⟨#[]⟩, .slice none 0 0, .slice none 0 0] 27 := hu1.set 0 (.string k1)
  have hst1 : But (fun y => y = w.heap.size + 1) V1 (V1.setCell ⟨w.heap.size + 1, 0, none⟩ (.string k1)) := (But.one V1 (w.heap.size + 1)).setAt 0 (.string k1)
  have HV1 := hid (hv1.but hst1 (by omega))
  have HU1 := hid hus1_0
  have HB1 := hid (hkw1.new hst1 (by omega))
  have HD1 := hid (hd1.new (w := w) hst1 (by omega) hrl HS.out)
  have hsz1 := HU1.out.lt
  clear hr1 hd1 hk1 hkw1 hv1 hu1 hst1 hus1_0 hm1
  have HC2 := hid (wrValue_any (V1.setCell ⟨w.heap.size + 1, 0, none⟩ (.string k1)) S rb R1 e1 (fun b hb => by have := HS.out b hb; omega) HD1.out)
  go_wp2_with fail
  refine HC2.out.mono ?_
  rintro x2 V2 ⟨t2, R2, e2, rfl, hin2, ⟨hr2, hd2, hk2⟩⟩
  clear HC2
  have hkw2 := HB1.out.trans hk2
  have hv2 := HV1.out.but hk2 (by omega)
  have hu2 := HU1.out.but hk2 (by omega)
  have HR2 := hid hr2
  have c1 := hu2.cell 1
  have f1 := hu2.frozen 1
  simp at c1
  have c2 := hu2.cell 2
  have f2 := hu2.frozen 2
  simp at c2
  have c3 := hu2.cell 3
  have f3 := hu2.frozen 3
  simp at c3
  have c4 := hu2.cell 4
  have f4 := hu2.frozen 4
  simp at c4
  have hus2_0 : Box _ (w.heap.size + 1) #[.string k1, .int .i64 t2.kind, .int .i64 0, .string ⟨#[]⟩, .slice none 0 0, .slice none 0 0] 27 := hu2.set 1 (.int .i64 t2.kind)
  have hus2_1 : Box _ (w.heap.size + 1) #[.string k1, .int .i64 t2.kind, .int .i64 t2.int, .string ⟨#[]⟩, .slice none 0 0, .slice none 0 0] 27 := hus2_0.set 2 (.int .i64 t2.int)
  have hus2_2 : Box _ (w.heap.size + 1) #[.string k1, .int .i64 t2.kind, .int .i64 t2.int, .string t2.text, .slice none 0 0, .slice none 0 0] 27 := hus2_1.set 3 (.string t2.text)
  have hus2_3 : Box _ (w.heap.size + 1) #[.string k1, .int .i64 t2.kind, .int .i64 t2.int, .string t2.text, .slice t2.p t2.n t2.c, .slice none 0 0] 27 := hus2_2.set 4 (.slice t2.p t2.n t2.c)
  have hst2 : But (fun y => y = w.heap.size + 1) V2 ((((V2.setCell ⟨w.heap.size + 1, 1, none⟩ (.int .i64 t2.kind)).setCell ⟨w.heap.size + 1, 2, none⟩ (.int .i64 t2.int)).setCell ⟨w.heap.size + 1, 3, none⟩ (.string t2.text)).setCell ⟨w.heap.size + 1, 4, none⟩ (.slice t2.p t2.n t2.c)) := ((((But.one V2 (w.heap.size + 1)).setAt 1 (.int .i64 t2.kind)).setAt 2 (.int .i64 t2.int)).setAt 3 (.string t2.text)).setAt 4 (.slice t2.p t2.n t2.c)
  have HV2 := hid (hv2.but hst2 (by omega))
  have HU2 := hid hus2_3
  have HB2 := hid (hkw2.new hst2 (by omega))
  have HD2 := hid (hd2.new (w := w) hst2 (by omega) hrl HS.out)
  have hin2b := hin2.mono (S' := fun b => w.heap.size + 2 ≤ b) (fun b hb _ => by omega)
  have HI2_2 := hid (hin2b.but hst2 (fun b hb _ e => by omega))
  have hsz2 := HU2.out.lt
  clear hr2 hd2 hk2 hkw2 hv2 hu2 hst2 hus2_0 hus2_1 hus2_2 hus2_3 hin2 hin2b
  unfold VT.val
  have HC3 := hid (hops_any ((((V2.setCell ⟨w.heap.size + 1, 1, none⟩ (.int .i64 t2.kind)).setCell ⟨w.heap.size + 1, 2, none⟩ (.int .i64 t2.int)).setCell ⟨w.heap.size + 1, 3, none⟩ (.string t2.text)).setCell ⟨w.heap.size + 1, 4, none⟩ (.slice t2.p t2.n t2.c)) S rb R2 e2 (fun b hb => by have := HS.out b hb; omega) HD2.out)
  go_wp2_with fail
  refine HC3.out.mono ?_
  rintro x3 V3 ⟨t3, R3, e3, rfl, hin3, ⟨hr3, hd3, hk3⟩⟩
  clear HC3
  have hkw3 := HB2.out.trans hk3
  have hv3 := HV2.out.but hk3 (by omega)
  have hu3 := HU2.out.but hk3 (by omega)
  have hi2_3 := HI2_2.out.but hk3 (fun b hb _ e => by omega)
  have HR3 := hid hr3
  have c0 := hu3.cell 0
  have f0 := hu3.frozen 0
  simp at c0
  have c1 := hu3.cell 1
  have f1 := hu3.frozen 1
  simp at c1
  have c2 := hu3.cell 2
  have f2 := hu3.frozen 2
  simp at c2
  have c3 := hu3.cell 3
  have f3 := hu3.frozen 3
  simp at c3
  have c4 := hu3.cell 4
  have f4 := hu3.frozen 4
  simp at c4
  have c5 := hu3.cell 5
  have f5 := hu3.frozen 5
  simp at c5
  have d0 := hv3.cell 0
  have g0 := hv3.frozen 0
  simp at d0
  have d1 := hv3.cell 1
  have g1 := hv3.frozen 1
  simp at d1
  have d2 := hv3.cell 2
  have g2 := hv3.frozen 2
  simp at d2
  have d3 := hv3.cell 3
  have g3 := hv3.frozen 3
  simp at d3
  have d4 := hv3.cell 4
  have g4 := hv3.frozen 4
  simp at d4
  have d5 := hv3.cell 5
  have g5 := hv3.frozen 5
  simp at d5
  have hus3_0 : Box _ (w.heap.size + 1) #[.string k1, .int .i64 t2.kind, .int .i64 t2.int, .string t2.text, .slice t2.p t2.n t2.c, .slice t3.p t3.n t3.c] 27 := hu3.set 5 (.slice t3.p t3.n t3.c)
  have hst3 : But (fun y => y = w.heap.size + 1) V3 (V3.setCell ⟨w.heap.size + 1, 5, none⟩ (.slice t3.p t3.n t3.c)) := (But.one V3 (w.heap.size + 1)).setAt 5 (.slice t3.p t3.n t3.c)
  have HV3 := hid (hv3.but hst3 (by omega))
  have HU3 := hid hus3_0
  have HB3 := hid (hkw3.new hst3 (by omega))
  have HD3 := hid (hd3.new (w := w) hst3 (by omega) hrl HS.out)
  have HI2_3 := hid (hi2_3.but hst3 (fun b hb _ e => by omega))
  have hin3b := hin3.mono (S' := fun b => w.heap.size + 2 ≤ b) (fun b hb _ => by omega)
  have HI3_3 := hid (hin3b.but hst3 (fun b hb _ e => by omega))
  have hsz3 := HU3.out.lt
  have zz := set6_box HV3.out (.string k1) (.int .i64 t2.kind) (.int .i64 t2.int) (.string t2.text) (.slice t2.p t2.n t2.c) (.slice t3.p t3.n t3.c)
  have r0' := zz.cell 0
  have r1' := zz.cell 1
  have r2' := zz.cell 2
  have r3' := zz.cell 3
  have r4' := zz.cell 4
  have r5' := zz.cell 5
  simp only [List.getElem?_toArray, List.getElem?_cons_zero, List.getElem?_cons_succ] at r0'  r1'  r2'  r3'  r4'  r5' 
  have HZ := hid (And.intro r0' (And.intro r1' (And.intro r2' (And.intro r3' (And.intro r4' (r5'))))))
  clear hr3 hd3 hk3 hkw3 hv3 hu3 hi2_3 hst3 hus3_0 hin3 hin3b zz r0' r1' r2' r3' r4' r5'
  go_wp2
  obtain ⟨r0' , r1' , r2' , r3' , r4' , r5' ⟩ := HZ.out
  have hfin := But.sets6 (V3.setCell ⟨w.heap.size + 1, 5, none⟩ (.slice t3.p t3.n t3.c)) w.heap.size (.string k1) (.int .i64 t2.kind) (.int .i64 t2.int) (.string t2.text) (.slice t2.p t2.n t2.c) (.slice t3.p t3.n t3.c)
  have HBf := HB3.out.new hfin (Nat.le_refl _)
  have HDf := HD3.out.new (w := w) hfin (Nat.le_refl _) hrl HS.out
  have HF2 := (HI2_3.out.but hfin (fun b hb _ e => by omega)).mono (S' := fun b => w.heap.size ≤ b) (fun b hb _ => by omega)
  have HF3 := (HI3_3.out.but hfin (fun b hb _ e => by omega)).mono (S' := fun b => w.heap.size ≤ b) (fun b hb _ => by omega)
  refine bodyPost_ret (v := RT.val ⟨k1, t2, t3.p, t3.n, t3.c, t3.item⟩) (by simp [results, Try.results83, go_sem, RT.val, r0' , r1' , r2' , r3' , r4' , r5' ]) rfl ?_
  refine ⟨⟨k1, t2, t3.p, t3.n, t3.c, t3.item⟩, R3, e3, rfl, ⟨HF2, Ints.ofLT HF3, by show k1.size ≤ _; have := HM1.out; omega⟩, ⟨HR1.out.bind (fun y hy _ => ?_) (RR.stay2 HR2.out.stay HR3.out.stay), HDf, HBf⟩⟩
  subst hy
  refine HR2.out.bind (fun y2 hy2 _ => ?_) HR3.out.stay
  refine HR3.out.map fun _ y3 hy3 => ⟨rfl, hy2, hy3.1, fun j hj => ?_⟩
  have hj' : j < y3.length := hj
  have := hy3.2 j y3[j] (by rw [List.getElem?_eq_getElem hj'])
  show t3.item j = _
  rw [this]
  simp [mkR, List.getD_eq_getElem?_getD, List.getElem?_eq_getElem hj']
end Go.Proofs.Ytikfpoabaaiegaa

namespace Go.Proofs.Ytikfpoabaaiegaa
open Go.RowKit
set_option maxRecDepth 8000
theorem kindRe : ∃ i, Kind 36 27 i (.agg #[.string ⟨#[]⟩, .int .i64 0, .int .i64 0, .string ⟨#[]⟩, .slice none 0 0, .slice none 0 0]) 6 96 := by
  obtain ⟨i0, hi, hz0, hz1, hz2⟩ := info_parts (show (Try.prog.info? 27).map (fun i => (i.zero, i.size, i.bytes)) = some (some (.agg #[.string ⟨#[]⟩, .int .i64 0, .int .i64 0, .string ⟨#[]⟩, .slice none 0 0, .slice none 0 0]), 6, 96) by kernel_rfl)
  exact ⟨i0, Try.underlying36, hi, hz0, hz1, hz2, rfl, by decide⟩
set_option maxHeartbeats 4000000 in
theorem rlRec {σ : Type} (Al : RT → RT → Prop) (item : σ → RS (RT)) (nx : σ → RT → σ) (Inv : World → σ → Prop) (X : Nat → Prop) (s0 : σ) (w : World) (S : Nat → Prop) (rb : Nat) (L : List Int) (e : Int) (bound : Nat) (hb : bound ≤ 1000) (hXr : X rb) (hX : ∀ k, X k → k < w.heap.size) (hS : ∀ b, S b → b < w.heap.size) (h0 : Inv w s0)
    (hInv : ∀ W W' s, Inv W s → w.heap.size ≤ W.heap.size → W.heap.size ≤ W'.heap.size → (∀ k, k < w.heap.size → k ≠ rb → W'.heap[k]? = W.heap[k]?) → Inv W' s)
    (HIt : ∀ W s R, But X w W → Rdr W S rb R 0 → Inv W s → Calls Try.prog 83 #[.pointer (some ⟨rb, 0, none⟩)] W fun x W' => ItemP elRec (fun u => .agg #[.string u.key, .int .i64 u.v.kind, .int .i64 u.v.int, .string u.v.text, .slice u.v.p u.v.n u.v.c, .slice u.p u.n u.c]) Al item nx Inv X S rb s R W x W')
    (h : Rdr w S rb L e) : Calls Try.prog 149 #[.pointer (some ⟨rb, 0, none⟩), .int .i64 bound, .func (.func 83) #[] #[]] w fun x w' => ListP elRec Al (listS bound item nx s0) X w S rb L e x w' := by
  obtain ⟨i0, Kd⟩ := kindRe
  have HN := hid (wrNumber_any w S rb L e bound (by omega) h)
  have hrl := h.lt
  have HIt := hid HIt
  have HInv := hid hInv
  have H0 := hid h0
  have HX := hid hX
  have HS := hid hS
  have HKd := hid Kd
  clear h hInv h0 hX hS Kd
  go_enter Try.func149, Try.ntmps149
  go_wp2_with fail
  refine HN.out.mono ?_
  rintro x w1 ⟨m, R0, e1, rfl, ⟨hrr, hrd, hkp⟩, hm, hm0⟩
  have HRR := hid hrr
  have HRd := hid hrd
  have hkx : But X w w1 := hkp.mono fun k _ e => by subst e; exact hXr
  have HKp := hid hkp
  have HKx := hid hkx
  have hws := hkp.size
  clear hrr hrd hkp hkx HN
  by_cases he1 : e1 = 0
  · subst he1
    clear hm0
    go_wp2_with (at_make; refine wpList_make_own _ rfl _ _ 36 rfl w.heap.size 27 i0 (.agg #[.string ⟨#[]⟩, .int .i64 0, .int .i64 0, .string ⟨#[]⟩, .slice none 0 0, .slice none 0 0]) 6 HKd.out.ht HKd.out.hi HKd.out.hz HKd.out.hsize _ _ _ m rfl rfl rfl (by rw [HKd.out.hby]; omega) (by unfold maxLen; omega) (by omega) ?_)
    intro w2 ho2 hg2
    have hb2 : Below w1.heap.size w1 w2 := ⟨hg2.os, hg2.tape, hg2.output, hg2.size, fun k hk => hg2.block k hk (by simp)⟩
    have hst : ∀ g, LInv elRec Al item nx Inv X w S rb R0 s0 0 (.slice (some ⟨w1.heap.size, 0, none⟩) 0 m) w2 s0 g R0 [] := fun g => LInv.start g ho2 hg2 HRd.out HKx.out (HInv.out w w2 s0 H0.out (Nat.le_refl _) (by have := hg2.size; omega) (fun k hk hne => (hb2.block k (by omega)).trans (HKp.out.block k hk hne)))
    have HSt := hid hst
    clear ho2 hg2 hb2 hst
    go_wp2_with fail
    go_loopw [8, 15] (fun v x wr => ∃ (j : Nat) (s : σ) (g : Nat → RT) (R : List Int) (ys : List (RT)), j ≤ m ∧ x = .int .i64 (j : Int) ∧ LInv elRec Al item nx Inv X w S rb R0 s0 j v wr s g R ys) (fun _ x _ => m - (intOf x).toNat)
    case atStart => exact ⟨0, s0, fun _ => ⟨⟨#[]⟩, .nil, none, 0, 0, fun _ => 0⟩, R0, [], Nat.zero_le _, rfl, HSt.out _⟩
    case round =>
      obtain ⟨j, s, g, R, ys, hj, rfl, hL⟩ := hrel
      have HL := hid hL
      clear hL
      by_cases hlt : j < m
      · have hlt' : (j : Int) < (m : Int) := by omega
        have HC := hid (HIt.out wr s R HL.out.kp HL.out.rd HL.out.inv)
        go_wp2_with fail
        refine HC.out.mono ?_
        rintro x w4 ⟨u, R', e', rfl, hu, hR⟩
        have hsz : w.heap.size ≤ w4.heap.size := Nat.le_trans HL.out.kp.size hR.kp.size
        have hrow : w4.ownsRow w.heap.size 27 6 u8 j ((List.range j).flatMap fun j => (elRec).cells (g j)) := ownsRow_keep HL.out.own.own fun k hk hl => hR.kp.block k hl (fun hx => by have := HX.out k hx; have := (HL.out.own.own.lt k hk).1; omega)
        have HU := hid hu
        have HR := hid hR
        have HRow := hid hrow
        clear hu hR hrow HC
        go_wp2_with (at_builtin; refine wpList_app rfl (.tmp 17) (.tmp 21) 36 27 i0 _ 6 96 HKd.out rfl w.heap.size u8 j _ rfl (HRow.out.alloc _) ⟨w4.heap.size, 0, none⟩ 1 1 ([.string u.key, .int .i64 u.v.kind, .int .i64 u.v.int, .string u.v.text, .slice u.v.p u.v.n u.v.c, .slice u.p u.n u.c]) rfl rfl (fun j x hx => by rw [cell_new, ← hx]; simp) ((elRec).one u) (by omega) (by omega) (by simp; omega) ?_)
        intro v3 w3 ho3 hg3 hn3
        by_cases he' : e' = 0
        · subst he'
          obtain ⟨s2, ys2, hL2⟩ := HL.out.step HU.out HR.out HX.out HS.out hrl HInv.out ho3 hg3 hn3
          obtain ⟨⟨p2, hx2, hy2⟩, hout⟩ := id hL2.rd
          have y1 := hx2.cell 1
          simp at y1
          have HL2 := hid hL2
          clear ho3 hg3 hn3 hL2 hx2 hy2 HRow HU HR
          go_wp2
          go_roundw
          case rel => exact ⟨j + 1, s2, _, R', ys2, by omega, by go_num, HL2.out⟩
          case measure => simp [intOf]; omega
        · have hlt4 : ∀ k, u8.ownBlock = some k → w.heap.size ≤ k := fun k hk => (HRow.out.lt k hk).1
          have hal : Below w4.heap.size w4 (w4.alloc (.cells #[.string u.key, .int .i64 u.v.kind, .int .i64 u.v.int, .string u.v.text, .slice u.v.p u.v.n u.v.c, .slice u.p u.n u.c] 27)) := (Below.refl _ _).alloc (Nat.le_refl _) _
          have hkb : ∀ k, k < w.heap.size → w3.heap[k]? = w4.heap[k]? := fun k hk => (hg3.block k (by have := hal.size; omega) (fun e => by have := hlt4 k e.symm; omega)).trans (hal.block k (by omega))
          have hs3 : w4.heap.size ≤ w3.heap.size := Nat.le_trans hal.size hg3.size
          have hrd3 : Rdr w3 S rb R' e' := by
            obtain ⟨⟨p, hx, hy⟩, hout⟩ := HR.out.rd
            exact ⟨⟨p, hx.kept (hkb rb hrl), hy.kept hs3 fun b hb _ => hkb b (HS.out b hb)⟩, hout⟩
          have hk3 : But X w w3 := ⟨hg3.os.trans (HR.out.kp.os.trans HL.out.kp.os), hg3.tape.trans (HR.out.kp.tape.trans HL.out.kp.tape), hg3.output.trans (HR.out.kp.output.trans HL.out.kp.output), by omega, fun k hk hx => (hkb k hk).trans ((HR.out.kp.block k (Nat.lt_of_lt_of_le hk HL.out.kp.size) hx).trans (HL.out.kp.block k hk hx))⟩
          have HF := hid (LInv.fail HL.out HR.out he' hlt HRR.out hk3 hrd3 (LT.In.none_ _ _ _ none 0 g (Nat.zero_le _) (fun _ => rfl)))
          obtain ⟨⟨p2, hx2, hy2⟩, hout⟩ := id hrd3
          have y1 := hx2.cell 1
          simp at y1
          have he2 : (e' == 0) = false := by simpa using he'
          clear ho3 hg3 hn3 hx2 hy2 HRow HU HR hlt4 hal hkb hs3 hrd3 hk3
          go_wp2
          go_ret
          exact HF.out
      · obtain rfl : j = m := by omega
        have hlt' : ¬ (j : Int) < (j : Int) := by omega
        have HF := hid (HL.out.done (by omega) HRR.out)
        go_wp2
        go_ret
        exact HF.out
  · obtain rfl := hm0 he1
    go_wp2_with (at_make; refine wpList_make_own _ rfl _ _ 36 rfl w.heap.size 27 i0 (.agg #[.string ⟨#[]⟩, .int .i64 0, .int .i64 0, .string ⟨#[]⟩, .slice none 0 0, .slice none 0 0]) 6 HKd.out.ht HKd.out.hi HKd.out.hz HKd.out.hsize _ _ _ 0 rfl rfl rfl (by omega) (by unfold maxLen; omega) (by omega) ?_)
    intro w2 ho2 hg2
    have hb2 : Below w1.heap.size w1 w2 := ⟨hg2.os, hg2.tape, hg2.output, hg2.size, fun k hk => hg2.block k hk (by simp)⟩
    have HF := hid (list_none (E := elRec) (Al := Al) (item := item) (nx := nx) (s0 := s0) (p := some ⟨w1.heap.size, 0, none⟩) (g := fun _ => ⟨⟨#[]⟩, .nil, none, 0, 0, fun _ => 0⟩) he1 HRR.out (HRd.out.below hb2) (HKx.out.trans (But.ofBelow hb2)))
    clear ho2 hg2 hb2
    go_wp2_with fail
    go_loopw [8, 15] (fun v x wr => v = .slice (some ⟨w1.heap.size, 0, none⟩) 0 0 ∧ x = .int .i64 0 ∧ wr = w2) (fun _ x _ => 0 - (intOf x).toNat)
    case atStart => exact ⟨rfl, rfl, rfl⟩
    case round =>
      obtain ⟨rfl, rfl, rfl⟩ := hrel
      go_wp2
      go_ret
      exact HF.out
end Go.Proofs.Ytikfpoabaaiegaa

namespace Go.Proofs.Ytikfpoabaaiegaa
open Go.RowKit
set_option maxRecDepth 8000
theorem kindRo : ∃ i, Kind 39 110 i (.agg #[.int .i64 0, .int .u32 0]) 2 16 := by
  obtain ⟨i0, hi, hz0, hz1, hz2⟩ := info_parts (show (Try.prog.info? 110).map (fun i => (i.zero, i.size, i.bytes)) = some (some (.agg #[.int .i64 0, .int .u32 0]), 2, 16) by kernel_rfl)
  exact ⟨i0, Try.underlying39, hi, hz0, hz1, hz2, rfl, by decide⟩
set_option maxHeartbeats 4000000 in
theorem rlRow {σ : Type} (Al : Nat × Nat → Nat × Nat → Prop) (item : σ → RS (Nat × Nat)) (nx : σ → Nat × Nat → σ) (Inv : World → σ → Prop) (X : Nat → Prop) (s0 : σ) (w : World) (S : Nat → Prop) (rb : Nat) (L : List Int) (e : Int) (bound : Nat) (hb : bound ≤ 1000) (hXr : X rb) (hX : ∀ k, X k → k < w.heap.size) (hS : ∀ b, S b → b < w.heap.size) (h0 : Inv w s0)
    (hInv : ∀ W W' s, Inv W s → w.heap.size ≤ W.heap.size → W.heap.size ≤ W'.heap.size → (∀ k, k < w.heap.size → k ≠ rb → W'.heap[k]? = W.heap[k]?) → Inv W' s)
    (HIt : ∀ W s R, But X w W → Rdr W S rb R 0 → Inv W s → Calls Try.prog 126 #[.pointer (some ⟨rb, 0, none⟩)] W fun x W' => ItemP elRow (fun u => .agg #[.int .i64 (u.1 : Int), .int .u32 (u.2 : Int)]) Al item nx Inv X S rb s R W x W')
    (h : Rdr w S rb L e) : Calls Try.prog 125 #[.pointer (some ⟨rb, 0, none⟩), .int .i64 bound, .func (.func 126) #[] #[]] w fun x w' => ListP elRow Al (listS bound item nx s0) X w S rb L e x w' := by
  obtain ⟨i0, Kd⟩ := kindRo
  have HN := hid (wrNumber_any w S rb L e bound (by omega) h)
  have hrl := h.lt
  have HIt := hid HIt
  have HInv := hid hInv
  have H0 := hid h0
  have HX := hid hX
  have HS := hid hS
  have HKd := hid Kd
  clear h hInv h0 hX hS Kd
  go_enter Try.func125, Try.ntmps125
  go_wp2_with fail
  refine HN.out.mono ?_
  rintro x w1 ⟨m, R0, e1, rfl, ⟨hrr, hrd, hkp⟩, hm, hm0⟩
  have HRR := hid hrr
  have HRd := hid hrd
  have hkx : But X w w1 := hkp.mono fun k _ e => by subst e; exact hXr
  have HKp := hid hkp
  have HKx := hid hkx
  have hws := hkp.size
  clear hrr hrd hkp hkx HN
  by_cases he1 : e1 = 0
  · subst he1
    clear hm0
    go_wp2_with (at_make; refine wpList_make_own _ rfl _ _ 39 rfl w.heap.size 110 i0 (.agg #[.int .i64 0, .int .u32 0]) 2 HKd.out.ht HKd.out.hi HKd.out.hz HKd.out.hsize _ _ _ m rfl rfl rfl (by rw [HKd.out.hby]; omega) (by unfold maxLen; omega) (by omega) ?_)
    intro w2 ho2 hg2
    have hb2 : Below w1.heap.size w1 w2 := ⟨hg2.os, hg2.tape, hg2.output, hg2.size, fun k hk => hg2.block k hk (by simp)⟩
    have hst : ∀ g, LInv elRow Al item nx Inv X w S rb R0 s0 0 (.slice (some ⟨w1.heap.size, 0, none⟩) 0 m) w2 s0 g R0 [] := fun g => LInv.start g ho2 hg2 HRd.out HKx.out (HInv.out w w2 s0 H0.out (Nat.le_refl _) (by have := hg2.size; omega) (fun k hk hne => (hb2.block k (by omega)).trans (HKp.out.block k hk hne)))
    have HSt := hid hst
    clear ho2 hg2 hb2 hst
    go_wp2_with fail
    go_loopw [8, 15] (fun v x wr => ∃ (j : Nat) (s : σ) (g : Nat → Nat × Nat) (R : List Int) (ys : List (Nat × Nat)), j ≤ m ∧ x = .int .i64 (j : Int) ∧ LInv elRow Al item nx Inv X w S rb R0 s0 j v wr s g R ys) (fun _ x _ => m - (intOf x).toNat)
    case atStart => exact ⟨0, s0, fun _ => (0, 0), R0, [], Nat.zero_le _, rfl, HSt.out _⟩
    case round =>
      obtain ⟨j, s, g, R, ys, hj, rfl, hL⟩ := hrel
      have HL := hid hL
      clear hL
      by_cases hlt : j < m
      · have hlt' : (j : Int) < (m : Int) := by omega
        have HC := hid (HIt.out wr s R HL.out.kp HL.out.rd HL.out.inv)
        go_wp2_with fail
        refine HC.out.mono ?_
        rintro x w4 ⟨u, R', e', rfl, hu, hR⟩
        have hsz : w.heap.size ≤ w4.heap.size := Nat.le_trans HL.out.kp.size hR.kp.size
        have hrow : w4.ownsRow w.heap.size 110 2 u8 j ((List.range j).flatMap fun j => (elRow).cells (g j)) := ownsRow_keep HL.out.own.own fun k hk hl => hR.kp.block k hl (fun hx => by have := HX.out k hx; have := (HL.out.own.own.lt k hk).1; omega)
        have HU := hid hu
        have HR := hid hR
        have HRow := hid hrow
        clear hu hR hrow HC
        go_wp2_with (at_builtin; refine wpList_app rfl (.tmp 17) (.tmp 21) 39 110 i0 _ 2 16 HKd.out rfl w.heap.size u8 j _ rfl (HRow.out.alloc _) ⟨w4.heap.size, 0, none⟩ 1 1 ([.int .i64 (u.1 : Int), .int .u32 (u.2 : Int)]) rfl rfl (fun j x hx => by rw [cell_new, ← hx]; simp) ((elRow).one u) (by omega) (by omega) (by simp; omega) ?_)
        intro v3 w3 ho3 hg3 hn3
        by_cases he' : e' = 0
        · subst he'
          obtain ⟨s2, ys2, hL2⟩ := HL.out.step HU.out HR.out HX.out HS.out hrl HInv.out ho3 hg3 hn3
          obtain ⟨⟨p2, hx2, hy2⟩, hout⟩ := id hL2.rd
          have y1 := hx2.cell 1
          simp at y1
          have HL2 := hid hL2
          clear ho3 hg3 hn3 hL2 hx2 hy2 HRow HU HR
          go_wp2
          go_roundw
          case rel => exact ⟨j + 1, s2, _, R', ys2, by omega, by go_num, HL2.out⟩
          case measure => simp [intOf]; omega
        · have hlt4 : ∀ k, u8.ownBlock = some k → w.heap.size ≤ k := fun k hk => (HRow.out.lt k hk).1
          have hal : Below w4.heap.size w4 (w4.alloc (.cells #[.int .i64 (u.1 : Int), .int .u32 (u.2 : Int)] 110)) := (Below.refl _ _).alloc (Nat.le_refl _) _
          have hkb : ∀ k, k < w.heap.size → w3.heap[k]? = w4.heap[k]? := fun k hk => (hg3.block k (by have := hal.size; omega) (fun e => by have := hlt4 k e.symm; omega)).trans (hal.block k (by omega))
          have hs3 : w4.heap.size ≤ w3.heap.size := Nat.le_trans hal.size hg3.size
          have hrd3 : Rdr w3 S rb R' e' := by
            obtain ⟨⟨p, hx, hy⟩, hout⟩ := HR.out.rd
            exact ⟨⟨p, hx.kept (hkb rb hrl), hy.kept hs3 fun b hb _ => hkb b (HS.out b hb)⟩, hout⟩
          have hk3 : But X w w3 := ⟨hg3.os.trans (HR.out.kp.os.trans HL.out.kp.os), hg3.tape.trans (HR.out.kp.tape.trans HL.out.kp.tape), hg3.output.trans (HR.out.kp.output.trans HL.out.kp.output), by omega, fun k hk hx => (hkb k hk).trans ((HR.out.kp.block k (Nat.lt_of_lt_of_le hk HL.out.kp.size) hx).trans (HL.out.kp.block k hk hx))⟩
          have HF := hid (LInv.fail HL.out HR.out he' hlt HRR.out hk3 hrd3 (LT.In.none_ _ _ _ none 0 g (Nat.zero_le _) (fun _ => rfl)))
          obtain ⟨⟨p2, hx2, hy2⟩, hout⟩ := id hrd3
          have y1 := hx2.cell 1
          simp at y1
          have he2 : (e' == 0) = false := by simpa using he'
          clear ho3 hg3 hn3 hx2 hy2 HRow HU HR hlt4 hal hkb hs3 hrd3 hk3
          go_wp2
          go_ret
          exact HF.out
      · obtain rfl : j = m := by omega
        have hlt' : ¬ (j : Int) < (j : Int) := by omega
        have HF := hid (HL.out.done (by omega) HRR.out)
        go_wp2
        go_ret
        exact HF.out
  · obtain rfl := hm0 he1
    go_wp2_with (at_make; refine wpList_make_own _ rfl _ _ 39 rfl w.heap.size 110 i0 (.agg #[.int .i64 0, .int .u32 0]) 2 HKd.out.ht HKd.out.hi HKd.out.hz HKd.out.hsize _ _ _ 0 rfl rfl rfl (by omega) (by unfold maxLen; omega) (by omega) ?_)
    intro w2 ho2 hg2
    have hb2 : Below w1.heap.size w1 w2 := ⟨hg2.os, hg2.tape, hg2.output, hg2.size, fun k hk => hg2.block k hk (by simp)⟩
    have HF := hid (list_none (E := elRow) (Al := Al) (item := item) (nx := nx) (s0 := s0) (p := some ⟨w1.heap.size, 0, none⟩) (g := fun _ => (0, 0)) he1 HRR.out (HRd.out.below hb2) (HKx.out.trans (But.ofBelow hb2)))
    clear ho2 hg2 hb2
    go_wp2_with fail
    go_loopw [8, 15] (fun v x wr => v = .slice (some ⟨w1.heap.size, 0, none⟩) 0 0 ∧ x = .int .i64 0 ∧ wr = w2) (fun _ x _ => 0 - (intOf x).toNat)
    case atStart => exact ⟨rfl, rfl, rfl⟩
    case round =>
      obtain ⟨rfl, rfl, rfl⟩ := hrel
      go_wp2
      go_ret
      exact HF.out
end Go.Proofs.Ytikfpoabaaiegaa

namespace Go.Proofs.Ytikfpoabaaiegaa
open Go.RowKit
set_option maxRecDepth 8000
theorem set2_box {w : World} {b : Nat} {a0 a1 : Value} {e : TypeId} (h : Box w b #[a0, a1] e) (x0 x1 : Value) : Box ((w.setCell ⟨b, 0, none⟩ x0).setCell ⟨b, 1, none⟩ x1) b #[x0, x1] e := by
  have h0 : Box _ b #[x0, a1] e := h.set 0 x0
  have h1 : Box _ b #[x0, x1] e := h0.set 1 x1
  exact h1
theorem But.sets2 (w : World) (b : Nat) (x0 x1 : Value) : But (fun y => y = b) w ((w.setCell ⟨b, 0, none⟩ x0).setCell ⟨b, 1, none⟩ x1) := ((But.one w b).setAt 0 x0).setAt 1 x1
theorem set3_box {w : World} {b : Nat} {a0 a1 a2 : Value} {e : TypeId} (h : Box w b #[a0, a1, a2] e) (x0 x1 x2 : Value) : Box (((w.setCell ⟨b, 0, none⟩ x0).setCell ⟨b, 1, none⟩ x1).setCell ⟨b, 2, none⟩ x2) b #[x0, x1, x2] e := by
  have h0 : Box _ b #[x0, a1, a2] e := h.set 0 x0
  have h1 : Box _ b #[x0, x1, a2] e := h0.set 1 x1
  have h2 : Box _ b #[x0, x1, x2] e := h1.set 2 x2
  exact h2
theorem But.sets3 (w : World) (b : Nat) (x0 x1 x2 : Value) : But (fun y => y = b) w (((w.setCell ⟨b, 0, none⟩ x0).setCell ⟨b, 1, none⟩ x1).setCell ⟨b, 2, none⟩ x2) := (((But.one w b).setAt 0 x0).setAt 1 x1).setAt 2 x2
theorem set7_box {w : World} {b : Nat} {a0 a1 a2 a3 a4 a5 a6 : Value} {e : TypeId} (h : Box w b #[a0, a1, a2, a3, a4, a5, a6] e) (x0 x1 x2 x3 x4 x5 x6 : Value) : Box (((((((w.setCell ⟨b, 0, none⟩ x0).setCell ⟨b, 1, none⟩ x1).setCell ⟨b, 2, none⟩ x2).setCell ⟨b, 3, none⟩ x3).setCell ⟨b, 4, none⟩ x4).setCell ⟨b, 5, none⟩ x5).setCell ⟨b, 6, none⟩ x6) b #[x0, x1, x2, x3, x4, x5, x6] e := by
  have h0 : Box _ b #[x0, a1, a2, a3, a4, a5, a6] e := h.set 0 x0
  have h1 : Box _ b #[x0, x1, a2, a3, a4, a5, a6] e := h0.set 1 x1
  have h2 : Box _ b #[x0, x1, x2, a3, a4, a5, a6] e := h1.set 2 x2
  have h3 : Box _ b #[x0, x1, x2, x3, a4, a5, a6] e := h2.set 3 x3
  have h4 : Box _ b #[x0, x1, x2, x3, x4, a5, a6] e := h3.set 4 x4
  have h5 : Box _ b #[x0, x1, x2, x3, x4, x5, a6] e := h4.set 5 x5
  have h6 : Box _ b #[x0, x1, x2, x3, x4, x5, x6] e := h5.set 6 x6
  exact h6
theorem But.sets7 (w : World) (b : Nat) (x0 x1 x2 x3 x4 x5 x6 : Value) : But (fun y => y = b) w (((((((w.setCell ⟨b, 0, none⟩ x0).setCell ⟨b, 1, none⟩ x1).setCell ⟨b, 2, none⟩ x2).setCell ⟨b, 3, none⟩ x3).setCell ⟨b, 4, none⟩ x4).setCell ⟨b, 5, none⟩ x5).setCell ⟨b, 6, none⟩ x6) := (((((((But.one w b).setAt 0 x0).setAt 1 x1).setAt 2 x2).setAt 3 x3).setAt 4 x4).setAt 5 x5).setAt 6 x6
theorem rec_item (S : Nat → Prop) (rb : Nat) (W : World) (R : List Int) (hS : ∀ b, S b → b < W.heap.size) (h : Rdr W S rb R 0) : Calls Try.prog 83 #[.pointer (some ⟨rb, 0, none⟩)] W fun x W' => ItemP elRec (fun u => .agg #[.string u.key, .int .i64 u.v.kind, .int .i64 u.v.int, .string u.v.text, .slice u.v.p u.v.n u.v.c, .slice u.p u.n u.c]) RT.Alike (fun _ : Unit => recS) (fun _ _ => ()) (fun _ _ => True) (fun y => y = rb) S rb () R W x W' := by
  refine (wrRecord_any W S rb R 0 hS h).mono ?_
  rintro x w1 ⟨r, R1, e1, rfl, hin, ⟨hr, hd, hk⟩⟩
  exact ⟨r, R1, e1, rfl, hin, hr.mono fun _ y hy => ⟨hy, trivial⟩, hd, hk⟩
theorem recs_list (w : World) (S : Nat → Prop) (rb : Nat) (L : List Int) (e : Int) (hS : ∀ b, S b → b < w.heap.size) (h : Rdr w S rb L e) : Calls Try.prog 149 #[.pointer (some ⟨rb, 0, none⟩), .int .i64 256, .func (.func 83) #[] #[]] w fun x w' => ListP elRec RT.Alike recsS (fun y => y = rb) w S rb L e x w' :=
  rlRec RT.Alike (fun _ : Unit => recS) (fun _ _ => ()) (fun _ _ => True) (fun y => y = rb) () w S rb L e 256 (by omega) rfl (fun k hk => by subst hk; exact h.lt) hS trivial (fun _ _ _ _ _ _ _ => trivial) (fun W _ R hk hr _ => rec_item S rb W R (fun b hb => Nat.lt_of_lt_of_le (hS b hb) hk.size) hr) h
set_option maxHeartbeats 1000000 in
theorem wrRecords_any (w : World) (S : Nat → Prop) (rb : Nat) (L : List Int) (e : Int) (hS : ∀ b, S b → b < w.heap.size) (h : Rdr w S rb L e) : Calls Try.prog 124 #[.pointer (some ⟨rb, 0, none⟩)] w fun x w' => ListP elRec RT.Alike recsS (fun y => y = rb) w S rb L e x w' := by
  have HC := hid (recs_list w S rb L e hS h)
  clear h hS
  go_enter Try.func124, Try.ntmps124
  go_wp2_with fail
  refine HC.out.mono ?_
  rintro x w1 ⟨l, R, e1, rfl, hin, hr⟩
  have HF := hid (And.intro hin hr)
  clear hin hr HC
  go_wp2
  go_ret
  exact ⟨l, R, e1, rfl, HF.out.1, HF.out.2⟩
def FileP (w : World) (S : Nat → Prop) (rb : Nat) (L : List Int) (e : Int) (x : Ending) (w' : World) : Prop :=
  ∃ (u : Nat × Nat) (R : List Int) (e' : Int), x = .returned (.agg #[.int .i64 (u.1 : Int), .int .u32 (u.2 : Int)]) ∧ (u.1 ≤ 65536 ∧ u.2 < 4294967296) ∧ RdS fileS (fun y => u = y) w S rb L e R e' w'
set_option maxHeartbeats 8000000 in
theorem wrFile_any (w : World) (S : Nat → Prop) (rb : Nat) (L : List Int) (e : Int) (hS : ∀ b, S b → b < w.heap.size) (h : Rdr w S rb L e) : Calls Try.prog 126 #[.pointer (some ⟨rb, 0, none⟩)] w fun x w' => FileP w S rb L e x w' := by
  have hrl := h.lt
  obtain ⟨W0, hW0⟩ : ∃ W0, W0 = (w.alloc (.cells #[.int .i64 0, .int .u32 0] 110)).alloc (.cells #[.int .i64 0, .int .u32 0] 110) := ⟨_, rfl⟩
  have hb0 : Below w.heap.size w W0 := by rw [hW0]; exact ((Below.refl _ _).alloc (Nat.le_refl _) _).alloc (by simp) _
  have hv0 : Box W0 w.heap.size #[.int .i64 0, .int .u32 0] 110 := by rw [hW0]; exact (Box.new w _ _).below ((Below.refl _ _).alloc (Nat.le_refl _) _)
  have hu0 : Box W0 (w.heap.size + 1) #[.int .i64 0, .int .u32 0] 110 := by
    have := Box.new (w.alloc (.cells #[.int .i64 0, .int .u32 0] 110)) #[.int .i64 0, .int .u32 0] 110
    rw [show (w.alloc (.cells #[.int .i64 0, .int .u32 0] 110)).heap.size = w.heap.size + 1 by simp] at this
    rw [hW0]; exact this
  have HS := hid hS
  have HB0 : Hid (But (fun y => y = rb) w W0) := But.ofBelow hb0
  have HV0 := hid hv0
  have HU0 := hid hu0
  have HD0 : Hid (Rdr W0 S rb L e) := h.below hb0
  have hsz0 := hu0.lt
  have HC1 := hid (wrNumber_any W0 S rb L e 65536 (by omega) HD0.out)
  rw [hW0] at HC1
  clear h hb0 hv0 hu0 hS
  go_enter Try.func126, Try.ntmps126
  go_wp2_with fail
  refine HC1.out.mono ?_
  rw [← hW0]
  rintro x1 V1 ⟨r1, R1, e1, rfl, ⟨hr1, hd1, hk1⟩, hm1, _⟩
  clear HC1
  have hkw1 := HB0.out.trans hk1
  have hv1 := HV0.out.but hk1 (by omega)
  have hu1 := HU0.out.but hk1 (by omega)
  have HR1 := hid hr1
  have HM1 := hid hm1
  have c0 := hu1.cell 0
  have f0 := hu1.frozen 0
  simp at c0
  have hus1_0 : Box _ (w.heap.size + 1) #[.int .i64 (r1 : Int), .int .u32 0] 110 := hu1.set 0 (.int .i64 (r1 : Int))
  have hst1 : But (fun y => y = w.heap.size + 1) V1 (V1.setCell ⟨w.heap.size + 1, 0, none⟩ (.int .i64 (r1 : Int))) := (But.one V1 (w.heap.size + 1)).setAt 0 (.int .i64 (r1 : Int))
  have HV1 := hid (hv1.but hst1 (by omega))
  have HU1 := hid hus1_0
  have HB1 := hid (hkw1.new hst1 (by omega))
  have HD1 := hid (hd1.new (w := w) hst1 (by omega) hrl HS.out)
  have hsz1 := HU1.out.lt
  clear hr1 hd1 hk1 hkw1 hv1 hu1 hst1 hus1_0 hm1
  have HC2 := hid (wrWord_any (V1.setCell ⟨w.heap.size + 1, 0, none⟩ (.int .i64 (r1 : Int))) S rb R1 e1 HD1.out)
  go_wp2_with fail
  refine HC2.out.mono ?_
  rintro x2 V2 ⟨r2, R2, e2, rfl, ⟨hr2, hd2, hk2⟩, hm2⟩
  clear HC2
  have hkw2 := HB1.out.trans hk2
  have hv2 := HV1.out.but hk2 (by omega)
  have hu2 := HU1.out.but hk2 (by omega)
  have HR2 := hid hr2
  have HM2 := hid hm2
  have c0 := hu2.cell 0
  have f0 := hu2.frozen 0
  simp at c0
  have c1 := hu2.cell 1
  have f1 := hu2.frozen 1
  simp at c1
  have d0 := hv2.cell 0
  have g0 := hv2.frozen 0
  simp at d0
  have d1 := hv2.cell 1
  have g1 := hv2.frozen 1
  simp at d1
  have hus2_0 : Box _ (w.heap.size + 1) #[.int .i64 (r1 : Int), .int .u32 (r2 : Int)] 110 := hu2.set 1 (.int .u32 (r2 : Int))
  have hst2 : But (fun y => y = w.heap.size + 1) V2 (V2.setCell ⟨w.heap.size + 1, 1, none⟩ (.int .u32 (r2 : Int))) := (But.one V2 (w.heap.size + 1)).setAt 1 (.int .u32 (r2 : Int))
  have HV2 := hid (hv2.but hst2 (by omega))
  have HU2 := hid hus2_0
  have HB2 := hid (hkw2.new hst2 (by omega))
  have HD2 := hid (hd2.new (w := w) hst2 (by omega) hrl HS.out)
  have hsz2 := HU2.out.lt
  have zz := set2_box HV2.out (.int .i64 (r1 : Int)) (.int .u32 (r2 : Int))
  have r0' := zz.cell 0
  have r1' := zz.cell 1
  simp only [List.getElem?_toArray, List.getElem?_cons_zero, List.getElem?_cons_succ] at r0'  r1' 
  have HZ := hid (And.intro r0' (r1'))
  clear hr2 hd2 hk2 hkw2 hv2 hu2 hst2 hus2_0 hm2 zz r0' r1'
  go_wp2
  obtain ⟨r0' , r1' ⟩ := HZ.out
  have hfin := But.sets2 (V2.setCell ⟨w.heap.size + 1, 1, none⟩ (.int .u32 (r2 : Int))) w.heap.size (.int .i64 (r1 : Int)) (.int .u32 (r2 : Int))
  have HBf := HB2.out.new hfin (Nat.le_refl _)
  have HDf := HD2.out.new (w := w) hfin (Nat.le_refl _) hrl HS.out
  refine bodyPost_ret (v := .agg #[.int .i64 (r1 : Int), .int .u32 (r2 : Int)]) (by simp [results, Try.results126, go_sem, r0' , r1' ]) rfl ?_
  refine ⟨(r1, r2), R2, e2, rfl, ⟨HM1.out, HM2.out⟩, ⟨HR1.out.bind (fun y hy _ => ?_) HR2.out.stay, HDf, HBf⟩⟩
  subst hy
  exact HR2.out.map fun _ y2 hy2 => by rw [hy2]
theorem file_item (S : Nat → Prop) (rb : Nat) (W : World) (R : List Int) (hS : ∀ b, S b → b < W.heap.size) (h : Rdr W S rb R 0) : Calls Try.prog 126 #[.pointer (some ⟨rb, 0, none⟩)] W fun x W' => ItemP elRow (fun u => .agg #[.int .i64 (u.1 : Int), .int .u32 (u.2 : Int)]) (fun y u => u = y) (fun _ : Unit => fileS) (fun _ _ => ()) (fun _ _ => True) (fun y => y = rb) S rb () R W x W' := by
  refine (wrFile_any W S rb R 0 hS h).mono ?_
  rintro x w1 ⟨r, R1, e1, rfl, hin, ⟨hr, hd, hk⟩⟩
  exact ⟨r, R1, e1, rfl, ⟨by omega, hin.2⟩, hr.mono fun _ y hy => ⟨hy, trivial⟩, hd, hk⟩
theorem files_list (w : World) (S : Nat → Prop) (rb : Nat) (L : List Int) (e : Int) (hS : ∀ b, S b → b < w.heap.size) (h : Rdr w S rb L e) : Calls Try.prog 125 #[.pointer (some ⟨rb, 0, none⟩), .int .i64 12, .func (.func 126) #[] #[]] w fun x w' => ListP elRow (fun y u => u = y) filesS (fun y => y = rb) w S rb L e x w' :=
  rlRow (fun y u => u = y) (fun _ : Unit => fileS) (fun _ _ => ()) (fun _ _ => True) (fun y => y = rb) () w S rb L e 12 (by omega) rfl (fun k hk => by subst hk; exact h.lt) hS trivial (fun _ _ _ _ _ _ _ => trivial) (fun W _ R hk hr _ => file_item S rb W R (fun b hb => Nat.lt_of_lt_of_le (hS b hb) hk.size) hr) h
structure MT where
  id : Nat
  sum : Nat
  rows : LT (Nat × Nat)
def MT.val (m : MT) : Value := .agg #[.int .i64 (m.id : Int), .int .u32 (m.sum : Int), .slice m.rows.p m.rows.n m.rows.c]
def MT.Is (m : MT) (y : Nat × Nat × List (Nat × Nat)) : Prop := m.id = y.1 ∧ m.sum = y.2.1 ∧ Isl (fun y u => u = y) m.rows y.2.2
def ManP (w : World) (S : Nat → Prop) (rb : Nat) (L : List Int) (e : Int) (x : Ending) (w' : World) : Prop :=
  ∃ (m : MT) (R : List Int) (e' : Int), x = .returned m.val ∧ (m.id ≤ 9999 ∧ m.sum < 4294967296 ∧ LT.In elRow w' (fun b => w.heap.size ≤ b) m.rows) ∧ RdS manS (fun y => m.Is y) w S rb L e R e' w'
set_option maxHeartbeats 8000000 in
theorem wrMan_any (w : World) (S : Nat → Prop) (rb : Nat) (L : List Int) (e : Int) (hS : ∀ b, S b → b < w.heap.size) (h : Rdr w S rb L e) : Calls Try.prog 79 #[.pointer (some ⟨rb, 0, none⟩)] w fun x w' => ManP w S rb L e x w' := by
  have hrl := h.lt
  obtain ⟨W0, hW0⟩ : ∃ W0, W0 = (w.alloc (.cells #[.int .i64 0, .int .u32 0, .slice none 0 0] 41)).alloc (.cells #[.int .i64 0, .int .u32 0, .slice none 0 0] 41) := ⟨_, rfl⟩
  have hb0 : Below w.heap.size w W0 := by rw [hW0]; exact ((Below.refl _ _).alloc (Nat.le_refl _) _).alloc (by simp) _
  have hv0 : Box W0 w.heap.size #[.int .i64 0, .int .u32 0, .slice none 0 0] 41 := by rw [hW0]; exact (Box.new w _ _).below ((Below.refl _ _).alloc (Nat.le_refl _) _)
  have hu0 : Box W0 (w.heap.size + 1) #[.int .i64 0, .int .u32 0, .slice none 0 0] 41 := by
    have := Box.new (w.alloc (.cells #[.int .i64 0, .int .u32 0, .slice none 0 0] 41)) #[.int .i64 0, .int .u32 0, .slice none 0 0] 41
    rw [show (w.alloc (.cells #[.int .i64 0, .int .u32 0, .slice none 0 0] 41)).heap.size = w.heap.size + 1 by simp] at this
    rw [hW0]; exact this
  have HS := hid hS
  have HB0 : Hid (But (fun y => y = rb) w W0) := But.ofBelow hb0
  have HV0 := hid hv0
  have HU0 := hid hu0
  have HD0 : Hid (Rdr W0 S rb L e) := h.below hb0
  have hsz0 := hu0.lt
  have HC1 := hid (wrFirst_any W0 S rb L e 77 HD0.out)
  rw [hW0] at HC1
  clear h hb0 hv0 hu0 hS
  go_enter Try.func79, Try.ntmps79
  go_wp2_with fail
  refine HC1.out.mono ?_
  rw [← hW0]
  rintro x1 V1 ⟨R1, e1, rfl, ⟨hr1, hd1, hk1⟩⟩
  clear HC1
  have hkw1 := HB0.out.trans hk1
  have hv1 := HV0.out.but hk1 (by omega)
  have hu1 := HU0.out.but hk1 (by omega)
  have HR1 := hid hr1
  have HV1 := hid hv1
  have HU1 := hid hu1
  have HB1 := hid hkw1
  have HD1 := hid hd1
  have hsz1 := HU1.out.lt
  clear hr1 hd1 hk1 hkw1 hv1 hu1
  have HC2 := hid (wrNumber_any V1 S rb R1 e1 9999 (by omega) HD1.out)
  go_wp2_with fail
  refine HC2.out.mono ?_
  rintro x2 V2 ⟨r2, R2, e2, rfl, ⟨hr2, hd2, hk2⟩, hm2, _⟩
  clear HC2
  have hkw2 := HB1.out.trans hk2
  have hv2 := HV1.out.but hk2 (by omega)
  have hu2 := HU1.out.but hk2 (by omega)
  have HR2 := hid hr2
  have HM2 := hid hm2
  have c0 := hu2.cell 0
  have f0 := hu2.frozen 0
  simp at c0
  have hus2_0 : Box _ (w.heap.size + 1) #[.int .i64 (r2 : Int), .int .u32 0, .slice none 0 0] 41 := hu2.set 0 (.int .i64 (r2 : Int))
  have hst2 : But (fun y => y = w.heap.size + 1) V2 (V2.setCell ⟨w.heap.size + 1, 0, none⟩ (.int .i64 (r2 : Int))) := (But.one V2 (w.heap.size + 1)).setAt 0 (.int .i64 (r2 : Int))
  have HV2 := hid (hv2.but hst2 (by omega))
  have HU2 := hid hus2_0
  have HB2 := hid (hkw2.new hst2 (by omega))
  have HD2 := hid (hd2.new (w := w) hst2 (by omega) hrl HS.out)
  have hsz2 := HU2.out.lt
  clear hr2 hd2 hk2 hkw2 hv2 hu2 hst2 hus2_0 hm2
  have HC3 := hid (wrWord_any (V2.setCell ⟨w.heap.size + 1, 0, none⟩ (.int .i64 (r2 : Int))) S rb R2 e2 HD2.out)
  go_wp2_with fail
  refine HC3.out.mono ?_
  rintro x3 V3 ⟨r3, R3, e3, rfl, ⟨hr3, hd3, hk3⟩, hm3⟩
  clear HC3
  have hkw3 := HB2.out.trans hk3
  have hv3 := HV2.out.but hk3 (by omega)
  have hu3 := HU2.out.but hk3 (by omega)
  have HR3 := hid hr3
  have HM3 := hid hm3
  have c1 := hu3.cell 1
  have f1 := hu3.frozen 1
  simp at c1
  have hus3_0 : Box _ (w.heap.size + 1) #[.int .i64 (r2 : Int), .int .u32 (r3 : Int), .slice none 0 0] 41 := hu3.set 1 (.int .u32 (r3 : Int))
  have hst3 : But (fun y => y = w.heap.size + 1) V3 (V3.setCell ⟨w.heap.size + 1, 1, none⟩ (.int .u32 (r3 : Int))) := (But.one V3 (w.heap.size + 1)).setAt 1 (.int .u32 (r3 : Int))
  have HV3 := hid (hv3.but hst3 (by omega))
  have HU3 := hid hus3_0
  have HB3 := hid (hkw3.new hst3 (by omega))
  have HD3 := hid (hd3.new (w := w) hst3 (by omega) hrl HS.out)
  have hsz3 := HU3.out.lt
  clear hr3 hd3 hk3 hkw3 hv3 hu3 hst3 hus3_0 hm3
  have HC4 := hid (files_list (V3.setCell ⟨w.heap.size + 1, 1, none⟩ (.int .u32 (r3 : Int))) S rb R3 e3 (fun b hb => by have := HS.out b hb; omega) HD3.out)
  go_wp2_with fail
  refine HC4.out.mono ?_
  rintro x4 V4 ⟨t4, R4, e4, rfl, hin4, ⟨hr4, hd4, hk4⟩⟩
  clear HC4
  have hkw4 := HB3.out.trans hk4
  have hv4 := HV3.out.but hk4 (by omega)
  have hu4 := HU3.out.but hk4 (by omega)
  have HR4 := hid hr4
  have c0 := hu4.cell 0
  have f0 := hu4.frozen 0
  simp at c0
  have c1 := hu4.cell 1
  have f1 := hu4.frozen 1
  simp at c1
  have c2 := hu4.cell 2
  have f2 := hu4.frozen 2
  simp at c2
  have d0 := hv4.cell 0
  have g0 := hv4.frozen 0
  simp at d0
  have d1 := hv4.cell 1
  have g1 := hv4.frozen 1
  simp at d1
  have d2 := hv4.cell 2
  have g2 := hv4.frozen 2
  simp at d2
  have hus4_0 : Box _ (w.heap.size + 1) #[.int .i64 (r2 : Int), .int .u32 (r3 : Int), .slice t4.p t4.n t4.c] 41 := hu4.set 2 (.slice t4.p t4.n t4.c)
  have hst4 : But (fun y => y = w.heap.size + 1) V4 (V4.setCell ⟨w.heap.size + 1, 2, none⟩ (.slice t4.p t4.n t4.c)) := (But.one V4 (w.heap.size + 1)).setAt 2 (.slice t4.p t4.n t4.c)
  have HV4 := hid (hv4.but hst4 (by omega))
  have HU4 := hid hus4_0
  have HB4 := hid (hkw4.new hst4 (by omega))
  have HD4 := hid (hd4.new (w := w) hst4 (by omega) hrl HS.out)
  have hin4b := hin4.mono (S' := fun b => w.heap.size + 2 ≤ b) (fun b hb _ => by omega)
  have HI4_4 := hid (hin4b.but hst4 (fun b hb _ e => by omega))
  have hsz4 := HU4.out.lt
  have zz := set3_box HV4.out (.int .i64 (r2 : Int)) (.int .u32 (r3 : Int)) (.slice t4.p t4.n t4.c)
  have r0' := zz.cell 0
  have r1' := zz.cell 1
  have r2' := zz.cell 2
  simp only [List.getElem?_toArray, List.getElem?_cons_zero, List.getElem?_cons_succ] at r0'  r1'  r2' 
  have HZ := hid (And.intro r0' (And.intro r1' (r2')))
  clear hr4 hd4 hk4 hkw4 hv4 hu4 hst4 hus4_0 hin4 hin4b zz r0' r1' r2'
  go_wp2
  obtain ⟨r0' , r1' , r2' ⟩ := HZ.out
  have hfin := But.sets3 (V4.setCell ⟨w.heap.size + 1, 2, none⟩ (.slice t4.p t4.n t4.c)) w.heap.size (.int .i64 (r2 : Int)) (.int .u32 (r3 : Int)) (.slice t4.p t4.n t4.c)
  have HBf := HB4.out.new hfin (Nat.le_refl _)
  have HDf := HD4.out.new (w := w) hfin (Nat.le_refl _) hrl HS.out
  have HF4 := (HI4_4.out.but hfin (fun b hb _ e => by omega)).mono (S' := fun b => w.heap.size ≤ b) (fun b hb _ => by omega)
  refine bodyPost_ret (v := MT.val ⟨r2, r3, t4⟩) (by simp [results, Try.results79, go_sem, MT.val, r0' , r1' , r2' ]) rfl ?_
  refine ⟨⟨r2, r3, t4⟩, R4, e4, rfl, ⟨HM2.out, HM3.out, HF4⟩, ⟨HR1.out.bind (fun _ _ _ => ?_) (RR.stay2 HR2.out.stay (RR.stay2 HR3.out.stay HR4.out.stay)), HDf, HBf⟩⟩
  refine HR2.out.bind (fun y hy _ => ?_) (RR.stay2 HR3.out.stay HR4.out.stay)
  subst hy
  refine HR3.out.bind (fun y3 hy3 _ => ?_) HR4.out.stay
  subst hy3
  exact HR4.out.map fun _ y4 hy4 => ⟨rfl, rfl, hy4⟩
structure OT where
  num : Nat
  rec_ : RT
def OT.val (o : OT) : Value := .agg #[.int .i64 (o.num : Int), .string o.rec_.key, .int .i64 o.rec_.v.kind, .int .i64 o.rec_.v.int, .string o.rec_.v.text, .slice o.rec_.v.p o.rec_.v.n o.rec_.v.c, .slice o.rec_.p o.rec_.n o.rec_.c]
def OutP (w : World) (S : Nat → Prop) (rb : Nat) (L : List Int) (e : Int) (x : Ending) (w' : World) : Prop :=
  ∃ (o : OT) (R : List Int) (e' : Int), x = .returned o.val ∧ (o.num ≤ 1073741824 ∧ RT.In w' (fun b => w.heap.size ≤ b) o.rec_) ∧ RdS outS (fun y => o.num = y.1 ∧ RT.Alike y.2 o.rec_) w S rb L e R e' w'
set_option maxHeartbeats 8000000 in
theorem wrRow_any (w : World) (S : Nat → Prop) (rb : Nat) (L : List Int) (e : Int) (hS : ∀ b, S b → b < w.heap.size) (h : Rdr w S rb L e) : Calls Try.prog 81 #[.pointer (some ⟨rb, 0, none⟩)] w fun x w' => OutP w S rb L e x w' := by
  have hrl := h.lt
  obtain ⟨W0, hW0⟩ : ∃ W0, W0 = (w.alloc (.cells #[.int .i64 0, .string ⟨#[]⟩, .int .i64 0, .int .i64 0, .string ⟨#[]⟩, .slice none 0 0, .slice none 0 0] 43)).alloc (.cells #[.int .i64 0, .string ⟨#[]⟩, .int .i64 0, .int .i64 0, .string ⟨#[]⟩, .slice none 0 0, .slice none 0 0] 43) := ⟨_, rfl⟩
  have hb0 : Below w.heap.size w W0 := by rw [hW0]; exact ((Below.refl _ _).alloc (Nat.le_refl _) _).alloc (by simp) _
  have hv0 : Box W0 w.heap.size #[.int .i64 0, .string ⟨#[]⟩, .int .i64 0, .int .i64 0, .string ⟨#[]⟩, .slice none 0 0, .slice none 0 0] 43 := by rw [hW0]; exact (Box.new w _ _).below ((Below.refl _ _).alloc (Nat.le_refl _) _)
  have hu0 : Box W0 (w.heap.size + 1) #[.int .i64 0, .string ⟨#[]⟩, .int .i64 0, .int .i64 0, .string ⟨#[]⟩, .slice none 0 0, .slice none 0 0] 43 := by
    have := Box.new (w.alloc (.cells #[.int .i64 0, .string ⟨#[]⟩, .int .i64 0, .int .i64 0, .string ⟨#[]⟩, .slice none 0 0, .slice none 0 0] 43)) #[.int .i64 0, .string ⟨#[]⟩, .int .i64 0, .int .i64 0, .string ⟨#[]⟩, .slice none 0 0, .slice none 0 0] 43
    rw [show (w.alloc (.cells #[.int .i64 0, .string ⟨#[]⟩, .int .i64 0, .int .i64 0, .string ⟨#[]⟩, .slice none 0 0, .slice none 0 0] 43)).heap.size = w.heap.size + 1 by simp] at this
    rw [hW0]; exact this
  have HS := hid hS
  have HB0 : Hid (But (fun y => y = rb) w W0) := But.ofBelow hb0
  have HV0 := hid hv0
  have HU0 := hid hu0
  have HD0 : Hid (Rdr W0 S rb L e) := h.below hb0
  have hsz0 := hu0.lt
  have HC1 := hid (wrFirst_any W0 S rb L e 79 HD0.out)
  rw [hW0] at HC1
  clear h hb0 hv0 hu0 hS
  go_enter Try.func81, Try.ntmps81
  go_wp2_with fail
  refine HC1.out.mono ?_
  rw [← hW0]
  rintro x1 V1 ⟨R1, e1, rfl, ⟨hr1, hd1, hk1⟩⟩
  clear HC1
  have hkw1 := HB0.out.trans hk1
  have hv1 := HV0.out.but hk1 (by omega)
  have hu1 := HU0.out.but hk1 (by omega)
  have HR1 := hid hr1
  have HV1 := hid hv1
  have HU1 := hid hu1
  have HB1 := hid hkw1
  have HD1 := hid hd1
  have hsz1 := HU1.out.lt
  clear hr1 hd1 hk1 hkw1 hv1 hu1
  have HC2 := hid (wrNumber_any V1 S rb R1 e1 1073741824 (by omega) HD1.out)
  go_wp2_with fail
  refine HC2.out.mono ?_
  rintro x2 V2 ⟨r2, R2, e2, rfl, ⟨hr2, hd2, hk2⟩, hm2, _⟩
  clear HC2
  have hkw2 := HB1.out.trans hk2
  have hv2 := HV1.out.but hk2 (by omega)
  have hu2 := HU1.out.but hk2 (by omega)
  have HR2 := hid hr2
  have HM2 := hid hm2
  have c0 := hu2.cell 0
  have f0 := hu2.frozen 0
  simp at c0
  have hus2_0 : Box _ (w.heap.size + 1) #[.int .i64 (r2 : Int), .string ⟨#[]⟩, .int .i64 0, .int .i64 0, .string ⟨#[]⟩, .slice none 0 0, .slice none 0 0] 43 := hu2.set 0 (.int .i64 (r2 : Int))
  have hst2 : But (fun y => y = w.heap.size + 1) V2 (V2.setCell ⟨w.heap.size + 1, 0, none⟩ (.int .i64 (r2 : Int))) := (But.one V2 (w.heap.size + 1)).setAt 0 (.int .i64 (r2 : Int))
  have HV2 := hid (hv2.but hst2 (by omega))
  have HU2 := hid hus2_0
  have HB2 := hid (hkw2.new hst2 (by omega))
  have HD2 := hid (hd2.new (w := w) hst2 (by omega) hrl HS.out)
  have hsz2 := HU2.out.lt
  clear hr2 hd2 hk2 hkw2 hv2 hu2 hst2 hus2_0 hm2
  have HC3 := hid (wrRecord_any (V2.setCell ⟨w.heap.size + 1, 0, none⟩ (.int .i64 (r2 : Int))) S rb R2 e2 (fun b hb => by have := HS.out b hb; omega) HD2.out)
  go_wp2_with fail
  refine HC3.out.mono ?_
  rintro x3 V3 ⟨t3, R3, e3, rfl, hin3, ⟨hr3, hd3, hk3⟩⟩
  clear HC3
  have hkw3 := HB2.out.trans hk3
  have hv3 := HV2.out.but hk3 (by omega)
  have hu3 := HU2.out.but hk3 (by omega)
  have HR3 := hid hr3
  have c0 := hu3.cell 0
  have f0 := hu3.frozen 0
  simp at c0
  have c1 := hu3.cell 1
  have f1 := hu3.frozen 1
  simp at c1
  have c2 := hu3.cell 2
  have f2 := hu3.frozen 2
  simp at c2
  have c3 := hu3.cell 3
  have f3 := hu3.frozen 3
  simp at c3
  have c4 := hu3.cell 4
  have f4 := hu3.frozen 4
  simp at c4
  have c5 := hu3.cell 5
  have f5 := hu3.frozen 5
  simp at c5
  have c6 := hu3.cell 6
  have f6 := hu3.frozen 6
  simp at c6
  have d0 := hv3.cell 0
  have g0 := hv3.frozen 0
  simp at d0
  have d1 := hv3.cell 1
  have g1 := hv3.frozen 1
  simp at d1
  have d2 := hv3.cell 2
  have g2 := hv3.frozen 2
  simp at d2
  have d3 := hv3.cell 3
  have g3 := hv3.frozen 3
  simp at d3
  have d4 := hv3.cell 4
  have g4 := hv3.frozen 4
  simp at d4
  have d5 := hv3.cell 5
  have g5 := hv3.frozen 5
  simp at d5
  have d6 := hv3.cell 6
  have g6 := hv3.frozen 6
  simp at d6
  have hus3_0 : Box _ (w.heap.size + 1) #[.int .i64 (r2 : Int), .string t3.key, .int .i64 0, .int .i64 0, .string ⟨#[]⟩, .slice none 0 0, .slice none 0 0] 43 := hu3.set 1 (.string t3.key)
  have hus3_1 : Box _ (w.heap.size + 1) #[.int .i64 (r2 : Int), .string t3.key, .int .i64 t3.v.kind, .int .i64 0, .string ⟨#[]⟩, .slice none 0 0, .slice none 0 0] 43 := hus3_0.set 2 (.int .i64 t3.v.kind)
  have hus3_2 : Box _ (w.heap.size + 1) #[.int .i64 (r2 : Int), .string t3.key, .int .i64 t3.v.kind, .int .i64 t3.v.int, .string ⟨#[]⟩, .slice none 0 0, .slice none 0 0] 43 := hus3_1.set 3 (.int .i64 t3.v.int)
  have hus3_3 : Box _ (w.heap.size + 1) #[.int .i64 (r2 : Int), .string t3.key, .int .i64 t3.v.kind, .int .i64 t3.v.int, .string t3.v.text, .slice none 0 0, .slice none 0 0] 43 := hus3_2.set 4 (.string t3.v.text)
  have hus3_4 : Box _ (w.heap.size + 1) #[.int .i64 (r2 : Int), .string t3.key, .int .i64 t3.v.kind, .int .i64 t3.v.int, .string t3.v.text, .slice t3.v.p t3.v.n t3.v.c, .slice none 0 0] 43 := hus3_3.set 5 (.slice t3.v.p t3.v.n t3.v.c)
  have hus3_5 : Box _ (w.heap.size + 1) #[.int .i64 (r2 : Int), .string t3.key, .int .i64 t3.v.kind, .int .i64 t3.v.int, .string t3.v.text, .slice t3.v.p t3.v.n t3.v.c, .slice t3.p t3.n t3.c] 43 := hus3_4.set 6 (.slice t3.p t3.n t3.c)
  have hst3 : But (fun y => y = w.heap.size + 1) V3 ((((((V3.setCell ⟨w.heap.size + 1, 1, none⟩ (.string t3.key)).setCell ⟨w.heap.size + 1, 2, none⟩ (.int .i64 t3.v.kind)).setCell ⟨w.heap.size + 1, 3, none⟩ (.int .i64 t3.v.int)).setCell ⟨w.heap.size + 1, 4, none⟩ (.string t3.v.text)).setCell ⟨w.heap.size + 1, 5, none⟩ (.slice t3.v.p t3.v.n t3.v.c)).setCell ⟨w.heap.size + 1, 6, none⟩ (.slice t3.p t3.n t3.c)) := ((((((But.one V3 (w.heap.size + 1)).setAt 1 (.string t3.key)).setAt 2 (.int .i64 t3.v.kind)).setAt 3 (.int .i64 t3.v.int)).setAt 4 (.string t3.v.text)).setAt 5 (.slice t3.v.p t3.v.n t3.v.c)).setAt 6 (.slice t3.p t3.n t3.c)
  have HV3 := hid (hv3.but hst3 (by omega))
  have HU3 := hid hus3_5
  have HB3 := hid (hkw3.new hst3 (by omega))
  have HD3 := hid (hd3.new (w := w) hst3 (by omega) hrl HS.out)
  have hin3b := hin3.mono (S' := fun b => w.heap.size + 2 ≤ b) (fun b hb _ => by omega)
  have HI3_3 := hid (hin3b.but hst3 (fun b hb _ e => by omega))
  have hsz3 := HU3.out.lt
  have zz := set7_box HV3.out (.int .i64 (r2 : Int)) (.string t3.key) (.int .i64 t3.v.kind) (.int .i64 t3.v.int) (.string t3.v.text) (.slice t3.v.p t3.v.n t3.v.c) (.slice t3.p t3.n t3.c)
  have r0' := zz.cell 0
  have r1' := zz.cell 1
  have r2' := zz.cell 2
  have r3' := zz.cell 3
  have r4' := zz.cell 4
  have r5' := zz.cell 5
  have r6' := zz.cell 6
  simp only [List.getElem?_toArray, List.getElem?_cons_zero, List.getElem?_cons_succ] at r0'  r1'  r2'  r3'  r4'  r5'  r6' 
  have HZ := hid (And.intro r0' (And.intro r1' (And.intro r2' (And.intro r3' (And.intro r4' (And.intro r5' (r6')))))))
  clear hr3 hd3 hk3 hkw3 hv3 hu3 hst3 hus3_0 hus3_1 hus3_2 hus3_3 hus3_4 hus3_5 hin3 hin3b zz r0' r1' r2' r3' r4' r5' r6'
  unfold RT.val
  go_wp2
  obtain ⟨r0' , r1' , r2' , r3' , r4' , r5' , r6' ⟩ := HZ.out
  have hfin := But.sets7 ((((((V3.setCell ⟨w.heap.size + 1, 1, none⟩ (.string t3.key)).setCell ⟨w.heap.size + 1, 2, none⟩ (.int .i64 t3.v.kind)).setCell ⟨w.heap.size + 1, 3, none⟩ (.int .i64 t3.v.int)).setCell ⟨w.heap.size + 1, 4, none⟩ (.string t3.v.text)).setCell ⟨w.heap.size + 1, 5, none⟩ (.slice t3.v.p t3.v.n t3.v.c)).setCell ⟨w.heap.size + 1, 6, none⟩ (.slice t3.p t3.n t3.c)) w.heap.size (.int .i64 (r2 : Int)) (.string t3.key) (.int .i64 t3.v.kind) (.int .i64 t3.v.int) (.string t3.v.text) (.slice t3.v.p t3.v.n t3.v.c) (.slice t3.p t3.n t3.c)
  have HBf := HB3.out.new hfin (Nat.le_refl _)
  have HDf := HD3.out.new (w := w) hfin (Nat.le_refl _) hrl HS.out
  have HF3 := (HI3_3.out.but hfin (fun b hb _ e => by omega)).mono (S' := fun b => w.heap.size ≤ b) (fun b hb _ => by omega)
  refine bodyPost_ret (v := OT.val ⟨r2, t3⟩) (by simp [results, Try.results81, go_sem, OT.val, r0' , r1' , r2' , r3' , r4' , r5' , r6' ]) rfl ?_
  refine ⟨⟨r2, t3⟩, R3, e3, rfl, ⟨HM2.out, HF3⟩, ⟨HR1.out.bind (fun _ _ _ => ?_) (RR.stay2 HR2.out.stay HR3.out.stay), HDf, HBf⟩⟩
  refine HR2.out.bind (fun y hy _ => ?_) HR3.out.stay
  subst hy
  exact HR3.out.map fun _ y3 hy3 => ⟨rfl, hy3⟩
end Go.Proofs.Ytikfpoabaaiegaa
