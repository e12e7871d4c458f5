import Derived.Test.YtfonicphdejdlaaGreatPack1
import Derived.Test.YtfonicphdejdlaaGreatWrM
import Derived.Test.YtfonicphdejdlaaGreatPack2
namespace Go.Proofs.YtfonicphdejdlaaGreat
open Go.RowKit
set_option maxRecDepth 8000
set_option maxHeartbeats 4000000 in
theorem yRecord (r q : RT) (w : World) (S R : Nat → Prop) (hr : RT.In w S r) (hq : RT.In w R q) :
    Calls Tryz.prog 16 #[r.val, q.val] w fun e w' => YesNo (RT.Alike r q) e w w' := by
  have hb0 : Below w.heap.size w ((w.alloc (.cells #[.string r.key, .int .i64 r.v.kind, .int .i64 r.v.int, .string r.v.text, .slice r.v.p r.v.n r.v.c, .slice r.p r.n r.c] 27)).alloc (.cells #[.string q.key, .int .i64 q.v.kind, .int .i64 q.v.int, .string q.v.text, .slice q.v.p q.v.n q.v.c, .slice q.p q.n q.c] 27)) := ((Below.refl _ _).alloc (Nat.le_refl _) _).alloc (by simp) _
  have hx0 := (Box.new w #[.string r.key, .int .i64 r.v.kind, .int .i64 r.v.int, .string r.v.text, .slice r.v.p r.v.n r.v.c, .slice r.p r.n r.c] 27).below ((Below.refl _ _).alloc (Nat.le_refl _) (.cells #[.string q.key, .int .i64 q.v.kind, .int .i64 q.v.int, .string q.v.text, .slice q.v.p q.v.n q.v.c, .slice q.p q.n q.c] 27))
  have hy0 := Box.new (w.alloc (.cells #[.string r.key, .int .i64 r.v.kind, .int .i64 r.v.int, .string r.v.text, .slice r.v.p r.v.n r.v.c, .slice r.p r.n r.c] 27)) #[.string q.key, .int .i64 q.v.kind, .int .i64 q.v.int, .string q.v.text, .slice q.v.p q.v.n q.v.c, .slice q.p q.n q.c] 27
  rw [show (w.alloc (.cells #[.string r.key, .int .i64 r.v.kind, .int .i64 r.v.int, .string r.v.text, .slice r.v.p r.v.n r.v.c, .slice r.p r.n r.c] 27)).heap.size = w.heap.size + 1 by simp] at hy0
  have HV : ∀ W, Below w.heap.size w W → Calls Tryz.prog 32 #[r.v.val, q.v.val] W fun e w' => YesNo (VT.Alike r.v q.v) e W w' := fun W hW => yValue r.v q.v W S R (hr.v.below hW) (hq.v.below hW)
  unfold VT.val at HV
  have HC := hid (HV _ hb0)
  have HX0 := hid hx0
  have HY0 := hid hy0
  have HB0 := hid hb0
  have hrn := hr.l.nn
  have HIr := hid hr.l
  have HIq := hid hq.l
  unfold RT.val
  clear hr hq hb0 hx0 hy0 HV
  by_cases hk : r.key = q.key
  case neg =>
    have hk' := str_ne hk
    have HN : Hid (¬ RT.Alike r q) := fun h => hk h.key.symm
    clear hk HC
    go_enter Tryz.func16, Tryz.ntmps16
    go_wp2
    go_ret
    exact yn_no HN.out HB0.out
  have HK := hid hk
  obtain ⟨key, v, p, n, c, lp⟩ := r
  obtain ⟨key2, v2, p2, n2, c2, lp2⟩ := q
  simp only at hk HC HX0 HY0 HB0 HIr HIq hrn ⊢
  subst hk
  clear HK
  go_enter Tryz.func16, Tryz.ntmps16
  go_wp2_with fail
  refine HC.out.mono ?_
  rintro x w1 ⟨r1, rfl, hr1, hb1⟩
  have hx1 := HX0.out.below hb1
  have hy1 := HY0.out.below hb1
  have c5 := hx1.cell 5
  have d5 := hy1.cell 5
  simp only [List.getElem?_toArray, List.getElem?_cons_zero, List.getElem?_cons_succ] at c5 d5
  have HX1 := hid hx1
  have HY1 := hid hy1
  have HB1 := hid (HB0.out.trans (hb1.mono HB0.out.size))
  clear hx1 hy1 hb1 HC HX0 HY0 HB0
  cases r1 with
  | false =>
    have HN : Hid (¬ RT.Alike ⟨key, v, p, n, c, lp⟩ ⟨key, v2, p2, n2, c2, lp2⟩) := fun h => absurd (hr1.2 h.v) (by decide)
    clear hr1
    go_wp2
    go_ret
    exact yn_no HN.out HB1.out
  | true =>
    have HVA := hid (hr1.1 rfl)
    clear hr1
    by_cases hn : n = n2
    case neg =>
      have hn' := int_ne hn
      have HN : Hid (¬ RT.Alike ⟨key, v, p, n, c, lp⟩ ⟨key, v2, p2, n2, c2, lp2⟩) := fun h => hn h.n.symm
      clear hn
      go_wp2
      go_ret
      exact yn_no HN.out HB1.out
    subst hn
    go_wp2_with fail
    go_loopw [5] (fun x wr => ∃ j : Nat, j ≤ n ∧ x = .int .i64 j ∧ (∀ i, i < j → lp2 i = lp i) ∧ Below w1.heap.size w1 wr) (fun x _ => n - (intOf x).toNat)
    case atStart => exact ⟨0, Nat.zero_le _, rfl, fun i hi => absurd hi (by omega), Below.refl _ _⟩
    case round =>
      obtain ⟨j, hj, rfl, hA, hbel⟩ := hrel
      have HA := hid hA
      clear hA
      have hx2 := HX1.out.below hbel
      have hy2 := HY1.out.below hbel
      have a5 := hx2.cell 5
      have b5 := hy2.cell 5
      simp only [List.getElem?_toArray, List.getElem?_cons_zero, List.getElem?_cons_succ] at a5 b5
      have hs1 := HB1.out.size
      have HB2 := hid hbel
      by_cases hlt : j < n
      · have hlt' : (j : Int) < (n : Int) := by omega
        obtain ⟨b1, o1, hp, _, hl1, ha⟩ := HIr.out.at_ (by omega)
        obtain ⟨b2, o2, hp', _, hl2, ha'⟩ := HIq.out.at_ (by omega)
        have e1 := (World.cell?_of_block (a := ⟨b1, o1 + j, none⟩) ((hbel.block b1 (by omega)).trans (HB1.out.block b1 hl1))).trans (ha j hlt)
        have e2 := (World.cell?_of_block (a := ⟨b2, o2 + j, none⟩) ((hbel.block b2 (by omega)).trans (HB1.out.block b2 hl2))).trans (ha' j hlt)
        rw [hp] at a5
        rw [hp'] at b5
        clear ha ha' hbel hx2 hy2 c5 d5
        by_cases hi : lp2 j = lp j
        · have HA2 : Hid (∀ i, i < j + 1 → lp2 i = lp i) := fun i hi2 => by
            by_cases h : i < j
            · exact HA.out i h
            · obtain rfl : i = j := by omega
              exact hi
          rw [hi] at e2
          clear hi
          go_wp2_with fail
          go_region
          all_goals
            go_wp2
            go_roundw
            case rel => exact ⟨j + 1, by omega, by go_num, HA2.out, HB2.out.drew⟩
            case measure => simp [intOf]; omega
        · have hi' : (lp j != lp2 j) = true := by rw [bne_iff_ne]; exact fun h => hi h.symm
          have HN : Hid (¬ RT.Alike ⟨key, v, p, n, c, lp⟩ ⟨key, v2, p2, n, c2, lp2⟩) := fun h => hi (h.loop j hlt)
          clear hi
          go_wp2_with fail
          go_region
          all_goals
            go_wp2
            go_ret
            exact yn_no HN.out (HB1.out.trans (HB2.out.drew.mono hs1))
      · obtain rfl : j = n := by omega
        have hlt' : ¬ (j : Int) < (j : Int) := by omega
        clear hbel hx2 hy2
        go_wp2
        go_ret
        exact yn_yes ⟨rfl, HVA.out, rfl, HA.out⟩ (HB1.out.trans (HB2.out.mono hs1))
set_option maxHeartbeats 4000000 in
theorem yRecords (l u : LT RT) (w : World) (S R : Nat → Prop) (hl : LT.In elRec w S l) (hu : LT.In elRec w R u) :
    Calls Tryz.prog 64 #[.slice l.p l.n l.c, .slice u.p u.n u.c] w fun e w' => YesNo (RecsAlike l u) e w w' := by
  obtain ⟨p, n, c, f⟩ := l
  obtain ⟨p2, n2, c2, f2⟩ := u
  have hnn := hl.nn
  have H := hid hl
  have H' := hid hu
  simp only at hnn ⊢
  clear hl hu
  by_cases hn : n = n2
  case neg =>
    have hn' := int_ne hn
    have HN : Hid (¬ RecsAlike ⟨p, n, c, f⟩ ⟨p2, n2, c2, f2⟩) := fun h => hn h.1.symm
    go_enter Tryz.func64, Tryz.ntmps64
    go_wp2
    go_ret
    exact yn_no HN.out (Below.refl _ _)
  subst hn
  go_enter Tryz.func64, Tryz.ntmps64
  go_wp2_with fail
  go_loopw [5] (fun x wr => ∃ j : Nat, j ≤ n ∧ x = .int .i64 j ∧ (∀ q, q < j → RT.Alike (f q) (f2 q)) ∧ Below w.heap.size w wr) (fun x _ => n - (intOf x).toNat)
  case atStart => exact ⟨0, Nat.zero_le _, rfl, fun q hq => absurd hq (by omega), Below.refl _ _⟩
  case round =>
    obtain ⟨j, hj, rfl, hA, hbel⟩ := hrel
    have HA := hid hA
    have HB := hid hbel
    clear hA
    by_cases hlt : j < n
    · have hlt' : (j : Int) < (n : Int) := by omega
      obtain ⟨b1, o1, hp, _, hl1, ha⟩ := H.out.at_ (show 0 < n by omega)
      obtain ⟨b2, o2, hp', _, hl2, ha'⟩ := H'.out.at_ (show 0 < n by omega)
      simp only at hp hp'
      subst hp hp'
      have hca : ∀ r u, (elRec.cells (f j))[r]? = some u → wr.cell? ⟨b1, o1 + j * 6 + r, none⟩ = some u := fun r u hu => (World.cell?_of_block (a := ⟨b1, o1 + j * 6 + r, none⟩) (hbel.block b1 hl1)).trans (ha j hlt r u hu)
      have hcb : ∀ r u, (elRec.cells (f2 j))[r]? = some u → wr.cell? ⟨b2, o2 + j * 6 + r, none⟩ = some u := fun r u hu => (World.cell?_of_block (a := ⟨b2, o2 + j * 6 + r, none⟩) (hbel.block b2 hl2)).trans (ha' j hlt r u hu)
      have a0 := hca 0 _ rfl
      have a1 := hca 1 _ rfl
      have a2 := hca 2 _ rfl
      have a3 := hca 3 _ rfl
      have a4 := hca 4 _ rfl
      have a5 := hca 5 _ rfl
      have e0 := hcb 0 _ rfl
      have e1 := hcb 1 _ rfl
      have e2 := hcb 2 _ rfl
      have e3 := hcb 3 _ rfl
      have e4 := hcb 4 _ rfl
      have e5 := hcb 5 _ rfl
      simp only [Nat.add_zero] at a0 e0
      have HC : Hid (∀ W, Below wr.heap.size wr W → Calls Tryz.prog 16 #[(f j).val, (f2 j).val] W fun e w' => YesNo (RT.Alike (f j) (f2 j)) e W w') := fun W hW =>
        yRecord (f j) (f2 j) W _ _ ((show RT.In w S (f j) from H.out.each j hlt).below ((HB.out).trans (hW.mono HB.out.size))) ((show RT.In w R (f2 j) from H'.out.each j hlt).below ((HB.out).trans (hW.mono HB.out.size)))
      unfold RT.val at HC
      have HW : Hid (∀ w4, Below wr.heap.size wr.drew w4 → Below w.heap.size w w4) := fun w4 hb4 => HB.out.trans ((((Below.refl wr.heap.size wr).drew.trans hb4)).mono HB.out.size)
      clear ha ha' hbel hca hcb
      go_wp2_with fail
      go_region_with (go_at_call 16; refine (HC.out _ ?_).mono ?_; exact (Below.refl _ _).drew; intro e w4 hP4; obtain ⟨r4, rfl, hr4, hb4⟩ := hP4)
      all_goals
        cases r4 with
        | false =>
          have HN : Hid (¬ RecsAlike ⟨some ⟨b1, o1, none⟩, n, c, f⟩ ⟨some ⟨b2, o2, none⟩, n, c2, f2⟩) := fun h => absurd (hr4.2 (h.2 j hlt)) (by decide)
          have HBe := hid (HW.out w4 hb4)
          clear hr4 hb4
          go_wp2
          go_ret
          exact yn_no HN.out HBe.out
        | true =>
          have HA2 : Hid (∀ q, q < j + 1 → RT.Alike (f q) (f2 q)) := fun q hq => by
            by_cases h : q < j
            · exact HA.out q h
            · obtain rfl : q = j := by omega
              exact hr4.1 rfl
          have HBe := hid (HW.out w4 hb4)
          clear hr4 hb4
          go_wp2
          go_roundw
          case rel => exact ⟨j + 1, by omega, by go_num, HA2.out, HBe.out⟩
          case measure => simp [intOf]; omega
    · obtain rfl : j = n := by omega
      have hlt' : ¬ (j : Int) < (j : Int) := by omega
      clear hbel
      go_wp2
      go_ret
      exact yn_yes ⟨rfl, HA.out⟩ HB.out
end Go.Proofs.YtfonicphdejdlaaGreat

namespace Go.Proofs.YtfonicphdejdlaaGreat
open Go.RowKit
set_option maxRecDepth 8000
/-- what reading all bytes comes to -/
structure WholeP {α β : Type} (s : RS α) (val : β → Value) (zero : Value) (In : World → (Nat → Prop) → β → Prop) (Is : β → α → Prop) (w : World) (B : List Int) (x : Ending) (w' : World) : Prop where
  bel : Below w.heap.size w w'
  good : ∀ y, s B = .ok (y, []) → ∃ t, x = .returned (.tuple #[val t, .int .i64 0]) ∧ In w' (fun b => w.heap.size ≤ b) t ∧ Is t y
  more : ∀ y z R, s B = .ok (y, z :: R) → x = .returned (.tuple #[zero, .int .i64 44])
  bad : ∀ k : Nat, s B = .error k → x = .returned (.tuple #[zero, .int .i64 (k : Int)]) ∧ k ≠ 0
def MT.In (w : World) (S : Nat → Prop) (m : MT) : Prop := m.id ≤ 9999 ∧ m.sum < 4294967296 ∧ LT.In elRow w S m.rows
theorem MT.In.mono {w : World} {S S' : Nat → Prop} {m : MT} (h : MT.In w S m) (hb : ∀ b, S b → b < w.heap.size → S' b) : MT.In w S' m := ⟨h.1, h.2.1, h.2.2.mono hb⟩
theorem MT.In.but {w w' : World} {S X : Nat → Prop} {m : MT} (h : MT.In w S m) (hb : But X w w') (hx : ∀ b, S b → b < w.heap.size → ¬ X b) : MT.In w' S m := ⟨h.1, h.2.1, h.2.2.but hb hx⟩
theorem MT.In.below {w w' : World} {S : Nat → Prop} {m : MT} (h : MT.In w S m) (hb : Below w.heap.size w w') : MT.In w' S m := ⟨h.1, h.2.1, h.2.2.below hb⟩
def OT.In (w : World) (S : Nat → Prop) (o : OT) : Prop := o.num ≤ 1073741824 ∧ RT.In w S o.rec_
theorem OT.In.mono {w : World} {S S' : Nat → Prop} {o : OT} (h : OT.In w S o) (hb : ∀ b, S b → b < w.heap.size → S' b) : OT.In w S' o := ⟨h.1, h.2.mono hb⟩
theorem OT.In.but {w w' : World} {S X : Nat → Prop} {o : OT} (h : OT.In w S o) (hb : But X w w') (hx : ∀ b, S b → b < w.heap.size → ¬ X b) : OT.In w' S o := ⟨h.1, h.2.but hb hx⟩
theorem OT.In.below {w w' : World} {S : Nat → Prop} {o : OT} (h : OT.In w S o) (hb : Below w.heap.size w w') : OT.In w' S o := ⟨h.1, h.2.below hb⟩
theorem DT.In.below {w w' : World} {S : Nat → Prop} {d : DT} (h : DT.In w S d) (hb : Below w.heap.size w w') : DT.In w' S d := ⟨h.n, h.set.below hb, h.gone.below hb⟩
theorem GT.In.mono {w : World} {S S' : Nat → Prop} {g : GT} (h : GT.In w S g) (hb : ∀ b, S b → b < w.heap.size → S' b) : GT.In w S' g := ⟨h.id, h.task, h.base, h.sum, h.st.mono hb, h.d.mono hb, h.logs.mono hb, h.pend.mono hb⟩
theorem GT.In.but {w w' : World} {S X : Nat → Prop} {g : GT} (h : GT.In w S g) (hb : But X w w') (hx : ∀ b, S b → b < w.heap.size → ¬ X b) : GT.In w' S g := ⟨h.id, h.task, h.base, h.sum, h.st.but hb hx, h.d.but hb hx, h.logs.but hb hx, h.pend.but hb hx⟩
theorem GT.In.below {w w' : World} {S : Nat → Prop} {g : GT} (h : GT.In w S g) (hb : Below w.heap.size w w') : GT.In w' S g := ⟨h.id, h.task, h.base, h.sum, h.st.below hb, h.d.below hb, h.logs.below hb, h.pend.below hb⟩
/-- all bytes, as a reader's -/
theorem rdr_start {w : World} {S : Nat → Prop} {p : Option Addr} {c : Nat} {B : List Int} {A : Array Value} {t : TypeId} (hB : Byts w S p B.length c (fun j => B.getD j 0)) (hS : ∀ b, S b → b < w.heap.size) (hp : p = none → B.length = 0) :
    Rdr ((w.alloc (.cells A t)).alloc (.cells #[.slice p B.length B.length, .int .i64 0] 151)) S (w.heap.size + 1) B 0 ∧ Box ((w.alloc (.cells A t)).alloc (.cells #[.slice p B.length B.length, .int .i64 0] 151)) w.heap.size A t ∧ Below w.heap.size w ((w.alloc (.cells A t)).alloc (.cells #[.slice p B.length B.length, .int .i64 0] 151)) ∧ ((w.alloc (.cells A t)).alloc (.cells #[.slice p B.length B.length, .int .i64 0] 151)).heap.size = w.heap.size + 2 := by
  have hb1 : Below w.heap.size w (w.alloc (.cells A t)) := (Below.refl _ _).alloc (Nat.le_refl _) _
  have hb2 := (Below.refl (w.alloc (.cells A t)).heap.size (w.alloc (.cells A t))).alloc (Nat.le_refl _) (.cells #[.slice p B.length B.length, .int .i64 0] 151)
  have hbx := Box.new (w.alloc (.cells A t)) #[.slice p B.length B.length, .int .i64 0] 151
  rw [show (w.alloc (.cells A t)).heap.size = w.heap.size + 1 by simp] at hbx
  have hB2 : Byts w S p B.length B.length (fun j => B.getD j 0) := ⟨hB.at_, Nat.le_refl _, hB.nn, Nat.le_trans hB.nc hB.cc, hB.fit, fun h => ⟨hp h, hp h⟩⟩
  have hb : Below w.heap.size w ((w.alloc (.cells A t)).alloc (.cells #[.slice p B.length B.length, .int .i64 0] 151)) := hb1.trans (hb2.mono (by simp))
  refine ⟨⟨⟨p, hbx, hB2.kept hb.size fun b _ hl => hb.block b hl⟩, fun h => by have := hS _ h; omega⟩, (Box.new w A t).below hb2, hb, by simp⟩
end Go.Proofs.YtfonicphdejdlaaGreat

namespace Go.Proofs.YtfonicphdejdlaaGreat
open Go.RowKit
set_option maxRecDepth 8000

set_option maxHeartbeats 2000000 in
theorem appendEncoded_any (t : VT) : ∀ (base : Nat) (w : World) (v : Value) (zs : List Int), base ≤ w.heap.size → OwnBy base w v zs → VT.In w (fun b => b < base) t → Val t → zs.length + (encB t).length ≤ 80000 →
    Calls Tryz.prog 118 #[v, t.val] w fun e w' => EPost base w (zs ++ encB t) e w' := by
  obtain ⟨i0, Kd⟩ := kindB
  induction t with
  | nil => intro base w v zs _ _ _ h; exact h.elim
  | mk k i s n p c f ih =>
    intro base w v zs hB hv hin hval hlen
    obtain ⟨⟨hf, hs24, hn6, hi1, hi2⟩, hvi⟩ := hval
    have hk : 0 ≤ k ∧ k ≤ 3 := by
      simp only [fitB, Bool.and_eq_true, Bool.or_eq_true, decide_eq_true_eq] at hf
      exact ⟨hf.1.1.1.1, hf.1.1.1.2⟩
    obtain ⟨hk0, hk3⟩ := hk
    simp only [VT.val, VT.kind_mk, VT.int_mk, VT.text_mk, VT.p_mk, VT.n_mk, VT.c_mk]
    have hzl : zs.length ≤ 80000 := by omega
    have HI := hid hin
    have hkm : k % 256 = k := by omega
    have ha : Below w.heap.size w (w.alloc (.cells #[.int .i64 k, .int .i64 i, .string s, .slice p n c] 24)) := (Below.refl _ _).alloc (Nat.le_refl _) _
    have hv0 : LayB base w zs v (w.alloc (.cells #[.int .i64 k, .int .i64 i, .string s, .slice p n c] 24)) := ⟨hv.below ha, ha.mono hB, KeepN.below ha⟩
    have hbx := Box.new w #[.int .i64 k, .int .i64 i, .string s, .slice p n c] 24
    have HL0 := hid hv0
    have HBx := hid hbx
    have hrow : (w.alloc (.cells #[.int .i64 k, .int .i64 i, .string s, .slice p n c] 24)).ownsRow base 5 1 v zs.length (zs.map (Value.int .u8)) := hv0.own
    clear hin hf hv ha hv0 hbx
    have E : Hid (zs ++ encB (.mk k i s n p c f) = (zs ++ [k]) ++ (if k = 1 then grpB (foldN i) else if k = 2 then (s.size : Int) :: txtB s else if k = 3 then (n : Int) :: (List.range n).flatMap fun j => encB (f j) else [])) := by
      unfold Hid
      rw [encB_eq, List.append_assoc]; rfl
    have HLen : Hid ((zs ++ encB (.mk k i s n p c f)).length ≤ 80000) := by unfold Hid; rw [List.length_append]; exact hlen
    generalize zs ++ encB (.mk k i s n p c f) = RES at *
    clear hlen
    go_enter Tryz.func118, Tryz.ntmps118
    go_wp2_with (at_builtin; refine wpList_app rfl (.tmp 7) (.tmp 11) 49 5 i0 _ 1 1 Kd rfl base v zs.length _ rfl (hrow.alloc _) ⟨w.heap.size + 1, 0, none⟩ 1 1 [.int .u8 k] rfl rfl ?_ (one8 _) (by omega) (by omega) (by simp; omega) ?_)
    · have h := cell_one_new (w.alloc (.cells #[.int .i64 k, .int .i64 i, .string s, .slice p n c] 24)) (.int .u8 k) 5
      rw [show (w.alloc (.cells #[.int .i64 k, .int .i64 i, .string s, .slice p n c] 24)).heap.size = w.heap.size + 1 by simp] at h
      exact h
    · intro v1 w1 ho1 hg1 hn1
      have hL1 := HL0.out.one (by simp; omega) ho1 hg1
      have hB1 : Box w1 w.heap.size #[.int .i64 k, .int .i64 i, .string s, .slice p n c] 24 :=
        (KeepN.grown (HL0.out.own.below ((Below.refl _ _).alloc (Nat.le_refl _) _)) hg1).box (by decide) (HBx.out.below ((Below.refl _ _).alloc (Nat.le_refl _) _))
      have HL1 := hid hL1
      have HB1 := hid hB1
      have x0 := hB1.cell 0
      have x1 := hB1.cell 1
      have x2 := hB1.cell 2
      have x3 := hB1.cell 3
      simp at x0 x1 x2 x3
      have hsw := hL1.bel.size
      have hl1 : (zs ++ [k]).length ≤ 80001 := by simp; omega
      obtain ⟨L, hL⟩ : ∃ L, L = zs ++ [k] := ⟨_, rfl⟩
      rw [← hL] at hL1 HL1 hl1
      have HLe := hid hL
      have hrow1 : w1.ownsRow base 5 1 v1 L.length (L.map (Value.int .u8)) := hL1.own
      clear ho1 hg1 hn1 hL1 hB1 HL0 HBx hrow hL
      rw [← HLe.out] at E
      rcases (by omega : k = 0 ∨ k = 1 ∨ k = 2 ∨ k = 3) with rfl | rfl | rfl | rfl
      · have e : Hid (RES = L) := by unfold Hid; rw [E.out]; simp
        go_wp2
        go_ret
        exact ⟨_, rfl, e.out ▸ HL1.out⟩
      · have e : Hid (RES = L ++ grpB (foldN i)) := by unfold Hid; rw [E.out]; simp
        have HFo := fun W => fold_any i hi1 hi2 W
        have HG := hid (appendGroups_any (foldN i) (foldN_lt hi1 hi2) base w1 v1 L HL1.out.own (by omega) (by omega))
        go_wp2_with fail
        refine (HFo _).mono ?_
        rintro e2 w2 ⟨rfl, hw2⟩
        subst w2
        go_wp2_with fail
        refine HG.out.mono ?_
        intro e3 w3 hP
        obtain ⟨v3, rfl, h3⟩ := hP
        have HF := hid (h3.lift HL1.out.bel HL1.out.keep)
        clear h3 HG
        go_wp2
        go_ret
        exact ⟨_, rfl, e.out ▸ HF.out⟩
      · have e : Hid (RES = (L ++ [(s.size : Int)]) ++ txtB s) := by unfold Hid; rw [E.out]; simp
        have hs' : (s.size : Int) % 256 = (s.size : Int) := by omega
        go_wp2_with (at_builtin; refine wpList_app rfl (.tmp 24) (.tmp 29) 49 5 i0 _ 1 1 Kd rfl base v1 L.length _ rfl (hrow1.alloc _) ⟨w1.heap.size, 0, none⟩ 1 1 [.int .u8 (s.size : Int)] rfl rfl (cell_one_new _ _ _) (one8 _) (by omega) (by omega) (by simp; omega) ?_)
        intro v2 w2 ho2 hg2 hn2
        have hL2 := HL1.out.one (by omega) ho2 hg2
        have hB2 := ((KeepN.below ((Below.refl _ _).alloc (Nat.le_refl _) (.cells #[.int .u8 (s.size : Int)] 5))).trans (KeepN.grown (HL1.out.own.below ((Below.refl _ _).alloc (Nat.le_refl _) _)) hg2)).box (by decide) HB1.out
        have y2 := hB2.cell 2
        simp at y2
        obtain ⟨L2, hL2e⟩ : ∃ L2, L2 = L ++ [(s.size : Int)] := ⟨_, rfl⟩
        rw [← hL2e] at hL2
        have hl2 : L2.length ≤ 80002 := by rw [hL2e]; simp; omega
        have HL2 := hid hL2
        have HLe2 := hid hL2e
        have hrow2 : w2.ownsRow base 5 1 v2 L2.length (L2.map (Value.int .u8)) := hL2.own
        have hs2 := hL2.bel.size
        clear ho2 hg2 hn2 hL2 hB2 hL2e x0 x1 x2 x3 hrow1
        go_wp2_with (at_builtin; go_loud (refine Go.Lib.wpList_append_own_string _ rfl (.tmp 31) (.tmp 33) 49 9 rfl base 5 i0 Kd.ht Tryz.underlying9 Kd.hi Kd.hz Kd.hsize Kd.hby v2 L2.length _ rfl hrow2 s rfl (by unfold maxLen; omega) (by omega) (by omega) ?_))
        intro v3 w3 ho3 hg3 _
        have HF := hid (HL2.out.text (by omega) ho3 hg3)
        clear ho3 hg3 hrow2
        go_wp2
        go_ret
        exact ⟨_, rfl, by rw [e.out, ← HLe2.out]; exact HF.out⟩
      · have e : Hid (RES = (L ++ [(n : Int)]) ++ (List.range n).flatMap fun j => encB (f j)) := by unfold Hid; rw [E.out]; simp
        have hn' : (n : Int) % 256 = (n : Int) := by omega
        go_wp2_with (at_builtin; refine wpList_app rfl (.tmp 37) (.tmp 42) 49 5 i0 _ 1 1 Kd rfl base v1 L.length _ rfl (hrow1.alloc _) ⟨w1.heap.size, 0, none⟩ 1 1 [.int .u8 (n : Int)] rfl rfl (cell_one_new _ _ _) (one8 _) (by omega) (by omega) (by simp; omega) ?_)
        intro v2 w2 ho2 hg2 hn2
        have hL2 := HL1.out.one (by omega) ho2 hg2
        have hB2 := ((KeepN.below ((Below.refl _ _).alloc (Nat.le_refl _) (.cells #[.int .u8 (n : Int)] 5))).trans (KeepN.grown (HL1.out.own.below ((Below.refl _ _).alloc (Nat.le_refl _) _)) hg2)).box (by decide) HB1.out
        have HB2 := hid hB2
        have y3 := hB2.cell 3
        simp at y3
        have HL2 := hid hL2
        clear ho2 hg2 hn2 hL2 hB2 x0 x1 x2 x3 hrow1
        go_wp2_with fail
        go_loopw [0, 47] (fun v x wr => ∃ j : Nat, j ≤ n ∧ x = .int .i64 j ∧ LayB base w ((L ++ [(n : Int)]) ++ (List.range j).flatMap fun j => encB (f j)) v wr) (fun _ x _ => n - (intOf x).toNat)
        case atStart => exact ⟨0, Nat.zero_le _, rfl, by simpa using HL2.out⟩
        case round =>
          obtain ⟨j, hj, rfl, hLj⟩ := hrel
          have hsj := hLj.bel.size
          by_cases hlt : j < n
          · have hlt' : (j : Int) < (n : Int) := by omega
            obtain ⟨bb, o, hp, hSb, hbl, hat⟩ := HI.out.at_ (show 0 < (VT.mk 3 i s n p c f).n from by simp only [VT.n]; omega)
            simp only [VT.p_mk] at hp
            subst hp
            obtain ⟨d0, d1, d2, d3⟩ := (hat j hlt).kept (hLj.bel.block bb hSb)
            simp only [VT.item_mk] at d0 d1 d2 d3
            obtain ⟨M, hM⟩ : ∃ M, M = (L ++ [(n : Int)]) ++ (List.range j).flatMap fun j => encB (f j) := ⟨_, rfl⟩
            rw [← hM] at hLj
            have hM2 : M ++ encB (f j) = (L ++ [(n : Int)]) ++ (List.range (j + 1)).flatMap fun j => encB (f j) := by rw [hM, List.range_succ, List.flatMap_append]; simp
            have hMl : M.length + (encB (f j)).length ≤ 80000 := by
              have h1 := HLen.out
              rw [e.out] at h1
              have h2 : ∀ a b : Nat, a ≤ b → ((List.range a).flatMap fun j => encB (f j)).length ≤ ((List.range b).flatMap fun j => encB (f j)).length := by
                intro a b hab
                induction hab with
                | refl => exact Nat.le_refl _
                | step _ ih => rw [List.range_succ, List.flatMap_append, List.length_append]; omega
              have h3 := h2 (j + 1) n hlt
              have h4 := congrArg List.length hM2
              simp only [List.length_append, List.length_cons, List.length_nil] at h1 h4
              omega
            have ha : Below wr.heap.size wr (wr.alloc (.cells #[.int .i64 (f j).kind, .int .i64 (f j).int, .string (f j).text, .slice (f j).p (f j).n (f j).c] 24)) := (Below.refl _ _).alloc (Nat.le_refl _) _
            have HC := hid (ih j base (wr.alloc (.cells #[.int .i64 (f j).kind, .int .i64 (f j).int, .string (f j).text, .slice (f j).p (f j).n (f j).c] 24)) u0 M (by simp; omega) (hLj.own.below ha) (((HI.out.sub hlt).kept hLj.bel.size fun b hb _ => hLj.bel.block b hb).below ha) (hvi j hlt) hMl)
            unfold VT.val at HC
            have HLj := hid (hLj.bel.trans (ha.mono (by omega)))
            have HKj := hid (hLj.keep.trans (KeepN.below ha))
            have HM2 := hid hM2
            clear hat hLj hM2 hMl hM ha ih
            go_wp2_with fail
            refine HC.out.mono ?_
            intro e3 w3 hP
            obtain ⟨v3, rfl, h3⟩ := hP
            have HF := hid (h3.lift HLj.out HKj.out)
            clear h3 HC d0 d1 d2 d3
            go_wp2
            go_roundw
            case rel => exact ⟨j + 1, by omega, by go_num, HM2.out ▸ HF.out⟩
            case measure => simp [intOf]; omega
          · have hje : j = n := by omega
            have hlt' : ¬ (j : Int) < (n : Int) := by omega
            rw [hje] at hLj
            have HF := hid hLj
            clear hLj ih
            go_wp2
            go_ret
            exact ⟨_, rfl, by rw [e.out]; exact HF.out⟩
end Go.Proofs.YtfonicphdejdlaaGreat

namespace Go.Proofs.YtfonicphdejdlaaGreat
open Go.RowKit
set_option maxRecDepth 8000

theorem chk_many {k i : Int} {s : ByteArray} {n : Nat} {p : Option Addr} {c : Nat} {f : Nat → VT} {d m : Nat} (h : 12 ≤ m) : chk (.mk k i s n p c f) d m = (22, m + 1) := by rw [chk_eq, if_pos h]
theorem chk_kind {k i : Int} {s : ByteArray} {n : Nat} {p : Option Addr} {c : Nat} {f : Nat → VT} {d m : Nat} (h : ¬ 12 ≤ m) (h2 : fitB k i s n = false) : chk (.mk k i s n p c f) d m = (20, m + 1) := by rw [chk_eq, if_neg h, if_pos h2]
theorem chk_deep {k i : Int} {s : ByteArray} {n : Nat} {p : Option Addr} {c : Nat} {f : Nat → VT} {d m : Nat} (h : ¬ 12 ≤ m) (h2 : ¬ fitB k i s n = false) (h3 : k = 3 ∧ 3 ≤ d) : chk (.mk k i s n p c f) d m = (23, m + 1) := by rw [chk_eq, if_neg h, if_neg h2, if_pos h3]
theorem chk_text {k i : Int} {s : ByteArray} {n : Nat} {p : Option Addr} {c : Nat} {f : Nat → VT} {d m : Nat} (h : ¬ 12 ≤ m) (h2 : ¬ fitB k i s n = false) (h3 : ¬ (k = 3 ∧ 3 ≤ d)) (h4 : 24 < s.size) : chk (.mk k i s n p c f) d m = (21, m + 1) := by rw [chk_eq, if_neg h, if_neg h2, if_neg h3, if_pos h4]
theorem chk_items {k i : Int} {s : ByteArray} {n : Nat} {p : Option Addr} {c : Nat} {f : Nat → VT} {d m : Nat} (h : ¬ 12 ≤ m) (h2 : ¬ fitB k i s n = false) (h3 : ¬ (k = 3 ∧ 3 ≤ d)) (h4 : ¬ 24 < s.size) (h5 : 6 < n) : chk (.mk k i s n p c f) d m = (22, m + 1) := by rw [chk_eq, if_neg h, if_neg h2, if_neg h3, if_neg h4, if_pos h5]
theorem chk_step {k i : Int} {s : ByteArray} {n : Nat} {p : Option Addr} {c : Nat} {f : Nat → VT} {d m : Nat} (h : ¬ 12 ≤ m) (h2 : ¬ fitB k i s n = false) (h3 : ¬ (k = 3 ∧ 3 ≤ d)) (h4 : ¬ 24 < s.size) (h5 : ¬ 6 < n) : chk (.mk k i s n p c f) d m = stepN (fun j m => chk (f j) (d + 1) m) (m + 1) n := by rw [chk_eq, if_neg h, if_neg h2, if_neg h3, if_neg h4, if_neg h5]

set_option maxHeartbeats 4000000 in
theorem checkPart_any (t : VT) : ∀ (w : World) (S : Nat → Prop) (b d m : Nat), VT.In w S t → ¬ S b → Box w b #[.int .i64 m] 3 → m ≤ 12 → d ≤ 3 →
    Calls Tryz.prog 106 #[t.val, .int .i64 d, .pointer (some ⟨b, 0, none⟩)] w fun e w' => e = .returned (.int .i64 (chk t d m).1) ∧ Box w' b #[.int .i64 (chk t d m).2] 3 ∧ But (fun k => k = b) w w' := by
  induction t with
  | nil => intro w S b d m hin; exact hin.elim
  | mk k i s n p c f ih =>
    intro w S b d m hin hS hb hm hd
    have hnn := hin.fit.nn
    simp only [VT.n_mk] at hnn
    simp only [VT.val, VT.kind_mk, VT.int_mk, VT.text_mk, VT.p_mk, VT.n_mk, VT.c_mk]
    have hc := hb.cell 0
    have hf := hb.frozen 0
    have hlt := hb.lt
    simp at hc
    have hW0 : But (fun k => k = b) w ((w.setCell ⟨b, 0, none⟩ (.int .i64 ((m : Int) + 1))).alloc (.cells #[.int .i64 k, .int .i64 i, .string s, .slice p n c] 24)) := ((But.refl (fun k => k = b) w).setCell (p := ⟨b, 0, none⟩) (fun _ => rfl) _).alloc _
    have hWb : Box ((w.setCell ⟨b, 0, none⟩ (.int .i64 ((m : Int) + 1))).alloc (.cells #[.int .i64 k, .int .i64 i, .string s, .slice p n c] 24)) b #[.int .i64 ((m + 1 : Nat) : Int)] 3 := by
      have h := hb.set 0 (.int .i64 ((m : Int) + 1))
      have h2 : Box (w.setCell ⟨b, 0, none⟩ (.int .i64 ((m : Int) + 1))) b #[.int .i64 ((m + 1 : Nat) : Int)] 3 := by simpa using h
      exact h2.below ((Below.refl _ _).alloc (Nat.le_refl _) _)
    have hWv : Box ((w.setCell ⟨b, 0, none⟩ (.int .i64 ((m : Int) + 1))).alloc (.cells #[.int .i64 k, .int .i64 i, .string s, .slice p n c] 24)) w.heap.size #[.int .i64 k, .int .i64 i, .string s, .slice p n c] 24 := by
      have h := Box.new (w.setCell ⟨b, 0, none⟩ (.int .i64 ((m : Int) + 1))) #[.int .i64 k, .int .i64 i, .string s, .slice p n c] 24
      simpa [World.setCell] using h
    have HF := fits_any k i s n p c ((w.setCell ⟨b, 0, none⟩ (.int .i64 ((m : Int) + 1))).alloc (.cells #[.int .i64 k, .int .i64 i, .string s, .slice p n c] 24))
    have HW : Hid (Box ((w.setCell ⟨b, 0, none⟩ (.int .i64 ((m : Int) + 1))).alloc (.cells #[.int .i64 k, .int .i64 i, .string s, .slice p n c] 24)) b #[.int .i64 ((m + 1 : Nat) : Int)] 3 ∧
      Box ((w.setCell ⟨b, 0, none⟩ (.int .i64 ((m : Int) + 1))).alloc (.cells #[.int .i64 k, .int .i64 i, .string s, .slice p n c] 24)) w.heap.size #[.int .i64 k, .int .i64 i, .string s, .slice p n c] 24 ∧
      But (fun k => k = b) w ((w.setCell ⟨b, 0, none⟩ (.int .i64 ((m : Int) + 1))).alloc (.cells #[.int .i64 k, .int .i64 i, .string s, .slice p n c] 24))) := ⟨hWb, hWv, hW0⟩
    have HI : Hid (VT.In w S (.mk k i s n p c f)) := hin
    clear hin hb hWb hWv hW0
    by_cases h1 : 12 ≤ m
    · rw [chk_many h1]
      have h1' : (12 : Int) < (m : Int) + 1 := by omega
      clear ih HF
      go_enter Tryz.func106, Tryz.ntmps106
      go_wp2_with fail
      go_ret
      exact ⟨rfl, HW.out.1, HW.out.2.2⟩
    have h1' : ¬ (12 : Int) < (m : Int) + 1 := by omega
    by_cases h2 : fitB k i s n = false
    · rw [chk_kind h1 h2]
      rw [h2] at HF
      clear ih
      go_enter Tryz.func106, Tryz.ntmps106
      go_wp2_with (go_at_call 117; refine HF.mono ?_; rintro e w1 ⟨rfl, hb1⟩)
      go_ret
      exact ⟨rfl, HW.out.1.below hb1, HW.out.2.2.trans (But.ofBelow hb1)⟩
    have h2' : fitB k i s n = true := by simpa using h2
    rw [h2'] at HF
    by_cases h3 : k = 3 ∧ 3 ≤ d
    · rw [chk_deep h1 h2 h3]
      obtain ⟨rfl, h3⟩ := h3
      have h3' : (3 : Int) ≤ (d : Int) := by omega
      clear ih
      go_enter Tryz.func106, Tryz.ntmps106
      go_wp2_with (go_at_call 117; refine HF.mono ?_; rintro e w1 ⟨rfl, hb1⟩; have y0 := (HW.out.2.1.below hb1).cell 0; simp at y0)
      go_ret
      exact ⟨rfl, HW.out.1.below hb1, HW.out.2.2.trans (But.ofBelow hb1)⟩
    have h3' : (k == 3) = false ∨ (k = 3 ∧ ¬ (3 : Int) ≤ (d : Int)) := by
      by_cases hk : k = 3
      · exact .inr ⟨hk, fun h => h3 ⟨hk, by omega⟩⟩
      · exact .inl (by rw [beq_eq_false_iff_ne]; exact hk)
    by_cases h4 : 24 < s.size
    · rw [chk_text h1 h2 h3 h4]
      have h4' : (24 : Int) < (s.size : Int) := by omega
      clear ih h3
      rcases h3' with h3 | ⟨rfl, h3⟩
      all_goals
        go_enter Tryz.func106, Tryz.ntmps106
        go_wp2_with (go_at_call 117; refine HF.mono ?_; rintro e w1 ⟨rfl, hb1⟩; have y0 := (HW.out.2.1.below hb1).cell 0; have y2 := (HW.out.2.1.below hb1).cell 2; simp at y0 y2)
        go_ret
        exact ⟨rfl, HW.out.1.below hb1, HW.out.2.2.trans (But.ofBelow hb1)⟩
    have h4' : ¬ (24 : Int) < (s.size : Int) := by omega
    by_cases h5 : 6 < n
    · rw [chk_items h1 h2 h3 h4 h5]
      have h5' : (6 : Int) < (n : Int) := by omega
      clear ih h3
      rcases h3' with h3 | ⟨rfl, h3⟩
      all_goals
        go_enter Tryz.func106, Tryz.ntmps106
        go_wp2_with (go_at_call 117; refine HF.mono ?_; rintro e w1 ⟨rfl, hb1⟩; have y0 := (HW.out.2.1.below hb1).cell 0; have y2 := (HW.out.2.1.below hb1).cell 2; have y3 := (HW.out.2.1.below hb1).cell 3; simp at y0 y2 y3)
        go_ret
        exact ⟨rfl, HW.out.1.below hb1, HW.out.2.2.trans (But.ofBelow hb1)⟩
    have h5' : ¬ (6 : Int) < (n : Int) := by omega
    rw [chk_step h1 h2 h3 h4 h5]
    have HD : Hid (0 < n → d + 1 ≤ 3) := fun hn => by
      have hk : k = 3 := by simp [fitB] at h2'; omega
      exact Nat.lt_of_not_le fun h => h3 ⟨hk, h⟩
    clear h3
    rcases h3' with h3 | ⟨rfl, h3⟩
    all_goals
      go_enter Tryz.func106, Tryz.ntmps106
      go_wp2_with (go_at_call 117; refine HF.mono ?_; rintro e w1 ⟨rfl, hb1⟩; have y0 := (HW.out.2.1.below hb1).cell 0; have y2 := (HW.out.2.1.below hb1).cell 2; have y3 := (HW.out.2.1.below hb1).cell 3; simp at y0 y2 y3)
      have hB1 : Box w1 b #[.int .i64 ((m + 1 : Nat) : Int)] 3 := HW.out.1.below hb1
      have hK1 : But (fun k => k = b) w w1 := HW.out.2.2.trans (But.ofBelow hb1)
      clear HF hb1 y0 y2 y3 HW
      go_loopw [45] (fun x wr => ∃ j : Nat, j ≤ n ∧ x = .int .i64 j ∧ Hid ((stepN (fun j m => chk (f j) (d + 1) m) (m + 1) j).1 = 0) ∧ Box wr b #[.int .i64 (((stepN (fun j m => chk (f j) (d + 1) m) (m + 1) j).2 : Nat) : Int)] 3 ∧ But (fun k => k = b) w wr) (fun x _ => n - (intOf x).toNat)
      case atStart => exact ⟨0, Nat.zero_le _, rfl, rfl, hB1, hK1⟩
      case round =>
        obtain ⟨j, hj, rfl, HZ, hB, hK⟩ := hrel
        clear hB1 hK1
        by_cases hjn : j < n
        · have hjn' : (j : Int) < (n : Int) := by omega
          obtain ⟨bb, o, hp, hSb, hbl, hat⟩ := HI.out.at_ (show 0 < (VT.mk _ i s n p c f).n from by simp only [VT.n]; omega)
          simp only [VT.p_mk] at hp
          subst hp
          have hne : bb ≠ b := fun e => hS (e ▸ hSb)
          obtain ⟨a0, a1, a2, a3⟩ := (hat j hjn).kept (hK.block bb hbl hne)
          simp only [VT.item_mk] at a0 a1 a2 a3
          have HM : Hid ((stepN (fun j m => chk (f j) (d + 1) m) (m + 1) j).2 ≤ 12) := (stepN_le (fun j m hm => chk_le (f j) (d + 1) m hm) (by omega) j).2 HZ.out
          have HS : Hid (stepN (fun j m => chk (f j) (d + 1) m) (m + 1) (j + 1) = chk (f j) (d + 1) (stepN (fun j m => chk (f j) (d + 1) m) (m + 1) j).2) := stepN_succ HZ.out
          have HT : Hid ((stepN (fun j m => chk (f j) (d + 1) m) (m + 1) (j + 1)).1 ≠ 0 → stepN (fun j m => chk (f j) (d + 1) m) (m + 1) n = stepN (fun j m => chk (f j) (d + 1) m) (m + 1) (j + 1)) := fun h => stepN_stuck (by omega) h
          generalize stepN (fun j m => chk (f j) (d + 1) m) (m + 1) j = q at *
          obtain ⟨q1, HQ1⟩ : ∃ q1, Hid (stepN (fun j m => chk (f j) (d + 1) m) (m + 1) (j + 1) = q1) := ⟨_, rfl⟩
          rw [HQ1.out] at HS HT
          obtain ⟨qe, qm⟩ := q
          simp only at HZ HM hB HS
          have HC : Hid (∀ W, Below wr.heap.size wr W → Calls Tryz.prog 106 #[(f j).val, .int .i64 ((d : Int) + 1), .pointer (some ⟨b, 0, none⟩)] W fun e w' => e = .returned (.int .i64 q1.1) ∧ Box w' b #[.int .i64 q1.2] 3 ∧ But (fun k => k = b) W w') := by
            intro W hW
            have h := ih j W S b (d + 1) qm (((HI.out.sub hjn).but hK (fun x hx _ e => hS (e ▸ hx))).below hW) hS (hB.below hW) HM.out (HD.out (by omega))
            rw [← HS.out] at h
            exact h
          unfold VT.val at HC
          obtain ⟨xk, xi, xs, xn, xp, xc, xf, hx⟩ := (HI.out.sub hjn).mk_
          simp only [VT.item_mk] at hx
          clear ih HI hat hB HS HM
          rw [hx] at a0 a1 a2 a3 HC
          clear hx
          simp only [VT.kind_mk, VT.int_mk, VT.text_mk, VT.p_mk, VT.n_mk, VT.c_mk] at a0 a1 a2 a3 HC
          obtain ⟨r, rm⟩ := q1
          simp only at HC HT
          by_cases hr : r = 0
          · subst hr
            clear HT
            go_wp2_with (go_at_call 106; refine (HC.out _ ?_).mono ?_; exact (Below.refl _ _).alloc (Nat.le_refl _) _; rintro e w4 ⟨rfl, hB4, hK4⟩)
            go_roundw
            case rel => exact ⟨j + 1, by omega, by go_num, by rw [HQ1.out]; rfl, by rw [HQ1.out]; exact hB4, (hK.alloc _).trans hK4⟩
            case measure => simp [intOf]; omega
          · have hr' : ((r : Int) == 0) = false := by rw [beq_eq_false_iff_ne]; omega
            have HT2 : Hid (stepN (fun j m => chk (f j) (d + 1) m) (m + 1) n = (r, rm)) := HT.out (by simpa using hr)
            clear HT
            go_wp2_with (go_at_call 106; refine (HC.out _ ?_).mono ?_; exact (Below.refl _ _).alloc (Nat.le_refl _) _; rintro e w4 ⟨rfl, hB4, hK4⟩)
            go_ret
            rw [HT2.out]
            exact ⟨rfl, hB4, (hK.alloc _).trans hK4⟩
        · obtain rfl : j = n := by omega
          clear ih HI
          go_wp2
          go_ret
          exact ⟨by rw [HZ.out]; rfl, hB, hK⟩
end Go.Proofs.YtfonicphdejdlaaGreat

namespace Go.Proofs.YtfonicphdejdlaaGreat
open Go.RowKit
set_option maxRecDepth 8000

set_option maxHeartbeats 1000000 in
theorem check_any (t : VT) (w : World) (S : Nat → Prop) (hin : VT.In w S t) (hS : ∀ b, S b → b < w.heap.size) :
    Calls Tryz.prog 84 #[t.val] w fun e w' => e = .returned (.int .i64 (chk t 0 0).1) ∧ Below w.heap.size w w' := by
  have HC : Hid (∀ W b, Below w.heap.size w W → w.heap.size ≤ b → Box W b #[.int .i64 ((0 : Nat) : Int)] 3 → Calls Tryz.prog 106 #[t.val, .int .i64 ((0 : Nat) : Int), .pointer (some ⟨b, 0, none⟩)] W fun e w' => e = .returned (.int .i64 (chk t 0 0).1) ∧ Box w' b #[.int .i64 (chk t 0 0).2] 3 ∧ But (fun k => k = b) W w') :=
    fun W b hW hb hB => checkPart_any t W S b 0 0 (hin.below hW) (fun h => by have := hS b h; omega) hB (by omega) (by omega)
  obtain ⟨k, i, s, n, p, c, f, rfl⟩ := hin.mk_
  clear hin hS
  generalize chk (.mk k i s n p c f) 0 0 = r at *
  simp only [VT.val, VT.kind_mk, VT.int_mk, VT.text_mk, VT.p_mk, VT.n_mk, VT.c_mk] at HC ⊢
  go_enter Tryz.func84, Tryz.ntmps84
  go_wp2_with fail
  refine (HC.out _ (w.heap.size + 1) ?_ ?_ ?_).mono ?_
  · exact ((Below.refl _ _).alloc (Nat.le_refl _) _).alloc (by simp) _
  · omega
  · have h := Box.new (w.alloc (.cells #[.int .i64 k, .int .i64 i, .string s, .slice p n c] 24)) #[.int .i64 0] 3
    simpa using h
  · rintro e w1 ⟨rfl, _, hK⟩
    have hb1 : Below w.heap.size w w1 := (((Below.refl w.heap.size w).alloc (Nat.le_refl _) _).alloc (by simp) _).trans (hK.below (by simp; omega) (fun x hx => by omega))
    clear hK HC
    go_wp2
    go_ret
    exact ⟨rfl, hb1⟩
end Go.Proofs.YtfonicphdejdlaaGreat
