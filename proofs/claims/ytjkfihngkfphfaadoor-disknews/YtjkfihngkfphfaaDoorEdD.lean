import Derived.Test.YtjkfihngkfphfaaDoorEdA
import Derived.Test.YtjkfihngkfphfaaDoorEdB
import Derived.Test.YtjkfihngkfphfaaDoorEdC
import Derived.Test.YtjkfihngkfphfaaDoorEdE
namespace Go.Proofs.YtjkfihngkfphfaaDoor
open Go.RowKit
set_option maxRecDepth 8000
/-- the program's disk and the reference's, as begin lays them -/
structure PrI (l : LT FA) (W w' : World) (pb db rb : Nat) (D : DK) (A : LT RO) : Prop where
  bx : Box w' pb #[.pointer (some ⟨db, 0, none⟩), .pointer (some ⟨rb, 0, none⟩)] 28
  dk : ∃ b1, W.heap.size ≤ b1 ∧ DkI w' (fun k => b1 ≤ k) db D
  ks : D.fs.map FT.key = (List.range l.n).map fun j => (l.item j).key
  rbx : Box w' rb #[.slice A.p A.n A.c, .bool false, .int .i64 (-1), .int .i64 0, .int .i64 0] 67
  li : LT.In elO w' (fun k => W.heap.size ≤ k) A
  an : A.n = l.n
  rks : (A.lst A.n).map RO.key = srtK l l.n
  ok : ∀ j, j < l.n → fOk (names l j) (l.item j) = true
  n4 : l.n ≤ 400
def BgQ (l : LT FA) (W : World) (pb : Nat) (e : Ending) (w' : World) : Prop :=
  e = .returned (.bool true) ∧ But (fun k => k = pb) W w' ∧ ((newB l = false ∧ Box w' pb #[.pointer none, .pointer none] 28) ∨ ∃ db rb D A, PrI l W w' pb db rb D A)
set_option maxHeartbeats 8000000 in
theorem begin_any (l : LT FA) (W : World) (pb : Nat) (hX : Box W pb #[.pointer none, .pointer none] 28) (hl : LT.In elF W (fun b => b < W.heap.size) l) (hn : l.n ≤ 500) (hz : ∀ j, j < l.n → (l.item j).n ≤ 524288) :
    Calls Tryd.prog 5 #[.pointer (some ⟨pb, 0, none⟩), .slice l.p l.n l.c] W fun e w' => BgQ l W pb e w' := by
  have HX := hid hX
  have HL := hid hl
  have HZ := hid hz
  have HR := hid (rnew_any l W hl)
  clear hX hl hz
  go_enter Tryd.func5, Tryd.ntmps5
  go_wp2_with fail
  refine HR.out.mono ?_
  rintro e w1 ⟨hb1, hf1, ht1⟩
  have HB1 := hid hb1
  have HL1 : Hid (LT.In elF w1 (fun b => b < W.heap.size) l) := HL.out.kept hb1.size fun b _ hlt => hb1.block b hlt
  have HX1 := hid (HX.out.below hb1)
  have HC := hid (cpF_any l w1 _ HL1.out (by omega) (fun j hj => Nat.le_trans (HZ.out j hj) (by omega)))
  clear hb1 HR
  cases hb : newB l with
  | false =>
    obtain rfl := hf1 hb
    clear hf1 ht1
    go_wp2_with fail
    refine HC.out.mono ?_
    rintro e w2 ⟨u, rfl, hu, hun, huk, hb2⟩
    have HB2 : Hid (Below W.heap.size W w2) := HB1.out.trans (hb2.mono HB1.out.size)
    have HX2 := hid (HX1.out.below hb2)
    have hbu : newB u = false := (newB_eq u l hun huk).trans hb
    have HD := hid (dnew_any u w2 (hu.mono fun b _ h => h))
    clear hu hun huk hb2
    go_wp2_with fail
    refine HD.out.mono ?_
    rintro e w3 ⟨hb3, hf3, _⟩
    obtain rfl := hf3 hbu
    have HB3 : Hid (Below W.heap.size W w3) := HB2.out.trans (hb3.mono HB2.out.size)
    have HX3 := hid (HX2.out.below hb3)
    clear hb3 hf3 hbu
    have f0 := HX3.out.cell 0
    have f1 := HX3.out.cell 1
    have g0 := HX3.out.frozen 0
    have g1 := HX3.out.frozen 1
    have fl := HX3.out.lt
    simp at f0 f1
    go_wp2
    have hbx := (HX3.out.set 0 (.pointer none)).set 1 (.pointer none)
    have hbt : But (fun k => k = pb) w3 ((w3.setCell ⟨pb, 0, none⟩ (.pointer none)).setCell ⟨pb, 1, none⟩ (.pointer none)) := ((But.one _ _).setAt 0 _).setAt 1 _
    exact bodyPost_ret (v := .bool true) (by simp [results, Tryd.results5, go_sem]) rfl ⟨rfl, (But.ofBelow HB3.out).trans hbt, .inl ⟨hb, by simpa using hbx⟩⟩
  | true =>
    obtain ⟨A, rfl, hA⟩ := ht1 hb
    have HA := hid hA
    clear hf1 ht1 hA
    go_wp2_with fail
    refine HC.out.mono ?_
    rintro e w2 ⟨u, rfl, hu, hun, huk, hb2⟩
    have HB12 := hid hb2
    have HB2 : Hid (Below W.heap.size W w2) := HB1.out.trans (hb2.mono HB1.out.size)
    have HX2 := hid (HX1.out.below hb2)
    have hbu : newB u = true := (newB_eq u l hun huk).trans hb
    have HD := hid (dnew_any u w2 (hu.mono fun b _ h => h))
    have HU := hid (And.intro hun huk)
    clear hu hun huk hb2
    go_wp2_with fail
    refine HD.out.mono ?_
    rintro e w3 ⟨hb3, _, ht3⟩
    obtain ⟨D, rfl, hD⟩ := ht3 hbu
    have HN := hid hD
    have HB23 := hid hb3
    have HB3 : Hid (Below W.heap.size W w3) := HB2.out.trans (hb3.mono HB2.out.size)
    have HX3 := hid (HX2.out.below hb3)
    clear hb3 ht3 hbu hD
    have f0 := HX3.out.cell 0
    have f1 := HX3.out.cell 1
    have g0 := HX3.out.frozen 0
    have g1 := HX3.out.frozen 1
    have fl := HX3.out.lt
    simp at f0 f1
    have HBx := hid ((HX3.out.set 0 (.pointer (some ⟨w2.heap.size + 1, 0, none⟩))).set 1 (.pointer (some ⟨W.heap.size, 0, none⟩)))
    have HBt : Hid (But (fun k => k = pb) w3 ((w3.setCell ⟨pb, 0, none⟩ (.pointer (some ⟨w2.heap.size + 1, 0, none⟩))).setCell ⟨pb, 1, none⟩ (.pointer (some ⟨W.heap.size, 0, none⟩)))) := ((But.one _ _).setAt 0 _).setAt 1 _
    go_wp2
    have hpl := HX.out.lt
    have hs1 := HB1.out.size
    have hs2 := HB12.out.size
    have hb13 : Below w1.heap.size w1 w3 := HB12.out.trans (HB23.out.mono HB12.out.size)
    refine bodyPost_ret (v := .bool true) (by simp [results, Tryd.results5, go_sem]) rfl ⟨rfl, (But.ofBelow HB3.out).trans HBt.out, .inr ⟨w2.heap.size + 1, W.heap.size, D, A, ?_⟩⟩
    refine ⟨by simpa using HBx.out, ⟨w2.heap.size, by omega, HN.out.dk.kept fun k hk hlt => HBt.out.block k hlt (by show ¬ k = pb; omega)⟩, ?_, ?_, ?_, HA.out.n, by have := HA.out.ks; exact this, HA.out.ok, ?_⟩
    · rw [HN.out.ks, HU.out.1]
      exact List.map_congr_left fun j hj => HU.out.2 j (List.mem_range.1 hj)
    · exact (HA.out.bx.below hb13).kept (HBt.out.block _ (Nat.lt_of_lt_of_le HA.out.bx.lt hb13.size) (by show ¬ W.heap.size = pb; omega))
    · refine ((HA.out.li.kept hb13.size fun b _ hlt => hb13.block b hlt).kept HBt.out.size fun b hb hlt => HBt.out.block b hlt (by show ¬ b = pb; omega)).mono fun b hb _ => hb.1
    · simp only [newB, Bool.and_eq_true, decide_eq_true_eq] at hb
      exact hb.1
end Go.Proofs.YtjkfihngkfphfaaDoor
