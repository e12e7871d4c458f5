import Derived.Test.YtpknlbibijheaabPack21
import Derived.Test.YtpknlbibijheaabPack3
import Derived.Test.YtpknlbibijheaabPack5
import Derived.Deep.DeepCutAuto
import Derived.Test.YtpknlbibijheaabPack4
namespace Go.Proofs.Ytpknlbibijheaab
open Go.RowKit
set_option maxRecDepth 8000

end Go.Proofs.Ytpknlbibijheaab

namespace Go.Proofs.Ytpknlbibijheaab
open Go.RowKit
set_option maxRecDepth 8000
structure LAlk {α : Type} (R : α → α → Prop) (l u : LT α) : Prop where
  n : u.n = l.n
  item : ∀ j, j < l.n → R (l.item j) (u.item j)
set_option maxHeartbeats 4000000 in
theorem rv5 (t : VT) : ∀ (w : World) (S : Nat → Prop), VT.In w S t → t.total ≤ 10000 →
    Calls Try.prog 27 #[t.val] w fun e w' => ∃ u, e = .returned u.val ∧ VT.Alike t u ∧ VT.In w' (fun b => w.heap.size ≤ b) u ∧ Below w.heap.size w w' := by
  induction t with
  | nil => intro w S hin; exact hin.elim
  | mk k i s n p c f ih =>
    intro w S hin ht
    have hfit := hin.fit
    have hnn := hfit.nn
    simp only [VT.n] at hnn
    have hn1 : n ≤ 10000 := by rw [VT.total_upto] at ht; simp only [VT.n] at ht; omega
    obtain ⟨i0, Kd⟩ := kindV
    simp only [VT.val, VT.kind_mk, VT.int_mk, VT.text_mk, VT.p_mk, VT.n_mk, VT.c_mk]
    have HI : Hid (VT.In w S (.mk k i s n p c f)) := hin
    have HF := hfit
    have HTot : Hid (∀ j, j < n → (f j).total ≤ 10000) := fun j hj => Nat.le_trans (VT.item_total (.mk k i s n p c f) hj) ht
    clear hin hfit ht
    go_enter Try.func27, Try.ntmps27
    go_wp2_with fail
    have hS1 : Box (w.alloc (.cells #[.int .i64 k, .int .i64 i, .string s, .slice p n c] 70)) w.heap.size #[.int .i64 k, .int .i64 i, .string s, .slice p n c] 70 := Box.new _ _ _
    have hS2 := hS1.below ((Below.refl _ _).alloc (Nat.le_refl _) (.cells #[.int .i64 0, .int .i64 0, .string ⟨#[]⟩, .slice none 0 0] 70))
    have hS3 : Box ((w.alloc (.cells #[.int .i64 k, .int .i64 i, .string s, .slice p n c] 70)).alloc (.cells #[.int .i64 0, .int .i64 0, .string ⟨#[]⟩, .slice none 0 0] 70)) (w.heap.size + 1) #[.int .i64 0, .int .i64 0, .string ⟨#[]⟩, .slice none 0 0] 70 := by
      have := Box.new (w.alloc (.cells #[.int .i64 k, .int .i64 i, .string s, .slice p n c] 70)) #[.int .i64 0, .int .i64 0, .string ⟨#[]⟩, .slice none 0 0] 70
      simpa using this
    have hS4 : Below w.heap.size w ((w.alloc (.cells #[.int .i64 k, .int .i64 i, .string s, .slice p n c] 70)).alloc (.cells #[.int .i64 0, .int .i64 0, .string ⟨#[]⟩, .slice none 0 0] 70)) := ((Below.refl _ _).alloc (Nat.le_refl _) _).alloc (by simp) _
    go_loopw [3, 4] (fun v x wr => ∃ (j : Nat) (g : Nat → VT), j ≤ n ∧ x = .int .i64 j ∧ OwnV (w.heap.size + 2) wr v j g ∧ (∀ q, q < j → VT.Alike (f q) (g q)) ∧ Box wr w.heap.size #[.int .i64 k, .int .i64 i, .string s, .slice p n c] 70 ∧
        Box wr (w.heap.size + 1) #[.int .i64 0, .int .i64 0, .string ⟨#[]⟩, .slice none 0 0] 70 ∧ Below w.heap.size w wr) (fun _ x _ => n - (intOf x).toNat)
    case atStart => exact ⟨0, f, Nat.zero_le _, rfl, OwnV.nil _ _ _, fun q hq => absurd hq (by omega), hS2, hS3, hS4⟩
    case round =>
      obtain ⟨j, g, hj, rfl, hO, hal, hB0, hB1, hbel⟩ := hrel
      clear hS1 hS2 hS3 hS4
      have b0 := hB0.cell 0
      have b1 := hB0.cell 1
      have b2 := hB0.cell 2
      have b3 := hB0.cell 3
      simp at b0 b1 b2 b3
      have hlt1 := hB1.lt
      by_cases hlt : j < n
      · have hlt' : (j : Int) < (n : Int) := by omega
        obtain ⟨bb, o, hp, hSb, hbl, hat⟩ := HI.out.at_ (show 0 < (VT.mk k i s n p c f).n from by simp only [VT.n]; omega)
        simp only [VT.p] at hp
        subst hp
        have hA := (hat j hlt).kept (hbel.block bb hbl)
        obtain ⟨c0, c1, c2, c3⟩ := hA
        simp only [VT.item] at c0 c1 c2 c3
        have HC : Hid (Calls Try.prog 27 #[(f j).val] wr fun e w' => ∃ u, e = .returned u.val ∧ VT.Alike (f j) u ∧ VT.In w' (fun b => wr.heap.size ≤ b) u ∧ Below wr.heap.size wr w') :=
          ih j wr (fun b => S b ∧ b < w.heap.size) (((HI.out.sub hlt).mono fun b hb hl => ⟨hb, hl⟩).kept hbel.size (fun b hb _ => hbel.block b hb.2)) (HTot.out j hlt)
        unfold VT.val at HC
        have HAl : Hid (∀ q, q < j → VT.Alike (f q) (g q)) := hal
        clear hat hal
        go_wp2_with fail
        refine HC.out.mono ?_
        rintro e w2_ ⟨u, rfl, hal2, hin2_, hb2_⟩
        obtain ⟨k', i', s', n', p', c', f', rfl⟩ := hin2_.mk_
        simp only [VT.kind_mk, VT.int_mk, VT.text_mk, VT.p_mk, VT.n_mk, VT.c_mk]
        obtain ⟨w2, hw2⟩ : ∃ V, V = w2_.alloc (.cells #[.int .i64 k', .int .i64 i', .string s', .slice p' n' c'] 70) := ⟨_, rfl⟩
        have hbx : Below w2_.heap.size w2_ w2 := by rw [hw2]; exact (Below.refl _ _).alloc (Nat.le_refl _) _
        have hxb : Box w2 w2_.heap.size #[.int .i64 k', .int .i64 i', .string s', .slice p' n' c'] 70 := by rw [hw2]; exact Box.new _ _ _
        have hb2 : Below wr.heap.size wr w2 := hb2_.trans (hbx.mono hb2_.size)
        have hin2 := hin2_.below hbx
        have q0 := hxb.cell 0
        have q1 := hxb.cell 1
        have q2 := hxb.cell 2
        have q3 := hxb.cell 3
        have ql := hxb.lt
        simp at q0 q1 q2 q3
        have HW2 := hid hw2
        clear hw2 hbx hxb hb2_ hin2_
        have hO2 := hO.below hb2
        have hB02 := hB0.below hb2
        have hB12 := hB1.below hb2
        have hbel2 := hbel.trans (hb2.mono hbel.size)
        have hsz2 := hb2.size
        have hu2 : VT.In w2 (fun b => w.heap.size + 2 ≤ b ∧ u3.ownBlock ≠ some b) (.mk k' i' s' n' p' c' f') := by
          refine hin2.mono fun b hb hl => ⟨by omega, fun e => ?_⟩
          have := (hO.own.lt b e).2
          omega
        have HX : Hid (OwnV (w.heap.size + 2) w2 u3 j g ∧ VT.In w2 (fun b => w.heap.size + 2 ≤ b ∧ u3.ownBlock ≠ some b) (.mk k' i' s' n' p' c' f') ∧ VT.Alike (f j) (.mk k' i' s' n' p' c' f')) := ⟨hO2, hu2, hal2⟩
        have hR := hO2.own
        have hsz1 : w.heap.size + 2 ≤ w2.heap.size := by omega
        have HBe : Hid (Below w.heap.size w w2) := hbel2
        clear hO hin2 hO2 hu2 hal2 hbel hb2 hB0 hB1 b0 b1 b2 b3 c0 c1 c2 c3 HC hbel2
        go_upto_region 6 with fail
        rw [← HW2.out]
        go_wp2_with (at_builtin; refine wpList_app rfl (.tmp 19) (.tmp 21) 42 70 i0 _ 4 56 Kd rfl (w.heap.size + 2) u3 j _ rfl (hR.alloc _) ⟨w2.heap.size, 0, none⟩ 1 1 [.int .i64 k', .int .i64 i', .string s', .slice p' n' c'] rfl rfl (news4 _ _ _ _ _ _) ?_ ?_ ?_ ?_ ?_)
        · exact oneCell_cells (.mk k' i' s' n' p' c' f')
        · omega
        · omega
        · simp; omega
        · intro v3 w3 ho3 hg3 hn3
          obtain ⟨hO2, hu2, hal2⟩ := HX.out
          have ha : Below w2.heap.size w2 (w2.alloc (.cells #[.int .i64 k', .int .i64 i', .string s', .slice p' n' c'] 70)) := (Below.refl _ _).alloc (Nat.le_refl _) _
          have hO3 := (hO2.below ha).push (hu2.below ha) ho3 hg3 hn3
          have hne : ∀ x, x < w.heap.size + 2 → (w2.alloc (.cells #[.int .i64 k', .int .i64 i', .string s', .slice p' n' c'] 70)).heap[x]? = w3.heap[x]? := fun x hx => (hg3.block x (by simp; omega) (fun e => by have := (hO2.own.lt x e.symm).1; omega)).symm
          have hB03 : Box w3 w.heap.size _ _ := (hB02.below ha).kept (hne _ (by omega)).symm
          have hB13 : Box w3 (w.heap.size + 1) _ _ := (hB12.below ha).kept (hne _ (by omega)).symm
          have hbel3 : Below w.heap.size w w3 := (HBe.out.trans (ha.mono (by omega))).grown hg3 (by simp; omega) (fun k hk => by have := (hO2.own.lt k hk).1; omega)
          have HX3 : Hid (OwnV (w.heap.size + 2) w3 v3 (j + 1) (fun q => if q < j then g q else .mk k' i' s' n' p' c' f')) := hO3
          have HA3 : Hid (∀ q, q < j + 1 → VT.Alike (f q) (if q < j then g q else .mk k' i' s' n' p' c' f')) := by
            intro q hq
            by_cases hqj : q < j
            · rw [if_pos hqj]; exact HAl.out q hqj
            · rw [if_neg hqj]
              obtain rfl : q = j := by omega
              exact hal2
          clear hO3 ho3 hg3 hn3 hne ha hO2 hu2 hal2 hR HX
          go_wp2
          go_roundw
          case rel => exact ⟨j + 1, _, by omega, by go_num, HX3.out, HA3.out, hB03, hB13, hbel3⟩
          case measure => simp [intOf]; omega
      · obtain rfl : j = n := by omega
        obtain ⟨p3, c3, hv, h1, h2, h3, h4, h5⟩ := hO.in_
        have HL : Hid (VT.Alike (.mk k i s j p c f) (.mk k i s j p3 c3 g) ∧ VT.In wr (fun b => w.heap.size + 2 ≤ b) (.mk k i s j p3 c3 g)) :=
          ⟨⟨rfl, rfl, rfl, rfl, hal⟩, ⟨⟨HF.k0, HF.k1, HF.i0, HF.i1, HF.s1, h1, HF.nn, h2, h3⟩, h4, h5⟩⟩
        have f3 := hB0.frozen 3
        have g0 := hB1.frozen 0
        have g1 := hB1.frozen 1
        have g2 := hB1.frozen 2
        have g3 := hB1.frozen 3
        have d0 := hB1.cell 0
        have d1 := hB1.cell 1
        have d2 := hB1.cell 2
        have d3 := hB1.cell 3
        simp at d0 d1 d2 d3
        subst hv
        clear h4 h5 hO HI hal ih
        go_wp2
        have hk : But (fun x => x = w.heap.size ∨ x = w.heap.size + 1) wr (((((wr.setCell ⟨w.heap.size, 3, none⟩ (.slice p3 j c3)).setCell ⟨w.heap.size + 1, 0, none⟩ (.int .i64 k)).setCell ⟨w.heap.size + 1, 1, none⟩ (.int .i64 i)).setCell ⟨w.heap.size + 1, 2, none⟩ (.string s)).setCell ⟨w.heap.size + 1, 3, none⟩ (.slice p3 j c3)) :=
          (((((But.refl _ wr).setCell (fun _ => Or.inl rfl) _).setCell (fun _ => Or.inr rfl) _).setCell (fun _ => Or.inr rfl) _).setCell (fun _ => Or.inr rfl) _).setCell (fun _ => Or.inr rfl) _
        refine bodyPost_ret (v := .agg #[.int .i64 k, .int .i64 i, .string s, .slice p3 j c3]) (by simp [results, Try.results27, go_sem, d0, d1, d2, d3]) rfl ⟨.mk k i s j p3 c3 g, rfl, HL.out.1, ?_, ?_⟩
        · exact (HL.out.2.but hk (fun b hb _ => by omega)).mono fun b hb _ => by omega
        · exact hbel.trans (hk.below (by omega) (fun x hx => by omega))
set_option maxHeartbeats 4000000 in
theorem rvs8 (l : LT VT) (w : World) (S : Nat → Prop) (hin : LT.In elVal w S l) (hn1 : l.n ≤ 10000) (hs : ∀ j, j < l.n → (l.item j).total ≤ 10000) :
    Calls Try.prog 13 #[.slice l.p l.n l.c] w fun e w' => ∃ u : LT VT, e = .returned (.slice u.p u.n u.c) ∧ LAlk VT.Alike l u ∧ LT.In elVal w' (fun b => w.heap.size ≤ b) u ∧ Below w.heap.size w w' := by
  obtain ⟨i0, Kd⟩ := kindV
  have HKd := hid Kd
  have HI := hid hin
  have HS := hid hs
  clear hin hs Kd
  go_enter Try.func13, Try.ntmps13
  go_wp2_with fail
  go_loopw [3, 4] (fun v x wr => ∃ (k : Nat) (g : Nat → VT), k ≤ l.n ∧ x = .int .i64 (k : Int) ∧ OwnL elVal w.heap.size wr v k g ∧ (∀ q, q < k → VT.Alike (l.item q) (g q)) ∧ Below w.heap.size w wr) (fun _ x _ => l.n - (intOf x).toNat)
  case atStart => exact ⟨0, l.item, Nat.zero_le _, rfl, ⟨World.ownsRow_nil _ _ _ _, fun j hj => absurd hj (by omega)⟩, fun q hq => absurd hq (by omega), Below.refl _ _⟩
  case round =>
    obtain ⟨k, g, hk, rfl, hO, hal, hbel⟩ := hrel
    have HO := hid hO
    have HA := hid hal
    have HB := hid hbel
    clear hO hal hbel
    by_cases hlt : k < l.n
    · have hlt' : (k : Int) < (l.n : Int) := by omega
      obtain ⟨bb, o, hp, hSb, hbb, hat⟩ := HI.out.at_ (by omega)
      rw [hp]
      have hcell : ∀ r u, (elVal.cells (l.item k))[r]? = some u → wr.cell? ⟨bb, o + k * 4 + r, none⟩ = some u := fun r u hu => (World.cell?_of_block (a := ⟨bb, o + k * 4 + r, none⟩) (HB.out.block bb hbb)).trans (hat k hlt r u hu)
      have c0 : wr.cell? ⟨bb, o + k * 4, none⟩ = some (.int .i64 (l.item k).kind) := hcell 0 _ rfl
      have c1 : wr.cell? ⟨bb, o + k * 4 + 1, none⟩ = some (.int .i64 (l.item k).int) := hcell 1 _ rfl
      have c2 : wr.cell? ⟨bb, o + k * 4 + 2, none⟩ = some (.string (l.item k).text) := hcell 2 _ rfl
      have c3 : wr.cell? ⟨bb, o + k * 4 + 3, none⟩ = some (.slice (l.item k).p (l.item k).n (l.item k).c) := hcell 3 _ rfl
      have HC := hid (rv5 (l.item k) wr (fun b => S b ∧ b < w.heap.size) ((VT.In.mono (HI.out.each k hlt) fun b hb hl => ⟨hb, hl⟩).kept HB.out.size (fun b hb _ => HB.out.block b hb.2)) (HS.out k hlt))
      unfold VT.val at HC
      clear hcell hat
      go_wp2_with fail
      refine HC.out.mono ?_
      rintro e w2_ ⟨u, rfl, hal2, hin2_, hb2_⟩
      obtain ⟨w2, hw2⟩ : ∃ V, V = w2_.alloc (.cells #[.int .i64 u.kind, .int .i64 u.int, .string u.text, .slice u.p u.n u.c] 70) := ⟨_, rfl⟩
      have hbx : Below w2_.heap.size w2_ w2 := by rw [hw2]; exact (Below.refl _ _).alloc (Nat.le_refl _) _
      have hxb : Box w2 w2_.heap.size #[.int .i64 u.kind, .int .i64 u.int, .string u.text, .slice u.p u.n u.c] 70 := by rw [hw2]; exact Box.new _ _ _
      have hb2 : Below wr.heap.size wr w2 := hb2_.trans (hbx.mono hb2_.size)
      have hin2 := hin2_.below hbx
      have q0 := hxb.cell 0
      have q1 := hxb.cell 1
      have q2 := hxb.cell 2
      have q3 := hxb.cell 3
      have ql := hxb.lt
      simp at q0 q1 q2 q3
      have HW2 := hid hw2
      clear hw2 hbx hxb hb2_ hin2_
      have hO2 := HO.out.keep hb2.size (fun k _ hl => hb2.block k hl)
      have hu2 : VT.In w2 (fun b => w.heap.size ≤ b ∧ u3.ownBlock ≠ some b) u := hin2.mono fun b hb _ => ⟨Nat.le_trans HB.out.size hb, fun e => by have := (HO.out.own.lt b e).2; omega⟩
      have hsz : w.heap.size ≤ w2.heap.size := Nat.le_trans HB.out.size hb2.size
      have H2 := hid (And.intro hO2 (And.intro hu2 (And.intro hal2 (HB.out.trans (hb2.mono HB.out.size)))))
      have ha : Below w2.heap.size w2 (w2.alloc (.cells #[.int .i64 u.kind, .int .i64 u.int, .string u.text, .slice u.p u.n u.c] 70)) := (Below.refl _ _).alloc (Nat.le_refl _) _
      have HAl := hid ha
      have HNw : Hid (∀ j u', (elVal.cells u)[j]? = some u' → (w2.alloc (.cells #[.int .i64 u.kind, .int .i64 u.int, .string u.text, .slice u.p u.n u.c] 70)).cell? ((⟨w2.heap.size, 0, none⟩ : Addr).add j) = some u') := fun j u' hu => by
        rw [Go.WideShapes.add_plain, (Box.new w2 #[.int .i64 u.kind, .int .i64 u.int, .string u.text, .slice u.p u.n u.c] 70).cell]
        rw [show 0 + j = j by omega]
        simpa [elVal, RT.cells, VT.cells] using hu
      clear hO2 hu2 hal2 hin2 hb2 ha HC c0 c1 c2 c3
      go_upto_region 6 with fail
      rw [← HW2.out]
      go_wp2_with (at_builtin; refine wpList_app rfl (.tmp 17) (.tmp 19) 42 70 i0 _ 4 56 HKd.out rfl w.heap.size u3 k _ rfl (H2.out.1.own.alloc _) ⟨w2.heap.size, 0, none⟩ 1 1 (elVal.cells u) rfl rfl HNw.out (elVal.one u) (by omega) (by omega) (by simp; omega) ?_)
      intro v3 w3 ho3 hg3 hn3
      obtain ⟨hO2, hu2, hal2, hbel2⟩ := H2.out
      have HO3 := hid ((hO2.keep HAl.out.size (fun k _ hl => HAl.out.block k hl)).push (hu2.below HAl.out) ho3 hg3 hn3)
      have HB3 : Hid (Below w.heap.size w w3) := (hbel2.trans (HAl.out.mono hsz)).grown hg3 (by simp; omega) (fun k hk => (hO2.own.lt k hk).1)
      have HA3 : Hid (∀ q, q < k + 1 → VT.Alike (l.item q) (if q < k then g q else u)) := by
        intro q hq
        by_cases hqk : q < k
        · rw [if_pos hqk]; exact HA.out q hqk
        · rw [if_neg hqk]
          obtain rfl : q = k := by omega
          exact hal2
      clear ho3 hg3 hn3 hO2 hu2 hal2 hbel2 H2 HAl HNw
      go_wp2
      go_roundw
      case rel => exact ⟨k + 1, _, by omega, by go_num, HO3.out, HA3.out, HB3.out⟩
      case measure => simp [intOf]; omega
    · obtain rfl : k = l.n := by omega
      have hlt' : ¬ (l.n : Int) < (l.n : Int) := by omega
      obtain ⟨p3, c3, hv, hL⟩ := HO.out.in_ (by omega)
      have HL := hid hL
      subst hv
      clear hL
      go_wp2
      refine bodyPost_ret (v := .slice p3 l.n c3) (by simp [results, Try.results13, go_sem]) rfl ⟨⟨p3, l.n, c3, g⟩, rfl, ⟨rfl, HA.out⟩, HL.out, HB.out⟩
theorem TwoK.grown {w0 w w' : World} {a b : Array Value} {t : TypeId} {row : Option Nat} (h : TwoK w0 w a b t) (hg : w.grownBy w' row) (hr : ∀ j, row = some j → w0.heap.size + 2 ≤ j) : TwoK w0 w' a b t :=
  ⟨h.ba.kept (hg.block _ h.ba.lt (fun e => by have := hr _ e.symm; omega)), h.bb.kept (hg.block _ h.bb.lt (fun e => by have := hr _ e.symm; omega)), h.bel.trans ⟨hg.os, hg.tape, hg.output, hg.size, fun k hk => hg.block k (Nat.lt_of_lt_of_le hk h.bel.size) (fun e => by have := hr _ e.symm; omega)⟩⟩
end Go.Proofs.Ytpknlbibijheaab

namespace Go.Proofs.Ytpknlbibijheaab
open Go.RowKit
set_option maxRecDepth 8000
theorem kindCs : ∃ i, Kind 22 45 i (.agg #[.string ⟨#[]⟩, .slice none 0 0]) 2 40 := by
  obtain ⟨i0, hi, hz0, hz1, hz2⟩ := info_parts (show (Try.prog.info? 45).map (fun i => (i.zero, i.size, i.bytes)) = some (some (.agg #[.string ⟨#[]⟩, .slice none 0 0]), 2, 40) by kernel_rfl)
  exact ⟨i0, Try.underlying22, hi, hz0, hz1, hz2, rfl, by decide⟩
/-- a cell with a key and other values -/
def VT.with (t : VT) (u : LT VT) : VT := .mk t.kind t.int t.text u.n u.p u.c u.item
theorem VT.with_in {w : World} {S R : Nat → Prop} {w0 : World} {t : VT} {u : LT VT} (ht : VT.In w0 S t) (hu : LT.In elVal w R u) : VT.In w R (t.with u) := by
  have hf := ht.fit
  refine ⟨⟨hf.k0, hf.k1, hf.i0, hf.i1, hf.s1, hu.nc, hu.nn, hu.cc, hu.nil⟩, fun hn => ?_, fun j hj => hu.each j hj⟩
  obtain ⟨b, o, e, hS, hl, hat⟩ := hu.at_ hn
  refine ⟨b, o, e, hS, hl, fun j hj => ⟨?_, ?_, ?_, ?_⟩⟩
  · exact hat j hj 0 _ rfl
  · exact hat j hj 1 _ rfl
  · exact hat j hj 2 _ rfl
  · exact hat j hj 3 _ rfl
theorem VT.with_alike {w0 : World} {S : Nat → Prop} {t : VT} {u : LT VT} (ht : VT.In w0 S t) (hn : u.n = t.n) (ha : ∀ j, j < t.n → VT.Alike (t.item j) (u.item j)) : VT.Alike t (t.with u) := by
  cases t with
  | nil => exact ht.elim
  | mk k i s n p c f => exact ⟨rfl, rfl, rfl, hn, ha⟩
theorem VT.In.asLT {w : World} {S : Nat → Prop} {t : VT} (h : VT.In w S t) : LT.In elVal w S ⟨t.p, t.n, t.c, t.item⟩ := by
  obtain ⟨k, i, s, n, p, c, f, rfl⟩ := h.mk_
  exact VT.toLT h
set_option maxHeartbeats 8000000 in
theorem rs8 (num : Int) (l : LT VT) (w : World) (S : Nat → Prop) (hin : LT.In elCell w S l) (hn1 : l.n ≤ 10000) (ht : ∀ j, j < l.n → (l.item j).total ≤ 10000) :
    Calls Try.prog 5 #[.agg #[.int .i64 num, .slice l.p l.n l.c]] w fun e w' => ∃ u : LT VT, e = .returned (.agg #[.int .i64 num, .slice u.p u.n u.c]) ∧ LAlk VT.Alike l u ∧ LT.In elCell w' (fun b => w.heap.size ≤ b) u ∧ Below w.heap.size w w' := by
  obtain ⟨i1, Kc⟩ := kindCs
  have HKc := hid Kc
  have HI := hid hin
  have HS := hid ht
  have HT0 := TwoK.start w #[.int .i64 num, .slice l.p l.n l.c] #[.int .i64 0, .slice none 0 0] 24
  obtain ⟨W0, hW0⟩ : ∃ V, V = (w.alloc (.cells #[.int .i64 num, .slice l.p l.n l.c] 24)).alloc (.cells #[.int .i64 0, .slice none 0 0] 24) := ⟨_, rfl⟩
  rw [← hW0] at HT0
  have hs0 : W0.heap.size = w.heap.size + 2 := by rw [hW0]; simp
  have hb0 : Below W0.heap.size W0 (W0.alloc (.cells #[.int .i64 num, .slice none 0 0] 24)) := (Below.refl _ _).alloc (Nat.le_refl _) _
  have HT := hid (HT0.below hb0)
  have hO0 := Box.new W0 #[.int .i64 num, .slice none 0 0] 24
  rw [hs0] at hO0
  have HO0 := hid hO0
  rw [hW0] at HT HO0
  clear hin ht Kc HT0 hO0 hb0 hs0 hW0
  go_enter Try.func5, Try.ntmps5
  go_wp2_with fail
  go_loopw [4] (fun x wr => ∃ (k : Nat) (g : Nat → VT) (pv : Option Addr) (cv : Nat), k ≤ l.n ∧ x = .int .i64 (k : Int) ∧ TwoK w wr #[.int .i64 num, .slice l.p l.n l.c] #[.int .i64 0, .slice none 0 0] 24 ∧ Box wr (w.heap.size + 2) #[.int .i64 num, .slice pv k cv] 24 ∧ OwnL elCell (w.heap.size + 3) wr (.slice pv k cv) k g ∧ (∀ q, q < k → VT.Alike (l.item q) (g q))) (fun x _ => l.n - (intOf x).toNat)
  case atStart => exact ⟨0, l.item, none, 0, Nat.zero_le _, rfl, HT.out, HO0.out, ⟨World.ownsRow_nil _ _ _ _, fun j hj => absurd hj (by omega)⟩, fun q hq => absurd hq (by omega)⟩
  case round =>
    obtain ⟨k, g, pv, cv, hk, rfl, hT, hO, hL, hal⟩ := hrel
    have HTr := hid hT
    have HOr := hid hO
    have HL := hid hL
    have HA := hid hal
    have ra := hT.ba.lt
    have rb := hT.bb.lt
    have ro := hO.lt
    have d1 := hT.ba.cell 1
    have o0 := hO.cell 0
    have o1 := hO.cell 1
    simp at d1 o0 o1
    clear hT hO hL hal HT HO0
    by_cases hlt : k < l.n
    · have hlt' : (k : Int) < (l.n : Int) := by omega
      obtain ⟨bb, o, hp, hSb, hbb, hat⟩ := HI.out.at_ (by omega)
      rw [hp] at d1
      have r0 : wr.cell? ⟨bb, o + k * 2, none⟩ = some (.string (l.item k).text) := (World.cell?_of_block (a := ⟨bb, o + k * 2, none⟩) (HTr.out.bel.block bb hbb)).trans (hat k hlt 0 _ rfl)
      have r1 : wr.cell? ⟨bb, o + k * 2 + 1, none⟩ = some (.slice (l.item k).p (l.item k).n (l.item k).c) := (World.cell?_of_block (a := ⟨bb, o + k * 2 + 1, none⟩) (HTr.out.bel.block bb hbb)).trans (hat k hlt 1 _ rfl)
      have HIk : Hid (VT.In w S (l.item k)) := HI.out.each k hlt
      have hkt := HS.out k hlt
      have hbr : bb < wr.heap.size := by have := HTr.out.bel.size; omega
      have HC := hid (rvs8 ⟨(l.item k).p, (l.item k).n, (l.item k).c, (l.item k).item⟩ wr (fun b => S b ∧ b < w.heap.size) ((HIk.out.asLT.mono fun b hb hl => ⟨hb, hl⟩).kept HTr.out.bel.size (fun b hb _ => HTr.out.bel.block b hb.2)) (by show (l.item k).n ≤ 10000; rw [VT.total_upto] at hkt; omega) (fun j hj => Nat.le_trans (VT.item_total (l.item k) hj) hkt))
      clear hat hp hkt
      go_wp2_with fail
      refine HC.out.mono ?_
      rintro e w2 ⟨u, rfl, hal2, hin2, hb2⟩
      have HT2 := hid (HTr.out.below hb2)
      have HO2 := hid (HOr.out.below hb2)
      have HL2 := hid (HL.out.keep hb2.size (fun j _ hl => hb2.block j hl))
      have HU := hid (And.intro hal2 (And.intro hin2 hb2))
      have d1 := (World.cell?_of_block (a := ⟨w.heap.size, 1, none⟩) (hb2.block _ ra)).trans d1
      have o1 := (World.cell?_of_block (a := ⟨w.heap.size + 2, 1, none⟩) (hb2.block _ ro)).trans o1
      have r0 := (World.cell?_of_block (a := ⟨bb, o + k * 2, none⟩) (hb2.block _ hbr)).trans r0
      have ra := HT2.out.ba.lt
      have rb := HT2.out.bb.lt
      have ro := HO2.out.lt
      have hbr := Nat.lt_of_lt_of_le hbr hb2.size
      have hs2 : w.heap.size + 3 ≤ w2.heap.size := by omega
      have hsr : wr.heap.size ≤ w2.heap.size := hb2.size
      clear hal2 hin2 hb2 HC r1 o0
      go_wp2_with fail
      refine wp_region_calmE 30 (fun wx => Below w2.heap.size w2 wx) [(0, true), (1, false), (2, true), (3, false), (4, true), (5, true), (6, true), (7, false), (8, true), (9, true)] (.one 10 true [] (.one 11 false [(12, true)] (.one 13 false [] .done))) (by kernel_rfl) (by kernel_rfl) (Below.refl _ _).drew ?_
      refine wpPre_e rfl rfl (fun K1 hK1 => ?_)
      apply Exists.intro
      refine And.intro (fun wx hx => ?_) ?_
      · go_simp
        try rfl
      go_simp
      refine hK1 _ ?_
      clear hK1 K1
      refine wpPre_e rfl rfl (fun K1 hK1 => ?_)
      apply Exists.intro
      refine And.intro (fun wx hx => ?_) ?_
      · have e0 := below_fact hx rfl o1
        have e1 := below_fact hx rfl d1
        have e2 := below_fact hx rfl r0
        go_simp
        try rfl
      go_simp
      refine hK1 _ ?_
      clear hK1 K1
      refine wpPre_e rfl rfl (fun K1 hK1 => ?_)
      apply Exists.intro
      refine And.intro (fun wx hx => ?_) ?_
      · go_simp
        try rfl
      go_simp
      refine hK1 _ ?_
      clear hK1 K1
      refine wpPre_e rfl rfl (fun K1 hK1 => ?_)
      apply Exists.intro
      refine And.intro (fun wx hx => ?_) ?_
      · have e0 := below_fact hx rfl o1
        have e1 := below_fact hx rfl d1
        have e2 := below_fact hx rfl r0
        go_simp
        try rfl
      go_simp
      refine hK1 _ ?_
      clear hK1 K1
      refine wpPre_e rfl rfl (fun K1 hK1 => ?_)
      apply Exists.intro
      refine And.intro (fun wx hx => ?_) ?_
      · go_simp
        try rfl
      go_simp
      refine hK1 _ ?_
      clear hK1 K1
      refine wpPre_e rfl rfl (fun K1 hK1 => ?_)
      apply Exists.intro
      refine And.intro (fun wx hx => ?_) ?_
      · go_simp
        try rfl
      go_simp
      refine hK1 _ ?_
      clear hK1 K1
      refine wpPre_e rfl rfl (fun K1 hK1 => ?_)
      apply Exists.intro
      refine And.intro (fun wx hx => ?_) ?_
      · go_simp
        try rfl
      go_simp
      refine hK1 _ ?_
      clear hK1 K1
      refine wpPre_e rfl rfl (fun K1 hK1 => ?_)
      apply Exists.intro
      refine And.intro (fun wx hx => ?_) ?_
      · have e0 := below_fact hx rfl o1
        have e1 := below_fact hx rfl d1
        have e2 := below_fact hx rfl r0
        go_simp
        try rfl
      go_simp
      refine hK1 _ ?_
      clear hK1 K1
      refine wpPre_e rfl rfl (fun K1 hK1 => ?_)
      apply Exists.intro
      refine And.intro (fun wx hx => ?_) ?_
      · go_simp
        try rfl
      go_simp
      refine hK1 _ ?_
      clear hK1 K1
      refine wpPre_e rfl rfl (fun K1 hK1 => ?_)
      apply Exists.intro
      refine And.intro (fun wx hx => ?_) ?_
      · go_simp
        try rfl
      go_simp
      refine hK1 _ ?_
      clear hK1 K1
      refine wpPre_nil ?_
      refine wpTr_e rfl (fun K1 hK1 => ?_)
      go_simp
      have hb5 : Below w2.heap.size w2 (w2.alloc (.cells #[.string (l.item k).text, .slice u.p u.n u.c] 45)).drew := ((Below.refl w2.heap.size w2).alloc (Nat.le_refl _) _).drew
      refine hK1 _ _ (fun _ => hb5) ?_
      clear hK1 K1
      refine wpPre_nil ?_
      refine wpTr_e rfl (fun K1 hK1 => ?_)
      have hL5 := HL2.out.keep hb5.size (fun j _ hl => hb5.block j hl)
      have hnews : ∀ j u', (elCell.cells ((l.item k).with u))[j]? = some u' → (w2.alloc (.cells #[.string (l.item k).text, .slice u.p u.n u.c] 45)).drew.cell? ((⟨w2.heap.size, 0, none⟩ : Addr).add j) = some u' := fun j u' hu => by
        rw [Go.WideShapes.add_plain, ((Box.new w2 #[.string (l.item k).text, .slice u.p u.n u.c] 45).below (Below.refl _ _).drew).cell]
        rw [show 0 + j = j by omega]
        simpa [elCell, VT.two, VT.with, VT.text, VT.p, VT.n, VT.c] using hu
      have hu5 : elCell.In (w2.alloc (.cells #[.string (l.item k).text, .slice u.p u.n u.c] 45)).drew (fun b => w.heap.size + 3 ≤ b ∧ (Value.slice pv k cv).ownBlock ≠ some b) ((l.item k).with u) := ((VT.with_in HIk.out HU.out.2.1).below hb5).mono fun b hb _ => ⟨by have := HTr.out.bb.lt; have := HOr.out.lt; omega, fun e => by have := (HL.out.own.lt b e).2; omega⟩
      have HX5 := hid (And.intro hL5 (And.intro hnews (And.intro hu5 hb5)))
      clear hL5 hnews hu5
      refine step_app rfl (.tmp 24) (.tmp 33) 22 45 i1 _ 2 40 HKc.out rfl (w.heap.size + 3) (.slice pv k cv) k _ rfl HX5.out.1.own ⟨w2.heap.size, 0, none⟩ 1 1 (elCell.cells ((l.item k).with u)) rfl rfl HX5.out.2.1 (elCell.one _) (by omega) (by omega) (by simp; omega) ?_
      intro v6 w6 ho6 hg6 hn6
      have hL6 := HX5.out.1.push HX5.out.2.2.1 ho6 hg6 hn6
      obtain ⟨p6, c6, rfl⟩ := ownsRow_slice ho6
      have hr6 : ∀ j, (Value.slice pv k cv).ownBlock = some j → w.heap.size + 3 ≤ j := fun j hj => (HL2.out.own.lt j hj).1
      have hT6 := (HT2.out.below HX5.out.2.2.2).grown hg6 (fun j hj => by have := hr6 j hj; omega)
      have hO5 := HO2.out.below HX5.out.2.2.2
      have hO6 := hO5.kept (hg6.block _ hO5.lt (fun e => by have := hr6 _ e.symm; omega))
      have y1 := hO6.cell 1
      have f1 := hO6.frozen 1
      have ol6 := hO6.lt
      simp at y1
      have HX6 := hid (And.intro hT6 (And.intro hO6 hL6))
      clear ho6 hg6 hn6 hT6 hO5 hO6 hL6 HX5 hb5 hr6
      go_simp
      refine hK1 _ _ (fun h => by cases h) ?_
      clear hK1 K1
      refine wpPre_e rfl rfl (fun K1 hK1 => ?_)
      apply Exists.intro
      refine And.intro (fun wx hx => ?_) ?_
      · go_simp
        try rfl
      go_simp
      refine hK1 _ ?_
      clear hK1 K1
      refine wpPre_nil ?_
      refine wpTr_e rfl (fun K1 hK1 => ?_)
      go_simp
      refine hK1 _ _ (fun h => by cases h) ?_
      clear hK1 K1
      refine wpPre_nil ?_
      refine wpTr_done ?_
      have hbt : But (fun y => y = w.heap.size + 2) w6 (w6.setCell ⟨w.heap.size + 2, 1, none⟩ (.slice p6 (k + 1) c6)) := (But.one w6 _).setAt 1 _
      have HO7 : Hid (Box (w6.setCell ⟨w.heap.size + 2, 1, none⟩ (.slice p6 (k + 1) c6)) (w.heap.size + 2) #[.int .i64 num, .slice p6 (k + 1) c6] 24) := by
        have h := HX6.out.2.1.set 1 (.slice p6 (k + 1) c6)
        unfold Hid
        simpa using h
      have HL7 := hid (HX6.out.2.2.keep hbt.size (fun j hj hl => hbt.block j hl (by omega)))
      have HT7 : Hid (TwoK w (w6.setCell ⟨w.heap.size + 2, 1, none⟩ (.slice p6 (k + 1) c6)) #[.int .i64 num, .slice l.p l.n l.c] #[.int .i64 0, .slice none 0 0] 24) := ⟨HX6.out.1.ba.kept (hbt.block _ HX6.out.1.ba.lt (by omega)), HX6.out.1.bb.kept (hbt.block _ HX6.out.1.bb.lt (by omega)), HX6.out.1.bel.trans (hbt.below HX6.out.1.bel.size (fun x hx e => by omega))⟩
      have HA7 : Hid (∀ q, q < k + 1 → VT.Alike (l.item q) (if q < k then g q else (l.item k).with u)) := by
        intro q hq
        by_cases hqk : q < k
        · rw [if_pos hqk]; exact HA.out q hqk
        · rw [if_neg hqk]
          obtain rfl : q = k := by omega
          exact VT.with_alike HIk.out HU.out.1.n HU.out.1.item
      clear hbt
      go_wp2
      go_roundw
      case rel => exact ⟨k + 1, _, p6, c6, by omega, by go_num, HT7.out, HO7.out, HL7.out, HA7.out⟩
      case measure => simp [intOf]; omega
    · obtain rfl : k = l.n := by omega
      have hlt' : ¬ (l.n : Int) < (l.n : Int) := by omega
      obtain ⟨p3, c3, hv, hL⟩ := HL.out.in_ (by omega)
      simp only [Value.slice.injEq, true_and] at hv
      obtain ⟨rfl, rfl⟩ := hv
      have HLI := hid hL
      have z0 := HTr.out.bb.cell 0
      have z1 := HTr.out.bb.cell 1
      have g0 := HTr.out.bb.frozen 0
      have g1 := HTr.out.bb.frozen 1
      simp at z0 z1
      clear hL
      go_wp2
      have hbt : But (fun y => y = w.heap.size + 1) wr ((wr.setCell ⟨w.heap.size + 1, 0, none⟩ (.int .i64 num)).setCell ⟨w.heap.size + 1, 1, none⟩ (.slice pv l.n cv)) := ((But.one wr _).setAt 0 _).setAt 1 _
      refine bodyPost_ret (v := .agg #[.int .i64 num, .slice pv l.n cv]) (by simp [results, Try.results5, go_sem, z0, z1]) rfl ⟨⟨pv, l.n, cv, g⟩, rfl, ⟨rfl, HA.out⟩, ?_, HTr.out.bel.trans (hbt.below HTr.out.bel.size (fun x hx e => by omega))⟩
      exact (HLI.out.kept hbt.size (fun b hb hl => hbt.block b hl (by omega))).mono fun b hb _ => by omega
end Go.Proofs.Ytpknlbibijheaab
