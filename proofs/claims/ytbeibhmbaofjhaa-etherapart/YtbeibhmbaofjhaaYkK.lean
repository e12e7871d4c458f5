import Derived.Test.YtbeibhmbaofjhaaYkJ
import Derived.Test.YtbeibhmbaofjhaaPack19
namespace Go.Proofs.Ytbeibhmbaofjhaa
open Go.RowKit
set_option maxRecDepth 8000
/-- a flight that lies somewhere -/
structure YF where
  fr : Int
  tt : Int
  p : Option Addr
  c : Nat
  zs : List Int
def YF.a (y : YF) : FA := ⟨y.fr, y.tt, y.zs⟩
/-- bytes that stand in a block of S -/
def SrcIn (w : World) (S : Nat → Prop) (p : Option Addr) (c : Nat) (zs : List Int) : Prop :=
  (p = none ∧ zs = [] ∧ c = 0) ∨ ∃ b o, p = some ⟨b, o, none⟩ ∧ S b ∧ b < w.heap.size ∧ ∀ (j : Nat) u, (zs.map (Value.int .u8))[j]? = some u → w.cell? ⟨b, o + j, none⟩ = some u
theorem SrcIn.src {w : World} {S : Nat → Prop} {p : Option Addr} {c : Nat} {zs : List Int} (h : SrcIn w S p c zs) : Src w p zs.length c 1 (zs.map (.int .u8)) := by
  rcases h with ⟨rfl, rfl, rfl⟩ | ⟨b, o, rfl, _, _, h⟩
  · exact .inl ⟨rfl, rfl, rfl, rfl⟩
  · refine .inr ⟨_, rfl, by simp, fun j u hu => ?_⟩
    rw [Go.WideShapes.add_plain]
    exact h j u hu
theorem SrcIn.kept {w w' : World} {S : Nat → Prop} {p : Option Addr} {c : Nat} {zs : List Int} (h : SrcIn w S p c zs) (hs : w.heap.size ≤ w'.heap.size) (hb : ∀ b, S b → b < w.heap.size → w'.heap[b]? = w.heap[b]?) : SrcIn w' S p c zs := by
  rcases h with h | ⟨b, o, e, hS, hl, h⟩
  · exact .inl h
  · exact .inr ⟨b, o, e, hS, Nat.lt_of_lt_of_le hl hs, fun j u hu => (World.cell?_of_block (a := ⟨b, o + j, none⟩) (hb b hS hl)).trans (h j u hu)⟩
theorem SrcIn.mono {w : World} {S S' : Nat → Prop} {p : Option Addr} {c : Nat} {zs : List Int} (h : SrcIn w S p c zs) (hS : ∀ b, S b → b < w.heap.size → S' b) : SrcIn w S' p c zs := by
  rcases h with h | ⟨b, o, e, h1, hl, h⟩
  · exact .inl h
  · exact .inr ⟨b, o, e, hS b h1 hl, hl, h⟩
theorem own_srcin {w : World} {base : Nat} {p : Option Addr} {c : Nat} {zs : List Int} (h : OwnBy base w (.slice p zs.length c) zs) {S : Nat → Prop} (hS : ∀ k ∈ ob (.slice p zs.length c), S k) : SrcIn w S p c zs := by
  have hc := @World.ownsRow.cells _ _ _ _ _ _ _ h
  have hlt := h.lt
  obtain ⟨_, ⟨hv, h0⟩ | ⟨g, cap, cur, hv, _⟩⟩ := id h
  · simp only [Value.slice.injEq] at hv
    exact .inl ⟨hv.1, List.eq_nil_of_length_eq_zero h0, hv.2.2⟩
  · simp only [Value.slice.injEq] at hv
    obtain ⟨hp, _, _⟩ := hv
    have hg : (Value.slice p zs.length c).ownBlock = some g := by rw [hp]; rfl
    refine .inr ⟨g, 0, hp, hS g (ob_mem.2 hg), (hlt g hg).2, fun j u hu => ?_⟩
    have := hc hg j u hu
    rw [Go.WideShapes.add_plain] at this
    exact this
def elY : El YF where
  ty := 53
  size := 3
  cells := fun y => [.int .i64 y.fr, .int .i64 y.tt, .slice y.p y.zs.length y.c]
  len := fun _ => rfl
  one := fun x u hu => by
    simp only [List.mem_cons, List.not_mem_nil, or_false] at hu
    rcases hu with rfl | rfl | rfl <;> rfl
  In := fun w S y => SrcIn w S y.p y.c y.zs
  kept := fun h hs hb => h.kept hs hb
  mono := fun h hb => h.mono hb
/-- a list of flights says what it says -/
theorem LT.In.fls {w : World} {S : Nat → Prop} {l : LT YF} (h : LT.In elY w S l) {A : List FA} (hn : l.n = A.length) (hk : ∀ j a, A[j]? = some a → (l.item j).a = a) : FlsR w l.p A := by
  refine ⟨fun h0 => ?_⟩
  obtain ⟨b, o, hp, _, hl, hat⟩ := h.at_ (by omega)
  refine ⟨b, o, hp, hl, fun j a ha => ?_⟩
  have hj : j < l.n := by
    rw [hn]
    exact (List.getElem?_eq_some_iff.1 ha).1
  have e := hk j a ha
  have e0 : (l.item j).fr = a.fr := by rw [← e]; rfl
  have e1 : (l.item j).tt = a.tt := by rw [← e]; rfl
  have e2 : (l.item j).zs = a.zs := by rw [← e]; rfl
  refine ⟨(l.item j).p, (l.item j).c, ?_, ?_, ?_, ?_⟩
  · rw [← e0]; exact hat j hj 0 _ rfl
  · rw [← e1]; exact hat j hj 1 _ rfl
  · rw [← e2]; exact hat j hj 2 _ rfl
  · rw [← e2]; exact (h.each j hj).src
def CpsQ (A : List FA) (w : World) (e : Ending) (w' : World) : Prop :=
  ∃ u : LT YF, e = .returned (.slice u.p u.n u.c) ∧ LT.In elY w' (fun k => w.heap.size ≤ k) u ∧ u.n = A.length ∧ (∀ j a, A[j]? = some a → (u.item j).a = a) ∧ Below w.heap.size w w'
set_option maxHeartbeats 8000000 in
/-- copies -/
theorem copies_any (A : List FA) (p : Option Addr) (c : Nat) (w : World) (hA : FlsR w p A) (hn : A.length ≤ 100000) (hz : ∀ a ∈ A, a.zs.length ≤ 100000) :
    Calls Try.prog 7 #[.slice p A.length c] w fun e w' => CpsQ A w e w' := by
  obtain ⟨i0, Kd⟩ := kindFl
  obtain ⟨i1, Kd1⟩ := kindB
  have HKd := hid Kd
  have HKd1 := hid Kd1
  have HA := hid hA
  have HZ := hid hz
  clear hA Kd hz Kd1
  go_enter Try.func7, Try.ntmps7
  go_wp2_with fail
  go_loopw [3, 4] (fun v x wr => ∃ (i : Nat) (g : Nat → YF), i ≤ A.length ∧ x = .int .i64 (i : Int) ∧ OwnL elY w.heap.size wr v i g ∧ (∀ q a, q < i → A[q]? = some a → (g q).a = a) ∧ Below w.heap.size w wr) (fun _ x _ => A.length - (intOf x).toNat)
  case atStart => exact ⟨0, fun _ => ⟨0, 0, none, 0, []⟩, Nat.zero_le _, rfl, ⟨World.ownsRow_nil _ _ _ _, fun j hj => absurd hj (by omega)⟩, fun q a hq => absurd hq (by omega), Below.refl _ _⟩
  case round =>
    obtain ⟨i, g, hi, rfl, hO, hg, hbw⟩ := hrel
    have HO := hid hO
    have HG := hid hg
    have HBw := hid hbw
    clear hO hg hbw
    by_cases hlt : i < A.length
    · as_aux_lemma =>
      have hlt' : (i : Int) < (A.length : Int) := by omega
      obtain ⟨a, ha⟩ : ∃ a, A[i]? = some a := ⟨_, List.getElem?_eq_getElem hlt⟩
      obtain ⟨bb, o, hp, hbb, hat⟩ := HA.out.at_ (by omega)
      obtain ⟨q, cq, h0, h1, h2, hs⟩ := hat i a ha
      have a0 : wr.cell? ⟨bb, o + i * 3, none⟩ = some (.int .i64 a.fr) := (World.cell?_of_block (a := ⟨bb, o + i * 3, none⟩) (HBw.out.block bb hbb)).trans h0
      have a1 : wr.cell? ⟨bb, o + i * 3 + 1, none⟩ = some (.int .i64 a.tt) := (World.cell?_of_block (a := ⟨bb, o + i * 3 + 1, none⟩) (HBw.out.block bb hbb)).trans h1
      have a2 : wr.cell? ⟨bb, o + i * 3 + 2, none⟩ = some (.slice q a.zs.length cq) := (World.cell?_of_block (a := ⟨bb, o + i * 3 + 2, none⟩) (HBw.out.block bb hbb)).trans h2
      have HAz : Hid (a.zs.length ≤ 100000) := HZ.out a (List.mem_of_getElem? ha)
      have HAe := hid ha
      have HSr : Hid (∀ W, Below wr.heap.size wr W → Src W q a.zs.length cq 1 (a.zs.map (.int .u8))) := fun W hW => hs.below (HBw.out.trans (hW.mono HBw.out.size))
      rw [hp]
      obtain ⟨V1, hV1⟩ : ∃ V, V = wr.alloc (.cells #[.int .i64 a.fr, .int .i64 a.tt, .slice q a.zs.length cq] 53) := ⟨_, rfl⟩
      have HB1 : Hid (Below wr.heap.size wr V1) := by show Below _ _ _; rw [hV1]; exact (Below.refl _ _).alloc (Nat.le_refl _) _
      have HX1 : Hid (Box V1 wr.heap.size #[.int .i64 a.fr, .int .i64 a.tt, .slice q a.zs.length cq] 53) := by show Box _ _ _ _; rw [hV1]; exact Box.new _ _ _
      have HV1 := hid hV1
      have b2 : V1.cell? ⟨bb, o + i * 3 + 2, none⟩ = some (.slice q a.zs.length cq) := (World.cell?_of_block (a := ⟨bb, o + i * 3 + 2, none⟩) (HB1.out.block bb (Nat.lt_of_lt_of_le hbb HBw.out.size))).trans a2
      have b3 : (V1.alloc (.cells #[] 5)).cell? ⟨bb, o + i * 3 + 2, none⟩ = some (.slice q a.zs.length cq) := (World.cell?_of_block (a := ⟨bb, o + i * 3 + 2, none⟩) (((Below.refl V1.heap.size V1).alloc (Nat.le_refl _) _).block bb (Nat.lt_of_lt_of_le hbb (Nat.le_trans HBw.out.size HB1.out.size)))).trans b2
      have az := HAz.out
      clear hV1 ha h0 h1 h2 hs hat
      go_upto_region 6 with fail
      rw [← HV1.out]
      clear a0 a1 a2
      have x2 := HX1.out.cell 2
      have xl := HX1.out.lt
      have xf := HX1.out.frozen 2
      simp at x2
      go_wp2_with (at_builtin; refine wpList_appS rfl (.tmp 16) (.tmp 21) 51 5 i1 _ 1 1 HKd1.out rfl 0 (.slice (some ⟨V1.heap.size, 0, none⟩) 0 0) 0 [] rfl (row_zero V1) q a.zs.length cq (a.zs.map (.int .u8)) rfl (HSr.out _ (HB1.out.trans (((Below.refl V1.heap.size V1).alloc (Nat.le_refl _) _).mono HB1.out.size))) (one_u8 _) (by omega) (by omega) (Nat.zero_le _) ?_)
      intro v2 w2 ho2 hg2 hn2
      obtain ⟨p2, c2, hv2⟩ := row_val ho2
      subst hv2
      have HR2 : Hid (OwnBy 0 w2 (.slice p2 a.zs.length c2) a.zs) := ho2
      have hB2 : Below V1.heap.size V1 w2 := Below.grown ((Below.refl V1.heap.size V1).alloc (Nat.le_refl _) (.cells #[] 5)) hg2 ((Below.refl V1.heap.size V1).alloc (Nat.le_refl _) (.cells #[] 5)).size (fun k hk => by
        have hk2 : V1.heap.size = k := by simpa [Value.ownBlock] using hk
        omega)
      have HG2 : Hid (∀ k ∈ ob (.slice p2 a.zs.length c2), V1.heap.size ≤ k) := by
        intro k hk
        rcases hn2 with e | e
        · rw [ob_mem, e] at hk
          have hk2 : V1.heap.size = k := by simpa [Value.ownBlock] using hk
          omega
        · have := e k (ob_mem.1 hk)
          have h9 := ((Below.refl V1.heap.size V1).alloc (Nat.le_refl _) (.cells #[] 5)).size
          omega
      have HBV2 := hid hB2
      have HX2 := hid (HX1.out.below hB2)
      clear ho2 hg2 hn2 hB2 b2 b3 x2 xl xf
      obtain ⟨V3, hV3⟩ : ∃ V, V = w2.setCell ⟨wr.heap.size, 2, none⟩ (.slice p2 a.zs.length c2) := ⟨_, rfl⟩
      have HX3 : Hid (Box V3 wr.heap.size #[.int .i64 a.fr, .int .i64 a.tt, .slice p2 a.zs.length c2] 53) := by
        show Box _ _ _ _
        rw [hV3]
        have h := HX2.out.set 2 (.slice p2 a.zs.length c2)
        simpa using h
      have hbt : But (fun k => k = wr.heap.size) w2 V3 := by rw [hV3]; exact (But.one _ _).setAt 2 _
      have HBt := hid hbt
      have HV3 := hid hV3
      have HB3 : Hid (Below wr.heap.size wr V3) := HB1.out.trans ((HBV2.out.mono HB1.out.size).trans (HBt.out.below (Nat.le_trans HB1.out.size HBV2.out.size) fun k hk e => by have e' : k = wr.heap.size := e; omega))
      have f2 := HX2.out.cell 2
      have fz := HX2.out.frozen 2
      have fl := HX2.out.lt
      simp at f2
      clear hbt hV3
      go_upto_region 7 with fail
      rw [← HV3.out]
      clear f2 fz fl
      have f0 := HX3.out.cell 0
      have f1 := HX3.out.cell 1
      have f2 := HX3.out.cell 2
      have fl := HX3.out.lt
      simp at f0 f1 f2
      obtain ⟨y, hy⟩ : ∃ y : YF, y = ⟨a.fr, a.tt, p2, c2, a.zs⟩ := ⟨_, rfl⟩
      have hal : Below V3.heap.size V3 (V3.alloc (.cells #[.int .i64 a.fr, .int .i64 a.tt, .slice p2 a.zs.length c2] 53)) := (Below.refl _ _).alloc (Nat.le_refl _) _
      have hO2 := (HO.out.keep HB3.out.size (fun k _ hl => HB3.out.block k hl)).keep hal.size (fun k _ hl => hal.block k hl)
      have hu2 : elY.In (V3.alloc (.cells #[.int .i64 a.fr, .int .i64 a.tt, .slice p2 a.zs.length c2] 53)) (fun b => w.heap.size ≤ b ∧ u3.ownBlock ≠ some b) y := by
        have hr3 : OwnBy 0 V3 (.slice p2 a.zs.length c2) a.zs := own_kept HR2.out fun k hk => HBt.out.block k (own_lt HR2.out hk) (by have h1 := HG2.out k hk; have h3 := HX1.out.lt; show ¬ k = wr.heap.size; omega)
        have hr4 : OwnBy 0 (V3.alloc (.cells #[.int .i64 a.fr, .int .i64 a.tt, .slice p2 a.zs.length c2] 53)) (.slice p2 a.zs.length c2) a.zs := own_kept hr3 fun k hk => hal.block k (own_lt hr3 hk)
        rw [hy]
        refine own_srcin hr4 fun k hk => ⟨?_, fun e => ?_⟩
        · have h1 := HG2.out k hk
          have h2 := HB1.out.size
          have h3 := HBw.out.size
          omega
        · have h1 := HG2.out k hk
          have h2 := (HO.out.own.lt k e).2
          have h3 := HB1.out.size
          omega
      have hnw : ∀ j u', (elY.cells y)[j]? = some u' → (V3.alloc (.cells #[.int .i64 a.fr, .int .i64 a.tt, .slice p2 a.zs.length c2] 53)).cell? ((⟨V3.heap.size, 0, none⟩ : Addr).add j) = some u' := fun j u' hu => by
        rw [Go.WideShapes.add_plain, (Box.new V3 #[.int .i64 a.fr, .int .i64 a.tt, .slice p2 a.zs.length c2] 53).cell]
        rw [show 0 + j = j by omega]
        rw [hy] at hu
        simpa [elY] using hu
      have hbA : Below w.heap.size w (V3.alloc (.cells #[.int .i64 a.fr, .int .i64 a.tt, .slice p2 a.zs.length c2] 53)) := (HBw.out.trans (HB3.out.mono HBw.out.size)).trans (hal.mono (Nat.le_trans HBw.out.size HB3.out.size))
      have HP := hid (And.intro hO2 (And.intro hu2 (And.intro hnw hbA)))
      have HY : Hid (y.a = a) := by show y.a = a; rw [hy]; rfl
      clear hal hO2 hu2 hnw hbA hy
      go_wp2_with (at_builtin; refine wpList_app rfl (.tmp 24) (.tmp 26) 29 53 i0 _ 3 40 HKd.out rfl w.heap.size u3 i _ rfl HP.out.1.own ⟨V3.heap.size, 0, none⟩ 1 1 (elY.cells y) rfl rfl HP.out.2.2.1 (elY.one _) (by omega) (by omega) HP.out.2.2.2.size ?_)
      intro v5 w5 ho5 hg5 hn5
      have HO5 := hid (HP.out.1.push HP.out.2.1 ho5 hg5 hn5)
      have HB5 : Hid (Below w.heap.size w w5) := HP.out.2.2.2.grown hg5 HP.out.2.2.2.size (fun k hk => (HP.out.1.own.lt k hk).1)
      have HG5 : Hid (∀ q a, q < i + 1 → A[q]? = some a → (if q < i then g q else y).a = a) := by
        intro q a2 hq h2
        by_cases hqi : q < i
        · rw [if_pos hqi]; exact HG.out q a2 hqi h2
        · rw [if_neg hqi]
          obtain rfl : q = i := by omega
          rw [HY.out]
          exact Option.some.inj (HAe.out.symm.trans h2)
      clear ho5 hg5 hn5 HP
      go_wp2
      go_roundw
      case rel => exact ⟨i + 1, _, by omega, by go_num, HO5.out, HG5.out, HB5.out⟩
      case measure => simp [intOf]; omega
    · as_aux_lemma =>
      have hlt' : ¬ (i : Int) < (A.length : Int) := by omega
      obtain rfl : i = A.length := by omega
      obtain ⟨p3, c3, hv3, hL3⟩ := HO.out.in_ (by omega)
      subst hv3
      go_wp2
      exact bodyPost_ret (v := .slice p3 A.length c3) (by simp [results, Try.results7, go_sem]) rfl ⟨⟨p3, A.length, c3, g⟩, rfl, hL3, rfl, fun j a ha => HG.out j a (List.getElem?_eq_some_iff.1 ha).1 ha, HBw.out⟩
end Go.Proofs.Ytbeibhmbaofjhaa
