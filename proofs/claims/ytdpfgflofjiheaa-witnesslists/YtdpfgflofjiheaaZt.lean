import Derived.Test.YtdpfgflofjiheaaZs
namespace Go.Proofs.Ytdpfgflofjiheaa
open Go.RowKit
set_option maxRecDepth 8000
/-- the three rows of events, by number -/
def An.rv (X : An) : Nat → Value
  | 0 => X.va
  | 1 => X.vb
  | _ => X.vc
def An.rl (X : An) : Nat → List EV
  | 0 => X.a
  | 1 => X.b
  | _ => X.c
def An.put (X : An) (xs : List EV) : Nat → An
  | 0 => { X with a := xs }
  | 1 => { X with b := xs }
  | _ => { X with c := xs }
theorem An.put_cs (X : An) (xs : List EV) (k : Nat) : (X.put xs k).cs = X.cs := by
  match k with
  | 0 => rfl
  | 1 => rfl
  | _ + 2 => rfl
theorem AnI.row {w : World} {S : Nat → Prop} {X : An} (h : AnI w S X) (k : Nat) : EvRow 0 w (X.rv k) (X.rl k) ∧ (∀ g, (X.rv k).ownBlock = some g → S g) ∧ (X.rl k).length ≤ 4398046511064 := by
  match k with
  | 0 => exact ⟨h.ra, h.sa, h.ll.1⟩
  | 1 => exact ⟨h.rb, h.sb, h.ll.2.1⟩
  | _ + 2 => exact ⟨h.rc, h.sc, h.ll.2.2.1⟩
theorem AnI.put {w w' : World} {S : Nat → Prop} {X : An} {xs : List EV} {k : Nat} (h : AnI w S X) (hr : EvRow 0 w' (X.rv k) xs) (hl : xs.length = (X.rl k).length) (hb : But (fun b => (X.rv k).ownBlock = some b) w w') : AnI w' S (X.put xs k) := by
  obtain ⟨l1, l2, l3, l4⟩ := h.ll
  match k with
  | 0 =>
    exact ⟨hr, ownsRow_keep h.rb fun g hg hl => hb.block g hl fun e => h.ab g e hg, ownsRow_keep h.rc fun g hg hl => hb.block g hl fun e => h.ac g e hg, ownsRow_keep h.rp fun g hg hl => hb.block g hl fun e => h.ap g e hg, h.sa, h.sb, h.sc, h.sp, h.ab, h.ac, h.ap, h.bc, h.bp, h.cp, ⟨by show xs.length ≤ _; rw [hl]; exact l1, l2, l3, l4⟩⟩
  | 1 =>
    exact ⟨ownsRow_keep h.ra fun g hg hl => hb.block g hl fun e => h.ab g hg e, hr, ownsRow_keep h.rc fun g hg hl => hb.block g hl fun e => h.bc g e hg, ownsRow_keep h.rp fun g hg hl => hb.block g hl fun e => h.bp g e hg, h.sa, h.sb, h.sc, h.sp, h.ab, h.ac, h.ap, h.bc, h.bp, h.cp, ⟨l1, by show xs.length ≤ _; rw [hl]; exact l2, l3, l4⟩⟩
  | _ + 2 =>
    exact ⟨ownsRow_keep h.ra fun g hg hl => hb.block g hl fun e => h.ac g hg e, ownsRow_keep h.rb fun g hg hl => hb.block g hl fun e => h.bc g hg e, hr, ownsRow_keep h.rp fun g hg hl => hb.block g hl fun e => h.cp g e hg, h.sa, h.sb, h.sc, h.sp, h.ab, h.ac, h.ap, h.bc, h.bp, h.cp, ⟨l1, l2, by show xs.length ≤ _; rw [hl]; exact l3, l4⟩⟩
theorem ev_set : ∀ (xs : List EV) (i : Nat) (t p : Int), i < xs.length → ((xs.flatMap EV.cells).set (i * 2) (.int .i64 t)).set (i * 2 + 1) (.int .i64 p) = (xs.set i ⟨t, p⟩).flatMap EV.cells := by
  intro xs
  induction xs with
  | nil => intro i t p h; simp at h
  | cons x xs ih =>
    intro i t p h
    cases i with
    | zero => simp [EV.cells]
    | succ i =>
      have := ih i t p (by simpa using h)
      simp only [List.flatMap_cons, EV.cells, List.cons_append, List.nil_append, List.set_cons_succ, Nat.add_mul, Nat.one_mul] at this ⊢
      rw [← this]
theorem EvRow.set_ {b g n c : Nat} {w : World} {xs : List EV} {i : Nat} {t p : Int} (h : EvRow b w (.slice (some ⟨g, 0, none⟩) n c) xs) (hi : i < xs.length) : EvRow b ((w.setCell ⟨g, i * 2, none⟩ (.int .i64 t)).setCell ⟨g, i * 2 + 1, none⟩ (.int .i64 p)) (.slice (some ⟨g, 0, none⟩) n c) (xs.set i ⟨t, p⟩) := by
  obtain ⟨p9, c9, h9⟩ := ownsRow_slice h
  obtain rfl : n = xs.length := by cases h9; rfl
  have h1 := ((World.ownsRow.stored (show World.ownsRow w b 39 2 (.slice (some ⟨g, 0, none⟩) xs.length c) xs.length (xs.flatMap EV.cells) from h) (i * 2) (.int .i64 t)).1.stored (i * 2 + 1) (.int .i64 p)).1
  rw [ev_set xs i t p hi] at h1
  unfold EvRow
  rw [List.length_set]
  exact h1
theorem EvRow.cell {b g n c : Nat} {w : World} {xs : List EV} {i : Nat} (h : EvRow b w (.slice (some ⟨g, 0, none⟩) n c) xs) (hi : i < xs.length) : (∃ t p, w.cell? ⟨g, i * 2, none⟩ = some (.int .i64 t) ∧ w.cell? ⟨g, i * 2 + 1, none⟩ = some (.int .i64 p)) ∧ w.frozen? ⟨g, i * 2, none⟩ = false ∧ w.frozen? ⟨g, i * 2 + 1, none⟩ = false ∧ g < w.heap.size := by
  have e : xs = xs.take i ++ xs[i] :: xs.drop (i + 1) := by simp
  have hl : (xs.take i).length = i := by rw [List.length_take]; omega
  rw [e] at h
  obtain ⟨h1, h2, h3, h4, h5⟩ := h.at_
  rw [hl] at h1 h2 h3 h4
  exact ⟨⟨_, _, h1, h2⟩, h3, h4, h5⟩
theorem in_set : ∀ (xs : List Int) (i : Nat) (t : Int), (xs.flatMap elInt.cells).set i (.int .i64 t) = (xs.set i t).flatMap elInt.cells := by
  intro xs
  induction xs with
  | nil => intro i t; simp
  | cons x xs ih =>
    intro i t
    cases i with
    | zero => simp [elInt]
    | succ i =>
      have := ih i t
      simp only [elInt, List.flatMap_cons, List.cons_append, List.nil_append, List.set_cons_succ] at this ⊢
      rw [← this]
theorem InRow.set_ {b g n c : Nat} {w : World} {xs : List Int} {i : Nat} {t : Int} (h : InRow b w (.slice (some ⟨g, 0, none⟩) n c) xs) : InRow b (w.setCell ⟨g, i, none⟩ (.int .i64 t)) (.slice (some ⟨g, 0, none⟩) n c) (xs.set i t) := by
  obtain ⟨p9, c9, h9⟩ := ownsRow_slice h
  obtain rfl : n = xs.length := by cases h9; rfl
  have h1 := (World.ownsRow.stored (show World.ownsRow w b 3 1 (.slice (some ⟨g, 0, none⟩) xs.length c) xs.length (xs.flatMap elInt.cells) from h) i (.int .i64 t)).1
  rw [in_set xs i t] at h1
  unfold InRow
  rw [List.length_set]
  exact h1
theorem InRow.some_ {base : Nat} {w : World} {p : Option Addr} {n c : Nat} {xs : List Int} (h : InRow base w (.slice p n c) xs) (hx : 0 < xs.length) : ∃ g, p = some ⟨g, 0, none⟩ ∧ n = xs.length ∧ g < w.heap.size := by
  have hlt := h.lt
  obtain ⟨_, ⟨hv, h0⟩ | ⟨gb, cap, cur, hv, hbg, hh, hc, _⟩⟩ := id h
  · omega
  · cases hv
    exact ⟨gb, rfl, rfl, (hlt gb rfl).2⟩
theorem InRow.cell {b g n c : Nat} {w : World} {xs : List Int} {i : Nat} (h : InRow b w (.slice (some ⟨g, 0, none⟩) n c) xs) (hi : i < xs.length) : (∃ t, w.cell? ⟨g, i, none⟩ = some (.int .i64 t)) ∧ w.frozen? ⟨g, i, none⟩ = false ∧ g < w.heap.size := by
  obtain ⟨g', c', hv, _, hl, _, hc⟩ := h.at_ (by omega)
  cases hv
  obtain ⟨h1, h2⟩ := hc i xs[i] (List.getElem?_eq_getElem hi)
  exact ⟨⟨_, h1⟩, h2, hl⟩
theorem AnI.putP {w w' : World} {S : Nat → Prop} {X : An} {xs : List Int} (h : AnI w S X) (hr : InRow 0 w' X.vp xs) (hl : xs.length = X.p.length) (hb : But (fun b => X.vp.ownBlock = some b) w w') : AnI w' S { X with p := xs } := by
  obtain ⟨l1, l2, l3, l4⟩ := h.ll
  exact ⟨ownsRow_keep h.ra fun g hg hl => hb.block g hl fun e => h.ap g hg e, ownsRow_keep h.rb fun g hg hl => hb.block g hl fun e => h.bp g hg e, ownsRow_keep h.rc fun g hg hl => hb.block g hl fun e => h.cp g hg e, hr, h.sa, h.sb, h.sc, h.sp, h.ab, h.ac, h.ap, h.bc, h.bp, h.cp, ⟨l1, l2, l3, by show xs.length ≤ _; rw [hl]; exact l4⟩⟩
theorem cs_rows {X Y : An} (h : X.cs = Y.cs) : X.va = Y.va ∧ X.vb = Y.vb ∧ X.vc = Y.vc ∧ X.vp = Y.vp ∧ X.e = Y.e ∧ X.f = Y.f ∧ X.h = Y.h := by
  unfold An.cs at h
  simpa using h
theorem cs_rv {X Y : An} (h : X.cs = Y.cs) (k : Nat) : X.rv k = Y.rv k := by
  obtain ⟨h1, h2, h3, _⟩ := cs_rows h
  match k with
  | 0 => exact h1
  | 1 => exact h2
  | _ + 2 => exact h3
set_option maxHeartbeats 8000000 in
/-- marks over all elements: the rows lie where they lay -/
theorem writes_any (X : An) (n : Int) (w : World) (S : Nat → Prop) (hX : AnI w S X) :
    Calls Try.prog 23 #[X.val, .int .i64 n] w fun e w' => e = .returned (.tuple #[]) ∧ ∃ Y : An, Y.cs = X.cs ∧ AnI w' S Y ∧ But S w w' := by
  obtain ⟨xp1, xc1, xe1⟩ := ownsRow_slice hX.ra
  obtain ⟨xp2, xc2, xe2⟩ := ownsRow_slice hX.rb
  obtain ⟨xp3, xc3, xe3⟩ := ownsRow_slice hX.rc
  obtain ⟨xp4, xc4, xe4⟩ := ownsRow_slice hX.rp
  obtain ⟨na, hna⟩ : ∃ z, z = X.a.length := ⟨_, rfl⟩
  obtain ⟨nb, hnb⟩ : ∃ z, z = X.b.length := ⟨_, rfl⟩
  obtain ⟨nc, hnc⟩ : ∃ z, z = X.c.length := ⟨_, rfl⟩
  obtain ⟨np, hnp⟩ : ∃ z, z = X.p.length := ⟨_, rfl⟩
  rw [← hna] at xe1
  rw [← hnb] at xe2
  rw [← hnc] at xe3
  rw [← hnp] at xe4
  have hxv : X.val = .agg #[.slice xp1 na xc1, .slice xp2 nb xc2, .slice xp3 nc xc3, .slice xp4 np xc4, .int .i64 X.e, .int .i64 X.f, .int .i64 X.h] := by unfold An.val An.cs; rw [xe1, xe2, xe3, xe4]
  have hlp := hX.ll.2.2.2
  rw [← hnp] at hlp
  rw [hxv]
  obtain ⟨W0, hW0⟩ : ∃ W0, W0 = (w.alloc (.cells #[.slice xp1 na xc1, .slice xp2 nb xc2, .slice xp3 nc xc3, .slice xp4 np xc4, .int .i64 X.e, .int .i64 X.f, .int .i64 X.h] 51)).alloc (.cells #[.slice xp1 na xc1, .slice xp2 nb xc2, .slice xp3 nc xc3] 31) := ⟨_, rfl⟩
  have hB0 : Below w.heap.size w W0 := by rw [hW0]; exact below2 _ _ _
  have hs0 : W0.heap.size = w.heap.size + 2 := by rw [hW0]; simp
  have bA : Box W0 w.heap.size #[.slice xp1 na xc1, .slice xp2 nb xc2, .slice xp3 nc xc3, .slice xp4 np xc4, .int .i64 X.e, .int .i64 X.f, .int .i64 X.h] 51 := by rw [hW0]; exact (Box.new _ _ _).below (below1 _ _)
  have bL : Box W0 (w.heap.size + 1) #[.slice xp1 na xc1, .slice xp2 nb xc2, .slice xp3 nc xc3] 31 := by
    have h1 := Box.new (w.alloc (.cells #[.slice xp1 na xc1, .slice xp2 nb xc2, .slice xp3 nc xc3, .slice xp4 np xc4, .int .i64 X.e, .int .i64 X.f, .int .i64 X.h] 51)) #[.slice xp1 na xc1, .slice xp2 nb xc2, .slice xp3 nc xc3] 31
    rw [World.size_alloc] at h1
    rw [hW0]
    exact h1
  obtain ⟨S0, hS0⟩ : ∃ S0 : Nat → Prop, S0 = fun b => S b ∧ b < w.heap.size := ⟨_, rfl⟩
  have hX0 : AnI W0 S0 X := by
    rw [hS0]
    exact (hX.mono fun k hk hl => ⟨hk, hl⟩).keep fun k hk _ => hB0.block k hk.2
  have HW0 := hid hW0
  have HB0 := hid hB0
  have HS := hid hs0
  have HA := hid bA
  have HL := hid bL
  have HS0 := hid hS0
  have HX0 := hid hX0
  have HNp := hid hnp
  have HE1 := hid xe1
  have HE2 := hid xe2
  have HE3 := hid xe3
  have HE4 := hid xe4
  clear hW0 hB0 hs0 bA bL hS0 hX0 hX hna hnb hnc hnp xe1 xe2 xe3 xe4 hxv
  go_enter Try.func23, Try.ntmps23
  go_upto_region 2 with fail
  rw [← HW0.out]
  go_wp2_with fail
  go_loopw [5] (fun x wr => ∃ (k : Nat) (Y : An), k ≤ 3 ∧ x = .int .i64 (k : Int) ∧ Y.cs = X.cs ∧ AnI wr S0 Y ∧ But S0 W0 wr) (fun x _ => 3 - (intOf x).toNat)
  case atStart => exact ⟨0, X, by omega, rfl, rfl, HX0.out, But.refl _ _⟩
  case round =>
    obtain ⟨k, Y, hk, rfl, hcs, hY, hbut⟩ := hrel
    have HCs := hid hcs
    have HY := hid hY
    have HBut := hid hbut
    have hnS1 : ¬ S0 (w.heap.size + 1) := by rw [HS0.out]; intro h; have := h.2; omega
    have hnS0 : ¬ S0 w.heap.size := by rw [HS0.out]; intro h; have := h.2; omega
    have HN1 := hid hnS1
    have HN0 := hid hnS0
    have bLr := HL.out.but hbut hnS1
    by_cases hlt : k < 3
    · have hlt' : (k : Int) < 3 := by omega
      obtain ⟨pk, nk, ck, hrv, hcell⟩ : ∃ pk nk ck, X.rv k = .slice pk nk ck ∧ wr.cell? ⟨w.heap.size + 1, k, none⟩ = some (.slice pk nk ck) := by
        have h0 := bLr.cell k
        match k, hlt with
        | 0, _ => exact ⟨_, _, _, HE1.out, by rw [h0]; rfl⟩
        | 1, _ => exact ⟨_, _, _, HE2.out, by rw [h0]; rfl⟩
        | 2, _ => exact ⟨_, _, _, HE3.out, by rw [h0]; rfl⟩
      have hyv : Y.rv k = .slice pk nk ck := (cs_rv hcs k).trans hrv
      obtain ⟨hrow, hin, hlen⟩ := hY.row k
      rw [hyv] at hrow hin
      have hnk : nk = (Y.rl k).length := by obtain ⟨q1, q2, q3⟩ := ownsRow_slice hrow; cases q3; rfl
      rw [← hnk] at hlen
      have ll := bLr.lt
      have HRow := hid hrow
      have HIn := hid hin
      have HYv := hid hyv
      have HNk := hid hnk
      have HLr := hid bLr
      clear hrow hin hyv hnk hrv hcs hY hbut hnS1 hnS0 bLr
      obtain ⟨wo, hwo⟩ : ∃ x, x = wr := ⟨_, rfl⟩
      subst hwo
      go_wp2_with fail
      go_loopw [6] (fun x wr => ∃ (j : Nat) (ys : List EV), j ≤ nk ∧ x = .int .i64 (j : Int) ∧ ys.length = nk ∧ EvRow 0 wr (.slice pk nk ck) ys ∧ But (fun b => (Value.slice pk nk ck).ownBlock = some b) wo wr) (fun x _ => nk - (intOf x).toNat)
      case atStart => exact ⟨0, Y.rl k, Nat.zero_le _, rfl, HNk.out.symm, HRow.out, But.refl _ _⟩
      case round =>
        obtain ⟨j, ys, hj, rfl, hyl, hrow, hbut⟩ := hrel
        have hnb : ¬ (Value.slice pk nk ck).ownBlock = some (w.heap.size + 1) := fun e => HN1.out (HIn.out _ e)
        have hcl : wr.cell? ⟨w.heap.size + 1, k, none⟩ = some (.slice pk nk ck) := (World.cell?_of_block (a := ⟨w.heap.size + 1, k, none⟩) (hbut.block _ ll hnb)).trans hcell
        have llr : w.heap.size + 1 < wr.heap.size := Nat.lt_of_lt_of_le ll hbut.size
        by_cases hjn : j < nk
        · have hjn' : (j : Int) < (nk : Int) := by omega
          obtain ⟨g, hpg, _, _, hgl, _⟩ := hrow.some_ (by omega)
          subst hpg
          obtain ⟨⟨t0, p0, c0, c1⟩, f0, f1, _⟩ := hrow.cell (i := j) (by omega)
          have HRw := hid hrow
          have HBt := hid hbut
          have HYl := hid hyl
          have hne : ¬ g = w.heap.size + 1 := fun e => hnb (by rw [e]; rfl)
          clear hrow hbut hyl hnb
          go_wp2
          go_roundw
          case rel => exact ⟨j + 1, _, by omega, by go_num, by rw [List.length_set]; exact HYl.out, HRw.out.set_ (by rw [HYl.out]; exact hjn), HBt.out.trans ((((But.one wr g).setAt _ _).setAt _ _).mono fun q _ e => by rw [e]; rfl)⟩
          case measure => simp [intOf]; omega
        · obtain rfl : j = nk := by omega
          have HY' : Hid (AnI wr S0 (Y.put ys k)) := HY.out.put (by rw [HYv.out]; exact hrow) (by rw [hyl]; exact HNk.out) (by rw [HYv.out]; exact hbut)
          have HCs' : Hid ((Y.put ys k).cs = X.cs) := (An.put_cs _ _ _).trans HCs.out
          have HBt' : Hid (But S0 W0 wr) := HBut.out.trans (hbut.mono fun q _ e => HIn.out q e)
          clear hrow hbut hyl hnb
          go_wp2
          go_roundw
          case rel => exact ⟨k + 1, _, by omega, by go_num, HCs'.out, HY'.out, HBt'.out⟩
          case measure => simp [intOf]; omega
    · obtain rfl : k = 3 := by omega
      clear hcs hY hbut hnS1 hnS0 bLr
      obtain ⟨wo, hwo⟩ : ∃ x, x = wr := ⟨_, rfl⟩
      subst hwo
      obtain ⟨_, _, _, h4, _⟩ := cs_rows HCs.out
      have hyv : Y.vp = .slice xp4 np xc4 := h4.trans HE4.out
      have hrow := HY.out.rp
      have hin := HY.out.sp
      rw [hyv] at hrow hin
      have hnk : np = Y.p.length := by obtain ⟨q1, q2, q3⟩ := ownsRow_slice hrow; cases q3; rfl
      have bAr := HA.out.but HBut.out HN0.out
      have r3 := bAr.cell 3
      have rl := bAr.lt
      simp at r3
      have HRow := hid hrow
      have HIn := hid hin
      have HYv := hid hyv
      have HNk := hid hnk
      clear hrow hin hyv hnk h4 bAr
      go_wp2_with fail
      go_loopw [7] (fun x wr => ∃ (j : Nat) (ys : List Int), j ≤ np ∧ x = .int .i64 (j : Int) ∧ ys.length = np ∧ InRow 0 wr (.slice xp4 np xc4) ys ∧ But (fun b => (Value.slice xp4 np xc4).ownBlock = some b) wo wr) (fun x _ => np - (intOf x).toNat)
      case atStart => exact ⟨0, Y.p, Nat.zero_le _, rfl, HNk.out.symm, HRow.out, But.refl _ _⟩
      case round =>
        obtain ⟨j, ys, hj, rfl, hyl, hrow, hbut⟩ := hrel
        have hnb : ¬ (Value.slice xp4 np xc4).ownBlock = some w.heap.size := fun e => HN0.out (HIn.out _ e)
        have hcl : wr.cell? ⟨w.heap.size, 3, none⟩ = some (.slice xp4 np xc4) := (World.cell?_of_block (a := ⟨w.heap.size, 3, none⟩) (hbut.block _ rl hnb)).trans r3
        have llr : w.heap.size < wr.heap.size := Nat.lt_of_lt_of_le rl hbut.size
        by_cases hjn : j < np
        · have hjn' : (j : Int) < (np : Int) := by omega
          obtain ⟨g, hpg, _, hgl⟩ := hrow.some_ (by omega)
          subst hpg
          obtain ⟨⟨t0, c0⟩, f0, _⟩ := hrow.cell (i := j) (by omega)
          have HRw := hid hrow
          have HBt := hid hbut
          have HYl := hid hyl
          have hne : ¬ g = w.heap.size := fun e => hnb (by rw [e]; rfl)
          clear hrow hbut hyl hnb
          go_wp2
          go_roundw
          case rel => exact ⟨j + 1, _, by omega, by go_num, by rw [List.length_set]; exact HYl.out, HRw.out.set_, HBt.out.trans (((But.one wr g).setAt _ _).mono fun q _ e => by rw [e]; rfl)⟩
          case measure => simp [intOf]; omega
        · obtain rfl : j = np := by omega
          have HY' : Hid (AnI wr S0 { Y with p := ys }) := HY.out.putP (by rw [HYv.out]; exact hrow) (by rw [hyl]; exact HNk.out) (by rw [HYv.out]; exact hbut)
          have HCs' : Hid (({ Y with p := ys } : An).cs = X.cs) := HCs.out
          have HBt' : Hid (But S0 W0 wr) := HBut.out.trans (hbut.mono fun q _ e => HIn.out q e)
          clear hrow hbut hyl hnb
          go_wp2
          go_end0
          have hs0 := HS0.out
          refine ⟨rfl, _, HCs'.out, HY'.out.mono (fun q hq _ => by rw [hs0] at hq; exact hq.1), ?_⟩
          exact (But.ofBelow HB0.out).trans (HBt'.out.mono fun q _ hq => by rw [hs0] at hq; exact hq.1)
end Go.Proofs.Ytdpfgflofjiheaa
