import Derived.Test.YtdpfgflofjiheaaPack8
import Derived.Test.YtdpfgflofjiheaaPack6
namespace Go.Proofs.Ytdpfgflofjiheaa
open Go.RowKit
set_option maxRecDepth 8000

/-- a cut while it is filled: its block, its two rows, apart from one another -/
structure CutI (w : World) (cb base : Nat) (h0 h1 h2 v1 v2 : Value) (xs ys : List EV) : Prop where
  box : Box w cb #[h0, h1, h2, v1, v2] 61
  lt : cb < base
  r1 : EvRow base w v1 xs
  r2 : EvRow base w v2 ys
  ap : ∀ g, v1.ownBlock = some g → v2.ownBlock ≠ some g
theorem CutI.below {w w' : World} {cb base : Nat} {h0 h1 h2 v1 v2 : Value} {xs ys : List EV} (h : CutI w cb base h0 h1 h2 v1 v2 xs ys) (hb : Below w.heap.size w w') : CutI w' cb base h0 h1 h2 v1 v2 xs ys := ⟨h.box.below hb, h.lt, h.r1.below hb, h.r2.below hb, h.ap⟩
theorem CutI.but {w w' : World} {X : Nat → Prop} {cb base : Nat} {h0 h1 h2 v1 v2 : Value} {xs ys : List EV} (h : CutI w cb base h0 h1 h2 v1 v2 xs ys) (hb : But X w w') (hx : ∀ k, cb ≤ k → ¬ X k) : CutI w' cb base h0 h1 h2 v1 v2 xs ys :=
  ⟨h.box.but hb (hx cb (Nat.le_refl _)), h.lt, h.r1.keep fun k hk hl => hb.block k hl (hx k (by have := h.lt; omega)), h.r2.keep fun k hk hl => hb.block k hl (hx k (by have := h.lt; omega)), h.ap⟩
theorem box5_3 {w : World} {b : Nat} {a0 a1 a2 a3 a4 : Value} {e : TypeId} (h : Box w b #[a0, a1, a2, a3, a4] e) (u : Value) : Box (w.setCell ⟨b, 3, none⟩ u) b #[a0, a1, a2, u, a4] e := by simpa using h.set 3 u
theorem box5_4 {w : World} {b : Nat} {a0 a1 a2 a3 a4 : Value} {e : TypeId} (h : Box w b #[a0, a1, a2, a3, a4] e) (u : Value) : Box (w.setCell ⟨b, 4, none⟩ u) b #[a0, a1, a2, a3, u] e := by simpa using h.set 4 u
set_option maxHeartbeats 8000000 in
theorem lay_false (t p : Int) (w : World) (cb base : Nat) (h0 h1 h2 v1 v2 : Value) (xs ys : List EV) (h : CutI w cb base h0 h1 h2 v1 v2 xs ys) (hbs : base ≤ w.heap.size) (h47 : (xs.length + 1) * 16 ≤ 140737488355328) :
    Calls Try.prog 46 #[.pointer (some ⟨cb, 0, none⟩), .agg #[.int .i64 t, .int .i64 p], .bool false] w fun e w' => e = .returned (.tuple #[]) ∧ (∃ nv, CutI w' cb base h0 h1 h2 nv v2 (xs ++ [⟨t, p⟩]) ys) ∧ Below cb w w' := by
  obtain ⟨i0, Kd⟩ := kindEv
  have HKd := hid Kd
  obtain ⟨W, hW⟩ : ∃ X, X = w.alloc (.cells #[.int .i64 t, .int .i64 p] 39) := ⟨_, rfl⟩
  have hx : Box W w.heap.size #[.int .i64 t, .int .i64 p] 39 := by rw [hW]; exact Box.new _ _ _
  have hB : Below w.heap.size w W := by rw [hW]; exact below1 _ _
  have hC := h.below hB
  have HB := hid hB
  have HW := hid hW
  have H := hid hC
  have HL := hid h.lt
  have HBs := hid hbs
  have e0 := hx.cell 0
  have e1 := hx.cell 1
  have c3 := hC.box.cell 3
  simp at e0 e1 c3
  clear hW hx hB hC Kd h
  go_enter Try.func46, Try.ntmps46
  go_upto_region 1 with fail
  rw [← HW.out]
  go_upto_region 3 with fail
  refine wp_region_calmE 30 (fun wx => Below W.heap.size W wx) [(0, true), (1, true), (2, true), (3, true), (4, false), (5, false)] (.one 6 true [] (.one 7 false [(8, true), (9, true)] (.one 10 false [] .done))) (by kernel_rfl) (by kernel_rfl) (Below.refl _ _).drew ?_
  refine wpPre_e rfl rfl (fun K1 hK1 => ?_)
  apply Exists.intro
  refine And.intro (fun wx hx => ?_) ?_
  · go_simp
    try rfl
  go_simp
  refine hK1 _ ?_
  clear hK1 K1
  refine wpPre_e rfl rfl (fun K1 hK1 => ?_)
  apply Exists.intro
  refine And.intro (fun wx hx => ?_) ?_
  · go_simp
    try rfl
  go_simp
  refine hK1 _ ?_
  clear hK1 K1
  refine wpPre_e rfl rfl (fun K1 hK1 => ?_)
  apply Exists.intro
  refine And.intro (fun wx hx => ?_) ?_
  · go_simp
    try rfl
  go_simp
  refine hK1 _ ?_
  clear hK1 K1
  refine wpPre_e rfl rfl (fun K1 hK1 => ?_)
  apply Exists.intro
  refine And.intro (fun wx hx => ?_) ?_
  · go_simp
    try rfl
  go_simp
  refine hK1 _ ?_
  clear hK1 K1
  refine wpPre_e rfl rfl (fun K1 hK1 => ?_)
  apply Exists.intro
  refine And.intro (fun wx hx => ?_) ?_
  · have e0 := below_fact hx rfl e0
    have e1 := below_fact hx rfl e1
    have e2 := below_fact hx rfl c3
    go_simp
    try rfl
  go_simp
  refine hK1 _ ?_
  clear hK1 K1
  refine wpPre_e rfl rfl (fun K1 hK1 => ?_)
  apply Exists.intro
  refine And.intro (fun wx hx => ?_) ?_
  · have e0 := below_fact hx rfl e0
    have e1 := below_fact hx rfl e1
    have e2 := below_fact hx rfl c3
    go_simp
    try rfl
  go_simp
  refine hK1 _ ?_
  clear hK1 K1
  refine wpPre_nil ?_
  refine wpTr_e rfl (fun K1 hK1 => ?_)
  go_simp
  refine hK1 _ _ (fun _ => (below1 W _).drew) ?_
  clear hK1 K1
  refine wpPre_nil ?_
  refine wpTr_e rfl (fun K1 hK1 => ?_)
  refine step_app rfl (.tmp 21) (.tmp 23) 31 39 i0 _ 2 16 HKd.out rfl base v1 xs.length _ rfl (World.ownsRow.alloc H.out.r1 _) ⟨W.heap.size, 0, none⟩ 1 1 [.int .i64 t, .int .i64 p] rfl rfl (news2 W _ _) (one2 _ _) (by omega) (by omega) (by have := HB.out.size; have := HBs.out; simp; omega) ?_
  intro v3 w3 ho3 hg3 hn3
  obtain ⟨pp, cc, rfl⟩ := ownsRow_slice ho3
  have ha : Below W.heap.size W (W.alloc (.cells #[.int .i64 t, .int .i64 p] 39)).drew := (below1 _ _).drew
  have hbl : base ≤ W.heap.size := Nat.le_trans HBs.out HB.out.size
  have hcl : cb < W.heap.size := Nat.lt_of_lt_of_le HL.out hbl
  have hgk : ∀ k, k < W.heap.size → v1.ownBlock ≠ some k → w3.heap[k]? = W.heap[k]? := fun k hk hne => (hg3.block k (Nat.lt_of_lt_of_le hk ha.size) (fun e => hne e.symm)).trans (ha.block k hk)
  have hvb : ∀ k, v1.ownBlock = some k → base ≤ k ∧ k < W.heap.size := fun k hk => H.out.r1.lt k hk
  have hob : ∀ k, v2.ownBlock = some k → base ≤ k ∧ k < W.heap.size := fun k hk => H.out.r2.lt k hk
  have bx3 : Box w3 cb #[h0, h1, h2, v1, v2] 61 := H.out.box.kept (hgk cb hcl (fun e => by have := (hvb cb e).1; have := HL.out; omega))
  have hor : EvRow base w3 v2 ys := ownsRow_keep H.out.r2 (fun g hg hl => hgk g (hob g hg).2 (fun e => H.out.ap g e hg))
  have hnr : EvRow base w3 (.slice pp (xs.length + 1) cc) (xs ++ [⟨t, p⟩]) := EvRow.push ho3
  have hbb : Below base W w3 := (ha.mono (by omega)).grown hg3 (by have := ha.size; omega) (fun q hq => (hvb q hq).1)
  have HN : Hid (∃ nv, CutI (w3.setCell ⟨cb, 3, none⟩ (.slice pp (xs.length + 1) cc)) cb base h0 h1 h2 nv v2 (xs ++ [⟨t, p⟩]) ys) := by
    have hbt : But (fun k => k = cb) w3 (w3.setCell ⟨cb, 3, none⟩ (.slice pp (xs.length + 1) cc)) := (But.one w3 cb).setAt 3 _
    refine ⟨.slice pp (xs.length + 1) cc, box5_3 bx3 _, HL.out, ?_, ?_, ?_⟩
    · exact EvRow.keep hnr (fun k hk hl => hbt.block k hl (fun e => by have := HL.out; omega))
    · exact EvRow.keep hor (fun k hk hl => hbt.block k hl (fun e => by have := HL.out; omega))
    · intro g hg1 hg2
      rcases hn3 with h9 | h9
      · rw [h9] at hg1; exact H.out.ap g hg1 hg2
      · have := h9 g hg1; have := (hob g hg2).2; have := ha.size; omega
  have hB9 : Below cb w w3 := (HB.out.mono (show cb ≤ w.heap.size by have := HL.out; have := HBs.out; omega)).trans (hbb.mono (show cb ≤ base by have := HL.out; omega))
  have HB3 : Hid (Below cb w (w3.setCell ⟨cb, 3, none⟩ (.slice pp (xs.length + 1) cc))) := hB9.setCell (p := ⟨cb, 3, none⟩) (Nat.le_refl _) _
  have k3 := bx3.cell 3
  have kf := bx3.frozen 3
  have kl := bx3.lt
  simp at k3
  clear ho3 hg3 hn3 ha hgk hvb hob bx3 hor hnr hbb hB9
  go_simp
  refine hK1 _ _ (fun h => by cases h) ?_
  clear hK1 K1
  refine wpPre_e rfl rfl (fun K1 hK1 => ?_)
  apply Exists.intro
  refine And.intro (fun wx hx => ?_) ?_
  · go_simp
    try rfl
  go_simp
  refine hK1 _ ?_
  clear hK1 K1
  refine wpPre_e rfl rfl (fun K1 hK1 => ?_)
  apply Exists.intro
  refine And.intro (fun wx hx => ?_) ?_
  · go_simp
    try rfl
  go_simp
  refine hK1 _ ?_
  clear hK1 K1
  refine wpPre_nil ?_
  refine wpTr_e rfl (fun K1 hK1 => ?_)
  go_simp
  refine hK1 _ _ (fun h => by cases h) ?_
  clear hK1 K1
  refine wpPre_nil ?_
  refine wpTr_done ?_
  go_wp2
  go_end0
  exact ⟨rfl, HN.out, HB3.out⟩
set_option maxHeartbeats 8000000 in
theorem lay_true (t p : Int) (w : World) (cb base : Nat) (h0 h1 h2 v1 v2 : Value) (xs ys : List EV) (h : CutI w cb base h0 h1 h2 v1 v2 xs ys) (hbs : base ≤ w.heap.size) (h47 : (ys.length + 1) * 16 ≤ 140737488355328) :
    Calls Try.prog 46 #[.pointer (some ⟨cb, 0, none⟩), .agg #[.int .i64 t, .int .i64 p], .bool true] w fun e w' => e = .returned (.tuple #[]) ∧ (∃ nv, CutI w' cb base h0 h1 h2 v1 nv xs (ys ++ [⟨t, p⟩])) ∧ Below cb w w' := by
  obtain ⟨i0, Kd⟩ := kindEv
  have HKd := hid Kd
  obtain ⟨W, hW⟩ : ∃ X, X = w.alloc (.cells #[.int .i64 t, .int .i64 p] 39) := ⟨_, rfl⟩
  have hx : Box W w.heap.size #[.int .i64 t, .int .i64 p] 39 := by rw [hW]; exact Box.new _ _ _
  have hB : Below w.heap.size w W := by rw [hW]; exact below1 _ _
  have hC := h.below hB
  have HB := hid hB
  have HW := hid hW
  have H := hid hC
  have HL := hid h.lt
  have HBs := hid hbs
  have e0 := hx.cell 0
  have e1 := hx.cell 1
  have c3 := hC.box.cell 4
  simp at e0 e1 c3
  clear hW hx hB hC Kd h
  go_enter Try.func46, Try.ntmps46
  go_upto_region 1 with fail
  rw [← HW.out]
  go_upto_region 2 with fail
  refine wp_region_calmE 30 (fun wx => Below W.heap.size W wx) [(0, true), (1, true), (2, true), (3, true), (4, false), (5, false)] (.one 6 true [] (.one 7 false [(8, true), (9, true)] (.one 10 false [] .done))) (by kernel_rfl) (by kernel_rfl) (Below.refl _ _).drew ?_
  refine wpPre_e rfl rfl (fun K1 hK1 => ?_)
  apply Exists.intro
  refine And.intro (fun wx hx => ?_) ?_
  · go_simp
    try rfl
  go_simp
  refine hK1 _ ?_
  clear hK1 K1
  refine wpPre_e rfl rfl (fun K1 hK1 => ?_)
  apply Exists.intro
  refine And.intro (fun wx hx => ?_) ?_
  · go_simp
    try rfl
  go_simp
  refine hK1 _ ?_
  clear hK1 K1
  refine wpPre_e rfl rfl (fun K1 hK1 => ?_)
  apply Exists.intro
  refine And.intro (fun wx hx => ?_) ?_
  · go_simp
    try rfl
  go_simp
  refine hK1 _ ?_
  clear hK1 K1
  refine wpPre_e rfl rfl (fun K1 hK1 => ?_)
  apply Exists.intro
  refine And.intro (fun wx hx => ?_) ?_
  · go_simp
    try rfl
  go_simp
  refine hK1 _ ?_
  clear hK1 K1
  refine wpPre_e rfl rfl (fun K1 hK1 => ?_)
  apply Exists.intro
  refine And.intro (fun wx hx => ?_) ?_
  · have e0 := below_fact hx rfl e0
    have e1 := below_fact hx rfl e1
    have e2 := below_fact hx rfl c3
    go_simp
    try rfl
  go_simp
  refine hK1 _ ?_
  clear hK1 K1
  refine wpPre_e rfl rfl (fun K1 hK1 => ?_)
  apply Exists.intro
  refine And.intro (fun wx hx => ?_) ?_
  · have e0 := below_fact hx rfl e0
    have e1 := below_fact hx rfl e1
    have e2 := below_fact hx rfl c3
    go_simp
    try rfl
  go_simp
  refine hK1 _ ?_
  clear hK1 K1
  refine wpPre_nil ?_
  refine wpTr_e rfl (fun K1 hK1 => ?_)
  go_simp
  refine hK1 _ _ (fun _ => (below1 W _).drew) ?_
  clear hK1 K1
  refine wpPre_nil ?_
  refine wpTr_e rfl (fun K1 hK1 => ?_)
  refine step_app rfl (.tmp 11) (.tmp 13) 31 39 i0 _ 2 16 HKd.out rfl base v2 ys.length _ rfl (World.ownsRow.alloc H.out.r2 _) ⟨W.heap.size, 0, none⟩ 1 1 [.int .i64 t, .int .i64 p] rfl rfl (news2 W _ _) (one2 _ _) (by omega) (by omega) (by have := HB.out.size; have := HBs.out; simp; omega) ?_
  intro v3 w3 ho3 hg3 hn3
  obtain ⟨pp, cc, rfl⟩ := ownsRow_slice ho3
  have ha : Below W.heap.size W (W.alloc (.cells #[.int .i64 t, .int .i64 p] 39)).drew := (below1 _ _).drew
  have hbl : base ≤ W.heap.size := Nat.le_trans HBs.out HB.out.size
  have hcl : cb < W.heap.size := Nat.lt_of_lt_of_le HL.out hbl
  have hgk : ∀ k, k < W.heap.size → v2.ownBlock ≠ some k → w3.heap[k]? = W.heap[k]? := fun k hk hne => (hg3.block k (Nat.lt_of_lt_of_le hk ha.size) (fun e => hne e.symm)).trans (ha.block k hk)
  have hvb : ∀ k, v2.ownBlock = some k → base ≤ k ∧ k < W.heap.size := fun k hk => H.out.r2.lt k hk
  have hob : ∀ k, v1.ownBlock = some k → base ≤ k ∧ k < W.heap.size := fun k hk => H.out.r1.lt k hk
  have bx3 : Box w3 cb #[h0, h1, h2, v1, v2] 61 := H.out.box.kept (hgk cb hcl (fun e => by have := (hvb cb e).1; have := HL.out; omega))
  have hor : EvRow base w3 v1 xs := ownsRow_keep H.out.r1 (fun g hg hl => hgk g (hob g hg).2 (fun e => H.out.ap g hg e))
  have hnr : EvRow base w3 (.slice pp (ys.length + 1) cc) (ys ++ [⟨t, p⟩]) := EvRow.push ho3
  have hbb : Below base W w3 := (ha.mono (by omega)).grown hg3 (by have := ha.size; omega) (fun q hq => (hvb q hq).1)
  have HN : Hid (∃ nv, CutI (w3.setCell ⟨cb, 4, none⟩ (.slice pp (ys.length + 1) cc)) cb base h0 h1 h2 v1 nv xs (ys ++ [⟨t, p⟩])) := by
    have hbt : But (fun k => k = cb) w3 (w3.setCell ⟨cb, 4, none⟩ (.slice pp (ys.length + 1) cc)) := (But.one w3 cb).setAt 4 _
    refine ⟨.slice pp (ys.length + 1) cc, box5_4 bx3 _, HL.out, ?_, ?_, ?_⟩
    · exact EvRow.keep hor (fun k hk hl => hbt.block k hl (fun e => by have := HL.out; omega))
    · exact EvRow.keep hnr (fun k hk hl => hbt.block k hl (fun e => by have := HL.out; omega))
    · intro g hg1 hg2
      rcases hn3 with h9 | h9
      · rw [h9] at hg2; exact H.out.ap g hg1 hg2
      · have := h9 g hg2; have := (hob g hg1).2; have := ha.size; omega
  have hB9 : Below cb w w3 := (HB.out.mono (show cb ≤ w.heap.size by have := HL.out; have := HBs.out; omega)).trans (hbb.mono (show cb ≤ base by have := HL.out; omega))
  have HB3 : Hid (Below cb w (w3.setCell ⟨cb, 4, none⟩ (.slice pp (ys.length + 1) cc))) := hB9.setCell (p := ⟨cb, 4, none⟩) (Nat.le_refl _) _
  have k3 := bx3.cell 4
  have kf := bx3.frozen 4
  have kl := bx3.lt
  simp at k3
  clear ho3 hg3 hn3 ha hgk hvb hob bx3 hor hnr hbb hB9
  go_simp
  refine hK1 _ _ (fun h => by cases h) ?_
  clear hK1 K1
  refine wpPre_e rfl rfl (fun K1 hK1 => ?_)
  apply Exists.intro
  refine And.intro (fun wx hx => ?_) ?_
  · go_simp
    try rfl
  go_simp
  refine hK1 _ ?_
  clear hK1 K1
  refine wpPre_e rfl rfl (fun K1 hK1 => ?_)
  apply Exists.intro
  refine And.intro (fun wx hx => ?_) ?_
  · go_simp
    try rfl
  go_simp
  refine hK1 _ ?_
  clear hK1 K1
  refine wpPre_nil ?_
  refine wpTr_e rfl (fun K1 hK1 => ?_)
  go_simp
  refine hK1 _ _ (fun h => by cases h) ?_
  clear hK1 K1
  refine wpPre_nil ?_
  refine wpTr_done ?_
  go_wp2
  go_end0
  exact ⟨rfl, HN.out, HB3.out⟩
end Go.Proofs.Ytdpfgflofjiheaa

namespace Go.Proofs.Ytdpfgflofjiheaa
open Go.RowKit
set_option maxRecDepth 8000
set_option maxHeartbeats 4000000 in
/-- the reference's Can -/
theorem rcan_any (l : LT TR) (n : Int) (w : World) (S : Nat → Prop) (hl : LT.In elTr w S l) :
    Calls Try.prog 28 #[.slice l.p l.n l.c, .int .i64 n] w fun e w' => YesQ (CanL n l) w e w' := by
  have hnn := hl.nn
  have H := hid hl
  clear hl
  by_cases h1 : n < 1
  · go_enter Try.func28, Try.ntmps28
    go_wp2
    go_ret
    exact ⟨false, rfl, ⟨fun h => (by cases h), fun h => by have := h.1; omega⟩, Below.refl _ _⟩
  by_cases h2 : 12 < n
  · go_enter Try.func28, Try.ntmps28
    go_wp2
    go_ret
    exact ⟨false, rfl, ⟨fun h => (by cases h), fun h => by have := h.2.1; omega⟩, Below.refl _ _⟩
  have HN : Hid (1 ≤ n ∧ n ≤ 12) := ⟨by omega, by omega⟩
  go_enter Try.func28, Try.ntmps28
  go_wp2_with fail
  go_loopw [5] (fun x wr => ∃ k : Nat, k ≤ l.n ∧ x = .int .i64 (k : Int) ∧ (∀ q, q < k → Can n (l.item q)) ∧ Below w.heap.size w wr) (fun x _ => l.n - (intOf x).toNat)
  case atStart => exact ⟨0, Nat.zero_le _, rfl, fun q hq => absurd hq (by omega), Below.refl _ _⟩
  case round =>
    obtain ⟨k, hk, rfl, hno, hb⟩ := hrel
    have HNo := hid hno
    have HB := hid hb
    clear hno hb
    by_cases hlt : k < l.n
    · have hlt' : (k : Int) < (l.n : Int) := by omega
      obtain ⟨b1, o1, hp, _, hl1, ha⟩ := (H.out.below HB.out).tr (by omega)
      obtain ⟨a0, a1, a2, a3⟩ := ha k hlt
      have HE := fun w => hid (rentry_any (l.item k).kind (l.item k).task (l.item k).port (l.item k).id n w HN.out.1)
      rw [hp]
      clear ha hp
      go_wp2_with fail
      refine (HE _).out.mono ?_
      rintro e w2 ⟨b, rfl, hb, hb2⟩
      have HB2 : Hid (Below w.heap.size w w2) := HB.out.trans (hb2.mono HB.out.size)
      clear hb2
      cases b with
      | true =>
        have HC : Hid (Can n (l.item k)) := hb.1 rfl
        clear hb
        go_wp2
        go_roundw
        case rel =>
          refine ⟨k + 1, by omega, by go_num, fun q hq => ?_, HB2.out⟩
          by_cases hqk : q < k
          · exact HNo.out q hqk
          · obtain rfl : q = k := by omega
            exact HC.out
        case measure => simp [intOf]; omega
      | false =>
        have HC : Hid (¬ Can n (l.item k)) := fun h => by have := hb.2 h; cases this
        clear hb
        go_wp2
        go_ret
        exact ⟨false, rfl, ⟨fun h => (by cases h), fun h => (HC.out (h.2.2 k hlt)).elim⟩, HB2.out⟩
    · obtain rfl : k = l.n := by omega
      go_wp2
      go_ret
      exact ⟨true, rfl, ⟨fun _ => ⟨HN.out.1, HN.out.2, HNo.out⟩, fun _ => rfl⟩, HB.out⟩
end Go.Proofs.Ytdpfgflofjiheaa
