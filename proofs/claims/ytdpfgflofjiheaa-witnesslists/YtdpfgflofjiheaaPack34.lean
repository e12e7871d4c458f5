import Derived.Test.YtdpfgflofjiheaaZa
import Derived.Test.YtdpfgflofjiheaaPack33
import Derived.Test.YtdpfgflofjiheaaYY
import Derived.Laws.Append
import Derived.Laws.AppendOwn
namespace Go.Proofs.Ytdpfgflofjiheaa
open Go.RowKit
set_option maxRecDepth 8000

theorem PathS.len {l : LT TR} {n i e : Int} {ps : List Int} (h : PathS l n i e ps) : ps.length ≤ 4000000 := by
  rcases h with ⟨_, _, rfl⟩ | ⟨_, a, b, m, _, _, ⟨_, _, rfl⟩ | ⟨h, _, rfl⟩⟩
  · simp
  · simp
  · rw [← evL_len l.item (befP l.item m true)] at h
    have h1 := pl_len (evL l.item (befP l.item m true) a (b - a)) 0 0 2000 (by omega)
    have h2 : (evL l.item (befP l.item m true) a (b - a)).length * 2000 ≤ 2000 * 2000 := Nat.mul_le_mul_right _ h
    omega
set_option maxHeartbeats 8000000 in
/-- sameInts of the same ints -/
theorem sameInts_yes (v1 v2 : Value) (xs : List Int) (w : World) (s1 s2 : Nat) (h1 : InRow s1 w v1 xs) (h2 : InRow s2 w v2 xs) (hx : xs.length ≤ 140737488355328) :
    Calls Try.prog 10 #[v1, v2] w fun e w' => e = .returned (.bool true) ∧ Below w.heap.size w w' := by
  obtain ⟨p1, c1, hv1⟩ := ownsRow_slice h1
  obtain ⟨p2, c2, hv2⟩ := ownsRow_slice h2
  have HA := hid h1
  have HBl := hid h2
  obtain ⟨n, hn⟩ : ∃ n, n = xs.length := ⟨_, rfl⟩
  rw [← hn] at hv1 hv2 hx
  have HN := hid hn
  subst hv1
  subst hv2
  clear h1 h2 hn
  go_enter Try.func10, Try.ntmps10
  go_wp2_with fail
  go_loopw [5] (fun x wr => ∃ k : Nat, k ≤ n ∧ x = .int .i64 (k : Int) ∧ Below w.heap.size w wr) (fun x _ => n - (intOf x).toNat)
  case atStart => exact ⟨0, Nat.zero_le _, rfl, Below.refl _ _⟩
  case round =>
    obtain ⟨k, hk, rfl, hb⟩ := hrel
    have HB := hid hb
    clear hb
    by_cases hlt : k < n
    · have hlt' : (k : Int) < (n : Int) := by omega
      have hxk : xs[k]? = some (xs[k]'(by have := HN.out; omega)) := List.getElem?_eq_getElem _
      obtain ⟨x, hx0⟩ : ∃ x, xs[k]? = some x := ⟨_, hxk⟩
      obtain ⟨g1, d1, he1, _, hl1, _, ha1⟩ := (HA.out.below HB.out).at_ (by have := HN.out; omega)
      obtain ⟨g2, d2, he2, _, hl2, _, ha2⟩ := (HBl.out.below HB.out).at_ (by have := HN.out; omega)
      have a0 := (ha1 k x hx0).1
      have a1 := (ha2 k x hx0).1
      have hp1 := (Value.slice.inj he1).1
      have hp2 := (Value.slice.inj he2).1
      rw [hp1, hp2]
      clear ha1 ha2 he1 he2 hp1 hp2 hxk hx0
      go_upto_region 6 with fail
      refine wp_region_calmE 30 (fun wx => Below wr.heap.size wr wx) [(0, true), (1, true), (2, true), (3, false), (4, true), (5, true), (6, true), (7, false), (8, true)] .done (by kernel_rfl) (by kernel_rfl) (Below.refl _ _).drew ?_
      refine wpPre_e rfl rfl (fun K1 hK1 => ?_)
      apply Exists.intro
      refine And.intro (fun wx hx => ?_) ?_
      · go_simp
        try rfl
      go_simp
      refine hK1 _ ?_
      clear hK1 K1
      refine wpPre_e rfl rfl (fun K1 hK1 => ?_)
      apply Exists.intro
      refine And.intro (fun wx hx => ?_) ?_
      · go_simp
        try rfl
      go_simp
      refine hK1 _ ?_
      clear hK1 K1
      refine wpPre_e rfl rfl (fun K1 hK1 => ?_)
      apply Exists.intro
      refine And.intro (fun wx hx => ?_) ?_
      · go_simp
        try rfl
      go_simp
      refine hK1 _ ?_
      clear hK1 K1
      refine wpPre_e rfl rfl (fun K1 hK1 => ?_)
      apply Exists.intro
      refine And.intro (fun wx hx => ?_) ?_
      · have e0 := below_fact hx rfl a0
        have e1 := below_fact hx rfl a1
        go_simp
        try rfl
      go_simp
      refine hK1 _ ?_
      clear hK1 K1
      refine wpPre_e rfl rfl (fun K1 hK1 => ?_)
      apply Exists.intro
      refine And.intro (fun wx hx => ?_) ?_
      · go_simp
        try rfl
      go_simp
      refine hK1 _ ?_
      clear hK1 K1
      refine wpPre_e rfl rfl (fun K1 hK1 => ?_)
      apply Exists.intro
      refine And.intro (fun wx hx => ?_) ?_
      · go_simp
        try rfl
      go_simp
      refine hK1 _ ?_
      clear hK1 K1
      refine wpPre_e rfl rfl (fun K1 hK1 => ?_)
      apply Exists.intro
      refine And.intro (fun wx hx => ?_) ?_
      · go_simp
        try rfl
      go_simp
      refine hK1 _ ?_
      clear hK1 K1
      refine wpPre_e rfl rfl (fun K1 hK1 => ?_)
      apply Exists.intro
      refine And.intro (fun wx hx => ?_) ?_
      · have e0 := below_fact hx rfl a0
        have e1 := below_fact hx rfl a1
        go_simp
        try rfl
      go_simp
      refine hK1 _ ?_
      clear hK1 K1
      refine wpPre_e rfl rfl (fun K1 hK1 => ?_)
      apply Exists.intro
      refine And.intro (fun wx hx => ?_) ?_
      · go_simp
        try rfl
      go_simp
      refine hK1 _ ?_
      clear hK1 K1
      refine wpPre_nil ?_
      refine wpTr_done ?_
      go_wp2
      go_roundw
      case rel => exact ⟨k + 1, by omega, by go_num, HB.out.drew⟩
      case measure => simp [intOf]; omega
    · obtain rfl : k = n := by omega
      go_wp2
      go_ret
      exact ⟨rfl, HB.out⟩
set_option maxHeartbeats 8000000 in
theorem witnessPath_walk (l : LT TR) (i n : Int) (w : World) (hl : LT.In elTr w (fun b => b < w.heap.size) l) (h47 : l.n * 32 ≤ 140737488355328) :
    Calls Try.prog 3 #[.slice l.p l.n l.c, .int .i64 i, .int .i64 n] w fun e w' => e = .returned (.bool true) ∧ Below w.heap.size w w' := by
  have hnn := hl.nn
  obtain ⟨i0, Kd⟩ := kindTr
  have HKd := hid Kd
  have HSrc := hid hl.src
  have HL := hid hl
  have H47 := hid h47
  clear hl Kd h47
  have hb47 : (0 + l.n) * 32 ≤ 140737488355328 := by have := H47.out; omega
  go_enter Try.func3, Try.ntmps3
  go_wp2_with (at_builtin; refine wpList_appS rfl (.const (.slice none 0 0)) (.tmp 12) 22 37 i0 _ 4 32 HKd.out rfl w.heap.size (.slice none 0 0) 0 [] rfl (World.ownsRow_nil _ _ _ _) l.p l.n l.c _ rfl HSrc.out (oneTr l) (by omega) hb47 (Nat.le_refl _) ?_)
  intro v1 w1 ho1 hg1 _
  obtain ⟨p1, c1, rfl, hin1⟩ := copied_in hnn ho1
  have hb1 : Below w.heap.size w w1 := (Below.refl _ _).grown hg1 (Nat.le_refl _) (fun k hk => by cases hk)
  have HSp := hid (path_any ⟨p1, l.n, c1, l.item⟩ i n w1 _ hin1 H47.out)
  dsimp only at HSp
  have HB1 := hid hb1
  clear ho1 hg1 hb1 hin1
  go_wp2_with fail
  refine HSp.out.mono ?_
  rintro e w2 ⟨v1, err, ps, hS, rfl, hr1, hb2⟩
  have hb02 : Below w.heap.size w w2 := HB1.out.trans (hb2.mono HB1.out.size)
  have HRs := hid (rpath_any l i n w2 _ (HL.out.below hb02))
  have HB02 := hid hb02
  have HR1 := hid hr1
  have HS := hid hS
  clear hb2 hb02 hr1 hS HSp
  go_wp2_with fail
  refine HRs.out.mono ?_
  rintro e w3 ⟨u1, err', ps', hS', rfl, hq1, hb3⟩
  obtain ⟨rfl, rfl⟩ := PathS.uniq HS.out hS'
  have hx1 := hS'.len
  have hb03 : Below w.heap.size w w3 := HB02.out.trans (hb3.mono HB02.out.size)
  have HC1 := hid (sameInts_yes v1 u1 ps w3 _ _ (HR1.out.below hb3) hq1 (by omega))
  have HB03 := hid hb03
  have herr : (err == err) = true := by simp
  clear hS' hq1 hb3 hb03 hx1 HRs
  go_wp2_with fail
  refine HC1.out.mono ?_
  rintro e w4 ⟨rfl, hb4⟩
  have HB04 : Hid (Below w.heap.size w w4) := HB03.out.trans (hb4.mono HB03.out.size)
  clear hb4 HC1
  go_wp2
  go_ret
  exact ⟨rfl, HB04.out⟩
end Go.Proofs.Ytdpfgflofjiheaa

namespace Go.Proofs.Ytdpfgflofjiheaa
open Go.RowKit
set_option maxRecDepth 8000
theorem zeroCells_size (z : Array Value) (n : Nat) : (Builtin.zeroCells z n).size = n * z.size := by simp [Builtin.zeroCells]
/-- append of n zeros to nothing -/
theorem run_append_zeros (w : World) (ty : TypeId) (i : TypeInfo) (hi : Try.prog.info? 39 = some i) (hz : i.zero = some (.agg #[.int .i64 0, .int .i64 0])) (hs : i.size = 2) (hby : i.bytes = 16) (n : Nat) (h0 : 0 < n) (h47 : n * 16 ≤ 140737488355328) :
    (Builtin.append_ #[31, 3] ty #[.slice none 0 0, .int .i64 (n : Int)]).run Try.prog w = .ok (.slice (some ⟨w.heap.size, 0, none⟩) n (grownCap w n 0 39)) (w.drew.alloc (.cells (Builtin.zeroCells #[.int .i64 0, .int .i64 0] n ++ Builtin.zeroCells #[.int .i64 0, .int .i64 0] (grownCap w n 0 39 - n)) 39)) := by
  have hn : n ≠ 0 := by omega
  have hw : IntKind.i64.wrap (n : Int) = (n : Int) := by rw [IntKind.wrap_i64]; omega
  have h1 : ¬ ((n : Int) < 0) := by omega
  have h2 : ¬ (281474976710656 < (n : Int) * 16) := by omega
  have h63' : ¬ (9223372036854775807 < (n : Int)) := by omega
  have h48' : ¬ (281474976710656 < Builtin.nextslicecap n 0 * 16) := by rw [nextslicecap_zero h0]; omega
  simp [Builtin.append_, run_underlying Try.underlying31, run_underlying Try.underlying3, sizeOf, typeInfo, zeroValue, hi, hz, hs, hby, hw, h1, h2, hn, h63', h48', Question.forced, newRow, grownCap, asInt, go_sem]
  intro h
  omega
set_option maxHeartbeats 4000000 in
theorem grow_any (n : Nat) (w : World) (h47 : n * 16 ≤ 140737488355328) :
    Calls Try.prog 49 #[.slice none 0 0, .int .i64 (n : Int)] w fun e w' => ∃ v, e = .returned v ∧ EvRow w.heap.size w' v [] ∧ Below w.heap.size w w' := by
  by_cases h0 : n = 0
  · subst h0
    go_enter Try.func49, Try.ntmps49
    go_wp2
    go_ret
    exact ⟨_, rfl, EvRow.nil _ _, Below.refl _ _⟩
  · have hge := grownCap_ge w n 0 39
    have hle := grownCap_le_maxLen w n 0 39 (by unfold maxLen; omega)
    have hE : EvRow w.heap.size (w.drew.alloc (.cells (Builtin.zeroCells #[.int .i64 0, .int .i64 0] n ++ Builtin.zeroCells #[.int .i64 0, .int .i64 0] (grownCap w n 0 39 - n)) 39)) (.slice (some ⟨w.heap.size, 0, none⟩) 0 (grownCap w n 0 39)) [] := by
      refine ⟨rfl, .inr ⟨w.heap.size, grownCap w n 0 39, Builtin.zeroCells #[.int .i64 0, .int .i64 0] n ++ Builtin.zeroCells #[.int .i64 0, .int .i64 0] (grownCap w n 0 39 - n), rfl, Nat.le_refl _, World.alloc_heap_new w.drew _, Nat.zero_le _, hle, ?_, rfl⟩⟩
      rw [Array.size_append, zeroCells_size, zeroCells_size]; simp; omega
    have HE := hid hE
    have HB := hid ((Below.refl w.heap.size w).drew.alloc (Nat.le_refl _) (.cells (Builtin.zeroCells #[.int .i64 0, .int .i64 0] n ++ Builtin.zeroCells #[.int .i64 0, .int .i64 0] (grownCap w n 0 39 - n)) 39))
    have h1 : (0 : Int) < (n : Int) := by omega
    have hnc : Builtin.nextslicecap n 0 = n := nextslicecap_zero (by omega)
    have hb1 : ¬ 281474976710656 < Builtin.nextslicecap n 0 * Try.t39.bytes := by rw [hnc]; show ¬ 281474976710656 < n * 16; omega
    have hb2 : ¬ 281474976710656 < (n : Int) * (Try.t39.bytes : Int) := by show ¬ 281474976710656 < (n : Int) * 16; omega
    have hb3 : ¬ 9223372036854775807 < (n : Int) := by omega
    clear hE hge hle
    go_enter Try.func49, Try.ntmps49
    go_wp2
    all_goals first
      | (exfalso; omega)
      | (go_ret; exact ⟨_, rfl, HE.out, HB.out⟩)
theorem EvRow.src {b : Nat} {w : World} {p : Option Addr} {n c : Nat} {xs : List EV} (h : EvRow b w (.slice p n c) xs) : n = xs.length ∧ Src w p n c 2 (xs.flatMap EV.cells) := by
  have hce := @World.ownsRow.cells _ _ _ _ _ _ _ h
  obtain ⟨hl, ⟨hv, h0⟩ | ⟨gb, cap, cur, hv, hbg, hh, hc, _⟩⟩ := id h
  · cases hv
    obtain rfl : xs = [] := List.eq_nil_of_length_eq_zero h0
    exact ⟨rfl, .inl ⟨rfl, rfl, rfl, rfl⟩⟩
  · cases hv
    exact ⟨rfl, .inr ⟨⟨gb, 0, none⟩, rfl, hl, fun j u hu => hce (g := gb) rfl j u hu⟩⟩
theorem EvRow.appS {b : Nat} {w : World} {v : Value} {n m : Nat} {xs ys : List EV} (hn : n = xs.length) (hm : m = ys.length) (h : w.ownsRow b 39 2 v (n + m) (xs.flatMap EV.cells ++ ys.flatMap EV.cells)) : EvRow b w v (xs ++ ys) := by
  unfold EvRow
  rw [List.length_append, List.flatMap_append, ← hn, ← hm]
  exact h
/-- lists of events in a row of their own -/
structure Pcs (w : World) (base : Nat) (v : Value) (PS : List (Value × List EV)) : Prop where
  row : w.ownsRow base 31 1 v PS.length (PS.map fun p => p.1)
  each : ∀ p ∈ PS, EvRow base w p.1 p.2 ∧ ∀ x, p.1.ownBlock = some x → v.ownBlock ≠ some x
theorem Pcs.below {w w' : World} {base : Nat} {v : Value} {PS : List (Value × List EV)} (h : Pcs w base v PS) (hb : Below w.heap.size w w') : Pcs w' base v PS :=
  ⟨ownsRow_keep h.row fun g _ hl => hb.block g hl, fun p hp => by obtain ⟨h1, h2⟩ := h.each p hp; exact ⟨h1.below hb, h2⟩⟩
theorem Pcs.but {w w' : World} {X : Nat → Prop} {base : Nat} {v : Value} {PS : List (Value × List EV)} (h : Pcs w base v PS) (hb : But X w w') (hX : ∀ k, base ≤ k → ¬ X k) : Pcs w' base v PS :=
  ⟨ownsRow_keep h.row fun g hg hl => hb.block g hl (hX g (h.row.lt g hg).1), fun p hp' => by obtain ⟨h1, h2⟩ := h.each p hp'; exact ⟨ownsRow_keep h1 fun g hg hl => hb.block g hl (hX g (World.ownsRow.lt h1 g hg).1), h2⟩⟩
/-- a piece of the row -/
theorem row_at {w : World} {base g n c : Nat} {xs : List Value} (h : w.ownsRow base 31 1 (.slice (some ⟨g, 0, none⟩) n c) n xs) {q : Nat} {u : Value} (hq : xs[q]? = some u) : w.cell? ⟨g, q, none⟩ = some u ∧ w.frozen? ⟨g, q, none⟩ = false ∧ g < w.heap.size := by
  have hce := @World.ownsRow.cells _ _ _ _ _ _ _ h
  have hlt := h.lt g rfl
  have c0 := hce (g := g) rfl q u hq
  rw [Go.WideShapes.add_plain, Nat.zero_add] at c0
  obtain ⟨_, ⟨hv, _⟩ | ⟨gb, cap, cur, hv, hbg, hh, _⟩⟩ := id h
  · cases hv
  · cases hv
    exact ⟨c0, by simp [World.frozen?, hh], hlt.2⟩
theorem row_some {w : World} {base : Nat} {v : Value} {xs : List Value} (h : w.ownsRow base 31 1 v xs.length xs) (h0 : 0 < xs.length) : ∃ g c, v = .slice (some ⟨g, 0, none⟩) xs.length c ∧ base ≤ g ∧ g < w.heap.size ∧ xs.length ≤ c := by
  have hlt := h.lt
  obtain ⟨_, ⟨hv, h1⟩ | ⟨gb, cap, cur, hv, hbg, hh, hc, _⟩⟩ := id h
  · omega
  · exact ⟨gb, cap, hv, hbg, (hlt gb (by rw [hv]; rfl)).2, hc⟩
/-- turned from both ends -/
def Revd (xs ys : List Value) (k : Nat) : Prop := ys.length = xs.length ∧ ∀ q, q < xs.length → ys[q]? = if q < k ∨ xs.length - k ≤ q then xs[xs.length - 1 - q]? else xs[q]?
theorem Revd.done {xs ys : List Value} {k : Nat} (h : Revd xs ys k) (hk : xs.length ≤ 2 * k + 1) : ys = xs.reverse := by
  apply List.ext_getElem?
  intro q
  by_cases hq : q < xs.length
  · rw [h.2 q hq, List.getElem?_reverse hq]
    by_cases h1 : q < k ∨ xs.length - k ≤ q
    · rw [if_pos h1]
    · rw [if_neg h1, show xs.length - 1 - q = q by omega]
  · rw [List.getElem?_eq_none (by rw [h.1]; omega), List.getElem?_eq_none (by rw [List.length_reverse]; omega)]
theorem Revd.step {xs ys : List Value} {k : Nat} {u v : Value} (h : Revd xs ys k) (hk : 2 * k + 1 < xs.length) (hu : ys[k]? = some u) (hv : ys[xs.length - 1 - k]? = some v) : Revd xs ((ys.set k v).set (xs.length - 1 - k) u) (k + 1) := by
  refine ⟨by simp [h.1], fun q hq => ?_⟩
  have h1 := h.2 k (by omega)
  have h2 := h.2 (xs.length - 1 - k) (by omega)
  rw [if_neg (by omega), hu] at h1
  rw [if_neg (by omega), hv] at h2
  have hyl := h.1
  rw [List.getElem?_set, List.getElem?_set]
  by_cases e1 : xs.length - 1 - k = q
  · subst e1
    rw [if_pos rfl, if_pos (by rw [List.length_set]; omega), if_pos (by omega), show xs.length - 1 - (xs.length - 1 - k) = k by omega]
    exact h1
  · rw [if_neg e1]
    by_cases e2 : k = q
    · subst e2
      rw [if_pos rfl, if_pos (by omega), if_pos (by omega)]
      exact h2
    · rw [if_neg e2, h.2 q hq]
      by_cases e3 : q < k ∨ xs.length - k ≤ q
      · rw [if_pos e3, if_pos (by omega)]
      · rw [if_neg e3, if_neg (by omega)]
set_option maxHeartbeats 8000000 in
theorem reverse_any (w : World) (base : Nat) (p0 : Option Addr) (n c : Nat) (xs : List Value) (h : w.ownsRow base 31 1 (.slice p0 n c) xs.length xs) (hsl : ∀ u ∈ xs, ∃ p m d, u = .slice p m d) (hn : xs.length ≤ 140737488355328) :
    Calls Try.prog 35 #[.slice p0 n c] w fun e w' => e = .returned (.tuple #[]) ∧ w'.ownsRow base 31 1 (.slice p0 n c) xs.length xs.reverse ∧ But (fun k => (Value.slice p0 n c).ownBlock = some k) w w' := by
  obtain ⟨p9, c9, h9⟩ := ownsRow_slice h
  obtain rfl : n = xs.length := by cases h9; rfl
  clear h9
  have H := hid h
  have HSl := hid hsl
  clear h hsl
  obtain ⟨n, hn0⟩ : ∃ n, n = xs.length := ⟨_, rfl⟩
  rw [← hn0] at H hn ⊢
  have HN := hid hn0
  clear hn0
  go_enter Try.func35, Try.ntmps35
  go_wp2_with fail
  go_loopw [2, 3] (fun x y wr => ∃ (k : Nat) (ys : List Value), 2 * k ≤ n ∧ x = .int .i64 (k : Int) ∧ y = .int .i64 ((n : Int) - 1 - (k : Int)) ∧ Revd xs ys k ∧ (∀ u ∈ ys, u ∈ xs) ∧ wr.ownsRow base 31 1 (.slice p0 n c) n ys ∧ But (fun k => (Value.slice p0 n c).ownBlock = some k) w wr) (fun x _ _ => n - (intOf x).toNat)
  case atStart => exact ⟨0, xs, by omega, rfl, by go_num, ⟨rfl, fun q hq => by rw [if_neg (by omega)]⟩, fun u hu => hu, H.out, But.refl _ _⟩
  case round =>
    obtain ⟨k, ys, hk, rfl, rfl, hR, hsub, hrow, hbut⟩ := hrel
    have hyl := hR.1
    have hnx := HN.out
    by_cases hlt : 2 * k + 1 < n
    · obtain ⟨j, hj⟩ : ∃ j, j = n - 1 - k := ⟨_, rfl⟩
      have e1 : (n : Int) - 1 - (k : Int) = (j : Int) := by omega
      rw [e1]
      have hkj : k < j := by omega
      have hkj' : (k : Int) < (j : Int) := by omega
      have hjn : j < n := by omega
      have hjn' : (j : Int) < (n : Int) := by omega
      have hkn : k < n := by omega
      have hkn' : (k : Int) < (n : Int) := by omega
      have hyk : ys[k]? = some (ys[k]'(by omega)) := List.getElem?_eq_getElem _
      have hyj : ys[j]? = some (ys[j]'(by omega)) := List.getElem?_eq_getElem _
      obtain ⟨pk, mk, dk, hkv⟩ := HSl.out _ (hsub _ (List.getElem_mem (show k < ys.length by omega)))
      obtain ⟨pj, mj, dj, hjv⟩ := HSl.out _ (hsub _ (List.getElem_mem (show j < ys.length by omega)))
      rw [hkv] at hyk
      rw [hjv] at hyj
      obtain ⟨g, cg, hv, hbg, hgl, hnc⟩ := row_some (show wr.ownsRow base 31 1 (.slice p0 n c) ys.length ys by rw [hyl, ← hnx]; exact hrow) (by omega)
      have hp : p0 = some ⟨g, 0, none⟩ := (Value.slice.inj hv).1
      subst hp
      obtain ⟨ck, fk, gl⟩ := row_at hrow hyk
      obtain ⟨cj, fj, _⟩ := row_at hrow hyj
      have hst := (hrow.stored k (.slice pj mj dj)).1.stored j (.slice pk mk dk)
      have hRn := hR.step (by omega) hyk (by rw [← hnx, ← hj]; exact hyj)
      rw [← hnx, ← hj] at hRn
      have hsubn : ∀ u ∈ (ys.set k (.slice pj mj dj)).set j (.slice pk mk dk), u ∈ xs := fun u hu => by
        rcases List.mem_or_eq_of_mem_set hu with hu | rfl
        · rcases List.mem_or_eq_of_mem_set hu with hu | rfl
          · exact hsub u hu
          · exact hsub _ (List.mem_of_getElem? hyj)
        · exact hsub _ (List.mem_of_getElem? hyk)
      have hbn : But (fun k => (Value.slice (some ⟨g, 0, none⟩) n c).ownBlock = some k) wr ((wr.setCell ⟨g, k, none⟩ (.slice pj mj dj)).setCell ⟨g, j, none⟩ (.slice pk mk dk)) := (((But.one wr g).setAt k _).setAt j _).mono fun q _ e => by rw [e]; rfl
      have HH := hid (And.intro hst.1 (And.intro hRn (And.intro hsubn (hbut.trans hbn))))
      have hne1 : ¬ k = j := by omega
      have hne2 : ¬ j = k := by omega
      have HJ := hid hj
      clear hst hRn hsubn hbn hR hsub hrow hbut hyk hyj hkv hjv hv hj e1 hyl hnx
      go_upto_region 3 with fail
      refine wp_region_calmE 30 (fun wx => Below wr.heap.size wr wx) [(0, true), (1, true), (2, true), (3, true), (4, true), (5, true), (6, true), (7, false), (8, true), (9, true), (10, true), (11, false), (12, true)] (.one 13 false [(14, true)] (.one 15 false [] .done)) (by kernel_rfl) (by kernel_rfl) (Below.refl _ _).drew ?_
      refine wpPre_e rfl rfl (fun K1 hK1 => ?_)
      apply Exists.intro
      refine And.intro (fun wx hx => ?_) ?_
      · go_simp
        try rfl
      go_simp
      refine hK1 _ ?_
      clear hK1 K1
      refine wpPre_e rfl rfl (fun K1 hK1 => ?_)
      apply Exists.intro
      refine And.intro (fun wx hx => ?_) ?_
      · go_simp
        try rfl
      go_simp
      refine hK1 _ ?_
      clear hK1 K1
      refine wpPre_e rfl rfl (fun K1 hK1 => ?_)
      apply Exists.intro
      refine And.intro (fun wx hx => ?_) ?_
      · go_simp
        try rfl
      go_simp
      refine hK1 _ ?_
      clear hK1 K1
      refine wpPre_e rfl rfl (fun K1 hK1 => ?_)
      apply Exists.intro
      refine And.intro (fun wx hx => ?_) ?_
      · go_simp
        try rfl
      go_simp
      refine hK1 _ ?_
      clear hK1 K1
      refine wpPre_e rfl rfl (fun K1 hK1 => ?_)
      apply Exists.intro
      refine And.intro (fun wx hx => ?_) ?_
      · go_simp
        try rfl
      go_simp
      refine hK1 _ ?_
      clear hK1 K1
      refine wpPre_e rfl rfl (fun K1 hK1 => ?_)
      apply Exists.intro
      refine And.intro (fun wx hx => ?_) ?_
      · go_simp
        try rfl
      go_simp
      refine hK1 _ ?_
      clear hK1 K1
      refine wpPre_e rfl rfl (fun K1 hK1 => ?_)
      apply Exists.intro
      refine And.intro (fun wx hx => ?_) ?_
      · go_simp
        try rfl
      go_simp
      refine hK1 _ ?_
      clear hK1 K1
      refine wpPre_e rfl rfl (fun K1 hK1 => ?_)
      apply Exists.intro
      refine And.intro (fun wx hx => ?_) ?_
      · have e0 := below_fact hx rfl ck
        have e1 := below_fact hx rfl cj
        go_simp
        try rfl
      go_simp
      refine hK1 _ ?_
      clear hK1 K1
      refine wpPre_e rfl rfl (fun K1 hK1 => ?_)
      apply Exists.intro
      refine And.intro (fun wx hx => ?_) ?_
      · go_simp
        try rfl
      go_simp
      refine hK1 _ ?_
      clear hK1 K1
      refine wpPre_e rfl rfl (fun K1 hK1 => ?_)
      apply Exists.intro
      refine And.intro (fun wx hx => ?_) ?_
      · go_simp
        try rfl
      go_simp
      refine hK1 _ ?_
      clear hK1 K1
      refine wpPre_e rfl rfl (fun K1 hK1 => ?_)
      apply Exists.intro
      refine And.intro (fun wx hx => ?_) ?_
      · go_simp
        try rfl
      go_simp
      refine hK1 _ ?_
      clear hK1 K1
      refine wpPre_e rfl rfl (fun K1 hK1 => ?_)
      apply Exists.intro
      refine And.intro (fun wx hx => ?_) ?_
      · have e0 := below_fact hx rfl ck
        have e1 := below_fact hx rfl cj
        go_simp
        try rfl
      go_simp
      refine hK1 _ ?_
      clear hK1 K1
      refine wpPre_e rfl rfl (fun K1 hK1 => ?_)
      apply Exists.intro
      refine And.intro (fun wx hx => ?_) ?_
      · go_simp
        try rfl
      go_simp
      refine hK1 _ ?_
      clear hK1 K1
      refine wpPre_nil ?_
      refine wpTr_e rfl (fun K1 hK1 => ?_)
      go_simp
      refine hK1 _ _ (fun h => by cases h) ?_
      clear hK1 K1
      refine wpPre_e rfl rfl (fun K1 hK1 => ?_)
      apply Exists.intro
      refine And.intro (fun wx hx => ?_) ?_
      · go_simp
        try rfl
      go_simp
      refine hK1 _ ?_
      clear hK1 K1
      refine wpPre_nil ?_
      refine wpTr_e rfl (fun K1 hK1 => ?_)
      go_simp
      refine hK1 _ _ (fun h => by cases h) ?_
      clear hK1 K1
      refine wpPre_nil ?_
      refine wpTr_done ?_
      go_wp2
      go_roundw
      case rel => exact ⟨k + 1, _, by omega, by go_num, by have := HJ.out; go_num; try omega, HH.out.2.1, HH.out.2.2.1, HH.out.1, HH.out.2.2.2.drew⟩
      case measure => simp [intOf]; omega
    · have hre : ys = xs.reverse := hR.done (by omega)
      have HH : Hid (wr.ownsRow base 31 1 (.slice p0 n c) n xs.reverse ∧ But (fun k => (Value.slice p0 n c).ownBlock = some k) w wr) := by rw [← hre]; exact ⟨hrow, hbut⟩
      have hlt2 : ¬ (k : Int) < (n : Int) - 1 - (k : Int) := by omega
      clear hR hsub hrow hbut hre hyl hnx
      go_wp2
      go_end0
      exact ⟨rfl, HH.out.1, HH.out.2⟩
end Go.Proofs.Ytdpfgflofjiheaa
