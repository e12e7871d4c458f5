import Derived.Test.YtbeibhmbaofjhaaPack2
import Derived.Test.YtbeibhmbaofjhaaPack3
import Derived.Laws.CopyOwn
import Derived.Laws.MakeOwn
import Derived.Deep.DeepCutAuto
import Derived.Deep.RegionHeld
namespace Go.Proofs.Ytbeibhmbaofjhaa
open Go.RowKit
set_option maxRecDepth 8000

/-- bytes as cells -/
def bys (zs : List Int) : Array Value := (zs.map (Value.int .u8)).toArray
theorem bys_size (zs : List Int) : (bys zs).size = zs.length := by simp [bys]
theorem one_u8 (zs : List Int) : ∀ u ∈ zs.map (Value.int .u8), u.oneCell' = true := by
  intro u hu
  obtain ⟨z, _, rfl⟩ := List.mem_map.1 hu
  rfl
theorem splice_all {α : Type} (L cs : List α) (h : cs.length = L.length) : splice L 0 cs = cs := by
  unfold splice
  simp [h]
/-- a flight with the block of its bytes -/
structure FL where
  fr : Int
  tt : Int
  d : Nat
  zs : List Int
def FL.val (x : FL) : Value := .agg #[.int .i64 x.fr, .int .i64 x.tt, .slice (some ⟨x.d, 0, none⟩) x.zs.length x.zs.length]
def FL.cells (x : FL) : List Value := [.int .i64 x.fr, .int .i64 x.tt, .slice (some ⟨x.d, 0, none⟩) x.zs.length x.zs.length]
/-- what it says -/
structure FA where
  fr : Int
  tt : Int
  zs : List Int
def FL.a (x : FL) : FA := ⟨x.fr, x.tt, x.zs⟩
theorem kindFl : ∃ i, Kind 29 53 i (.agg #[.int .i64 0, .int .i64 0, .slice none 0 0]) 3 40 := by
  obtain ⟨i0, hi, hz0, hz1, hz2⟩ := info_parts (show (Try.prog.info? 53).map (fun i => (i.zero, i.size, i.bytes)) = some (some (.agg #[.int .i64 0, .int .i64 0, .slice none 0 0]), 3, 40) by kernel_rfl)
  exact ⟨i0, Try.underlying29, hi, hz0, hz1, hz2, rfl, by decide⟩
/-- three cells of a block, stored -/
theorem Box.set3 {w : World} {b : Nat} {a0 a1 a2 : Value} {e : TypeId} (h : Box w b #[a0, a1, a2] e) (x0 x1 x2 : Value) : Box (((w.setCell ⟨b, 0, none⟩ x0).setCell ⟨b, 1, none⟩ x1).setCell ⟨b, 2, none⟩ x2) b #[x0, x1, x2] e := by
  have h := ((h.set 0 x0).set 1 x1).set 2 x2
  simpa using h
theorem but3 (w : World) (b : Nat) (x0 x1 x2 : Value) : But (fun k => k = b) w (((w.setCell ⟨b, 0, none⟩ x0).setCell ⟨b, 1, none⟩ x1).setCell ⟨b, 2, none⟩ x2) :=
  (((But.one w b).setAt 0 x0).setAt 1 x1).setAt 2 x2
def CpQ (fr tt : Int) (zs : List Int) (w : World) (e : Ending) (w' : World) : Prop :=
  ∃ d : Nat, e = .returned (.agg #[.int .i64 fr, .int .i64 tt, .slice (some ⟨d, 0, none⟩) zs.length zs.length]) ∧ w.heap.size ≤ d ∧ Box w' d (bys zs) 5 ∧ Below w.heap.size w w'
set_option maxHeartbeats 4000000 in
/-- copied -/
theorem copied_any (fr tt : Int) (p : Option Addr) (c : Nat) (zs : List Int) (w : World) (hs : Src w p zs.length c 1 (zs.map (.int .u8))) (hl : zs.length ≤ 1099511627776) :
    Calls Try.prog 19 #[.agg #[.int .i64 fr, .int .i64 tt, .slice p zs.length c]] w fun e w' => CpQ fr tt zs w e w' := by
  obtain ⟨i0, Kd⟩ := kindB
  obtain ⟨n, hn⟩ : ∃ n, n = zs.length := ⟨_, rfl⟩
  rw [← hn] at hl ⊢
  obtain ⟨M, hM⟩ : ∃ M, M = madeCells (Value.int .u8 0).cells (((n : Nat) : Int).toNat * i0.size) := ⟨_, rfl⟩
  have hMs : M.size = n := by rw [hM, size_madeCells, Kd.hsize]; simp
  have hmk : ∀ W : World, (Instr.makeSlice 51 (.int .i64 (n : Int)) (.int .i64 (n : Int))).run Try.prog W = .ok (.slice (some ⟨W.heap.size, 0, none⟩) n n) (W.alloc (.cells M 5)) := fun W => by
    have h := run_make (P := Try.prog) W 51 5 i0 (.int .u8 0) Kd.ht Kd.hi Kd.hz .i64 .i64 (n : Int) (n : Int) (by omega) (by omega) (by rw [Kd.hby]; omega) (by omega)
    rw [← hM] at h
    simpa using h
  have hinf : (Try.prog.info? 5).map (·.size) = some 1 := by rw [Kd.hi]; simp [Kd.hsize]
  obtain ⟨W, hW⟩ : ∃ W, W = (w.alloc (.cells #[.int .i64 fr, .int .i64 tt, .slice p n c] 53)).alloc (.cells #[.int .i64 0, .int .i64 0, .slice none 0 0] 53) := ⟨_, rfl⟩
  have hB : Below w.heap.size w W := by rw [hW]; exact ((Below.refl _ _).alloc (Nat.le_refl _) _).alloc (by simp) _
  have hX : Box W w.heap.size #[.int .i64 fr, .int .i64 tt, .slice p n c] 53 := by rw [hW]; exact (Box.new w _ _).below ((Below.refl _ _).alloc (Nat.le_refl _) _)
  have hY : Box W (w.heap.size + 1) #[.int .i64 0, .int .i64 0, .slice none 0 0] 53 := by
    have h := Box.new (w.alloc (.cells #[.int .i64 fr, .int .i64 tt, .slice p n c] 53)) #[.int .i64 0, .int .i64 0, .slice none 0 0] 53
    rw [← hW] at h
    simpa using h
  have hWs : W.heap.size = w.heap.size + 2 := by rw [hW]; simp
  have z2 := hX.cell 2
  simp at z2
  have zl := hX.lt
  have HW := hid hW
  have HX := hid hX
  have HY := hid hY
  have HB := hid hB
  have HN := hid hn
  have HWs := hid hWs
  have HMs := hid hMs
  have HS := hid hs
  have HM := hid hM
  clear hW hX hY hB hn hs hM hMs hWs
  go_enter Try.func19, Try.ntmps19
  go_upto_region 1 with fail
  rw [← HW.out]
  go_upto_region 2 with fail
  obtain ⟨V, hV⟩ : ∃ V, V = W.alloc (.cells M 5) := ⟨_, rfl⟩
  rw [← hV]
  have hBV : Below W.heap.size W V := by rw [hV]; exact (Below.refl _ _).alloc (Nat.le_refl _) _
  have hGV : V.heap[W.heap.size]? = some (.cells M.toList.toArray 5 (0, 0)) := by
    have h := Box.new W M 5
    rw [← hV] at h
    simpa [Box] using h
  have hXV := HX.out.below hBV
  have y2 := hXV.cell 2
  simp at y2
  have HBV := hid hBV
  have HGV := hid hGV
  have hVs : W.heap.size < V.heap.size := (show Box V W.heap.size _ _ from hGV).lt
  have HVs := hid hVs
  clear hV hBV hGV hXV z2 zl hmk
  have hwv : Below w.heap.size w V := HB.out.trans (HBV.out.mono HB.out.size)
  have HWV := hid hwv
  clear hwv
  have hwx : w.heap.size < W.heap.size := by have := HWs.out; omega
  have HWX := hid hwx
  have hvl : w.heap.size < V.heap.size := by omega
  have HP : Hid (0 < (zs.map (Value.int .u8)).length → (some (⟨W.heap.size, 0, none⟩ : Addr)) = some ⟨W.heap.size, 0, none⟩ ∧ ∃ ad, p = some ad ∧ ∀ j v, (zs.map (Value.int .u8))[j]? = some v → V.cell? (ad.add j) = some v) := fun hp => ⟨rfl, by
    rcases HS.out with ⟨_, h0, _, _⟩ | ⟨ad, h1, _, h3⟩
    · simp [h0] at hp
    · exact ⟨ad, h1, fun j v hv => by
        have h4 := h3 j v hv
        rw [HWV.out.cell (block_lt_of_cell h4)]
        exact h4⟩⟩
  have HL : Hid ((zs.map (Value.int .u8)).length = Nat.min n n) := by show _ = _; simp [HN.out]
  have HL2 : Hid (0 + (zs.map (Value.int .u8)).length ≤ M.toList.length) := by show _ ≤ _; simp [HMs.out, HN.out]
  go_wp2_with (refine wpList_copy_splice rfl (.tmp 8) (.tmp 10) 51 51 rfl 5 Try.underlying51 hinf (some ⟨W.heap.size, 0, none⟩) p n n n c rfl rfl W.heap.size 0 M.toList 5 HGV.out (zs.map (.int .u8)) HL.out HP.out HL2.out (one_u8 zs) W.heap.size W HBV.out (Nat.le_refl _) ?_)
  intro w3 HG3 hB3
  have hG3 : Box w3 W.heap.size (bys zs) 5 := by
    have h := HG3.out
    rw [splice_all _ _ (by simp [HMs.out, HN.out])] at h
    exact h
  have hX3 := HX.out.below hB3
  have hY3 := HY.out.below hB3
  have a0 := hX3.cell 0
  have a1 := hX3.cell 1
  have a2 := hX3.cell 2
  have f2 := hX3.frozen 2
  have c0 := hY3.cell 0
  have c1 := hY3.cell 1
  have c2 := hY3.cell 2
  have g0 := hY3.frozen 0
  have g1 := hY3.frozen 1
  have g2 := hY3.frozen 2
  have al := hX3.lt
  have cl := hY3.lt
  simp at a0 a1 a2 c0 c1 c2
  have H3 := hid (And.intro hG3 (And.intro hB3 hY3))
  clear hG3 hX3 hY3 hB3 HG3 y2 hvl
  go_wp2
  have hbt := But.setAt (But.one w3 w.heap.size) 2 (.slice (some ⟨W.heap.size, 0, none⟩) n n)
  have hb2 := but3 (w3.setCell ⟨w.heap.size, 2, none⟩ (.slice (some ⟨W.heap.size, 0, none⟩) n n)) (w.heap.size + 1) (.int .i64 fr) (.int .i64 tt) (.slice (some ⟨W.heap.size, 0, none⟩) n n)
  refine bodyPost_ret (v := .agg #[.int .i64 fr, .int .i64 tt, .slice (some ⟨W.heap.size, 0, none⟩) n n]) (by simp [results, Try.results19, go_sem, c0, c1, c2]) rfl ⟨W.heap.size, by rw [HN.out], Nat.le_of_lt HWX.out, ?_, ?_⟩
  · have hws := HWs.out
    exact (H3.out.1.but hbt (by omega)).but hb2 (by omega)
  · have hws := HWs.out
    have hs3 := H3.out.2.1.size
    have h1 : Below w.heap.size w w3 := HB.out.trans (H3.out.2.1.mono HB.out.size)
    exact (h1.trans (hbt.below h1.size (fun k hk e => by omega))).trans (hb2.below (by have := hbt.size; omega) (fun k hk e => by omega))
end Go.Proofs.Ytbeibhmbaofjhaa

namespace Go.Proofs.Ytbeibhmbaofjhaa
open Go.RowKit
set_option maxRecDepth 8000

/-- a row of flights, whatever room stands behind it -/
structure RowX (w : World) (v : Value) (n : Nat) (xs : List Value) : Prop where
  len : xs.length = n * 3
  at_ : (v = .slice none 0 0 ∧ n = 0) ∨ ∃ g cap cur, v = .slice (some ⟨g, 0, none⟩) n cap ∧ w.heap[g]? = some (.cells cur 53 (0, 0)) ∧ n ≤ cap ∧ cap ≤ maxLen ∧ cap * 3 ≤ cur.size ∧ cur.toList.take (n * 3) = xs
theorem RowX.slice {w : World} {v : Value} {n : Nat} {xs : List Value} (h : RowX w v n xs) : ∃ p c, v = .slice p n c := by
  rcases h.at_ with ⟨hv, h0⟩ | ⟨g, cap, cur, hv, _⟩
  · exact ⟨none, 0, by rw [hv, h0]⟩
  · exact ⟨_, cap, hv⟩
theorem RowX.nil (w : World) : RowX w (.slice none 0 0) 0 [] := ⟨rfl, .inl ⟨rfl, rfl⟩⟩
theorem RowX.own {w : World} {base n : Nat} {v : Value} {xs : List Value} (h : w.ownsRow base 53 3 v n xs) : RowX w v n xs := by
  refine ⟨h.1, ?_⟩
  rcases h.2 with h1 | ⟨g, cap, cur, hv, _, hh, hn, hm, hc, ht⟩
  · exact .inl h1
  · exact .inr ⟨g, cap, cur, hv, hh, hn, hm, Nat.le_of_eq hc.symm, ht⟩
theorem RowX.kept {w w' : World} {v : Value} {n : Nat} {xs : List Value} (h : RowX w v n xs) (hb : ∀ g, v.ownBlock = some g → g < w.heap.size → w'.heap[g]? = w.heap[g]?) : RowX w' v n xs := by
  refine ⟨h.len, ?_⟩
  rcases h.at_ with h1 | ⟨g, cap, cur, hv, hh, r⟩
  · exact .inl h1
  · exact .inr ⟨g, cap, cur, hv, (hb g (by rw [hv]; rfl) (show Box w g cur 53 from hh).lt).trans hh, r⟩
theorem RowX.lt {w : World} {v : Value} {n : Nat} {xs : List Value} (h : RowX w v n xs) {g : Nat} (hg : v.ownBlock = some g) : g < w.heap.size ∧ ∃ cur, Box w g cur 53 := by
  rcases h.at_ with ⟨hv, _⟩ | ⟨g', cap, cur, hv, hh, _⟩
  · rw [hv] at hg; cases hg
  · rw [hv] at hg
    obtain rfl : g' = g := by simpa [Value.ownBlock] using hg
    exact ⟨(show Box w g' cur 53 from hh).lt, cur, hh⟩
theorem RowX.cells {w : World} {v : Value} {n : Nat} {xs : List Value} (h : RowX w v n xs) (hn : 0 < n) : ∃ g cap, v = .slice (some ⟨g, 0, none⟩) n cap ∧ n ≤ cap ∧ g < w.heap.size ∧ (∀ j u, xs[j]? = some u → w.cell? ⟨g, j, none⟩ = some u) ∧ ∀ j, w.frozen? ⟨g, j, none⟩ = false := by
  rcases h.at_ with ⟨_, h0⟩ | ⟨g, cap, cur, hv, hh, hnc, hcm, hcs, ht⟩
  · omega
  · have hb : Box w g cur 53 := hh
    refine ⟨g, cap, hv, hnc, hb.lt, fun j u hu => ?_, fun j => hb.frozen j⟩
    rw [hb.cell, ← hu, ← ht]
    have hj : j < n * 3 := by
      rw [← h.len]
      rcases Nat.lt_or_ge j xs.length with h1 | h1
      · exact h1
      · rw [List.getElem?_eq_none h1] at hu; cases hu
    rw [List.getElem?_take, if_pos hj]
    simp
/-- some flights laid behind them -/
theorem run_appX (w : World) (ty : TypeId) {v : Value} {n : Nat} {xs : List Value} (h : RowX w v n xs) (ad : Addr) (m c : Nat) (news : List Value) (hl : news.length = m * 3) (hnews : ∀ j u, news[j]? = some u → w.cell? (ad.add j) = some u) (h1 : ∀ u ∈ news, u.oneCell' = true)
    (h63 : (n + m) * 40 ≤ 140737488355328) :
    ∃ v' w', (Builtin.append_ #[29, 29] ty #[v, .slice (some ad) m c]).run Try.prog w = .ok v' w' ∧ RowX w' v' (n + m) (xs ++ news) ∧ w.grownBy w' v.ownBlock ∧ Near w v v' := by
  obtain ⟨i, Kd⟩ := kindFl
  obtain ⟨ht, hi, hz0, hz1, hz2, hzs, hsz⟩ := Kd
  have hm63 : n + m ≤ maxLen := by unfold maxLen; omega
  have hlen : (xs ++ news).length = (n + m) * 3 := by rw [List.length_append, h.len, hl, Nat.add_mul]
  obtain ⟨hv, h0⟩ | ⟨g, cap, cur, hv, hh, hnc, hcm, hcs, htake⟩ := h.at_
  · subst hv h0
    obtain rfl : xs = [] := List.eq_nil_of_length_eq_zero (by simpa using h.len)
    obtain ⟨v', w', hrun, r1, r2, _⟩ := run_append_own (P := Try.prog) w w.heap.size 29 ty 53 i _ 3 40 ht hi hz0 hz1 hz2 hzs hsz (.slice none 0 0) 0 [] (World.ownsRow_nil w _ 53 3) ad m c news hl hnews h1 (by unfold maxLen; omega) h63 (Nat.le_refl _)
    exact ⟨v', w', hrun, RowX.own r1, r2, .inr fun g hg => (r1.lt g hg).1⟩
  · subst hv
    have hbx : Box w g cur 53 := hh
    by_cases hroom : n + m ≤ cap
    · have hr := run_append_room (P := Try.prog) w 29 ty 53 i ht hi g n cap cur hh ad m c news (by rw [hz1]; exact hl) hnews h1 hroom (by rw [hz1]; omega)
      refine ⟨_, _, hr, ⟨hlen, .inr ⟨g, cap, _, rfl, setRow_heap w g cur _ 53 _ hh, hroom, hcm, ?_, ?_⟩⟩, ⟨rfl, rfl, rfl, by simp, fun k _ hk => setRow_other w g k _ (fun e => hk (by simp [e, Value.ownBlock]))⟩, .inl rfl⟩
      · simp only [List.size_toArray, List.length_append, List.length_take, List.length_drop, Array.length_toList]
        rw [hz1]
        omega
      · rw [hz1, htake, ← hlen]
        exact List.take_left
    · have holds : ∀ j u, xs[j]? = some u → w.cell? ((⟨g, 0, none⟩ : Addr).add j) = some u := by
        intro j u hu
        rw [Go.WideShapes.add_plain, hbx.cell, ← hu, ← htake]
        have hj : j < n * 3 := by
          rw [← h.len]
          rcases Nat.lt_or_ge j xs.length with h1 | h1
          · exact h1
          · rw [List.getElem?_eq_none h1] at hu; cases hu
        rw [List.getElem?_take, if_pos hj]
        simp
      obtain ⟨v', w', hrun, r1, r2⟩ := run_append_arg_grows (P := Try.prog) w 29 ty 53 i _ 3 40 ht hi hz0 hz1 hz2 hzs hsz ⟨g, 0, none⟩ n cap xs h.len holds ad m c news hl hnews (by omega) hm63 (by omega)
      exact ⟨v', w', hrun, RowX.own r1, grownBy_any r2 _, .inr fun g hg => (r1.lt g hg).1⟩
theorem step_appX {ops : Array Oper} {o : Oper} {a : Act} {w : World} {K : Act → World → Prop} {Q : Exit → Act → World → Prop} {E : Prop}
    (hgd : o.guard = none) (s x : Operand) (hop : o.op = Op.call { callee := Callee.builtin Builtin.append, args := #[s, x], argTypes := #[29, 29] })
    (v : Value) (n : Nat) (xs : List Value) (hs : a.eval s = v) (hown : RowX w v n xs)
    (ad : Addr) (m c : Nat) (news : List Value) (hx : a.eval x = .slice (some ad) m c) (hl : news.length = m * 3) (hnews : ∀ j u, news[j]? = some u → w.cell? (ad.add j) = some u) (h1 : ∀ u ∈ news, u.oneCell' = true)
    (h63 : (n + m) * 40 ≤ 140737488355328)
    (hK : ∀ v' w', RowX w' v' (n + m) (xs ++ news) → w.grownBy w' v.ownBlock → Near w v v' → K (a.put o.dst v') w') :
    if Region.wanted o (yielded ops a.tmps) = true then Oper.wp Try.prog o a w K Q else E := by
  have hw : Region.wanted o (yielded ops a.tmps) = true := by simp [Region.wanted, hgd]
  rw [if_pos hw]
  obtain ⟨v', w', hrun, r1, r2, r3⟩ := run_appX w o.type hown ad m c news hl hnews h1 h63
  unfold Oper.wp
  simp [execOp, hop, resolve, invoke, builtin, hs, hx, hrun, Result.andThen]
  exact hK v' w' r1 r2 r3

theorem flat3_len (L : List FL) : (L.flatMap FL.cells).length = L.length * 3 := by
  induction L with
  | nil => rfl
  | cons x L ih => simp [FL.cells] at ih ⊢; omega
theorem flat3 : ∀ (L : List FL) (j r : Nat) (x : FL), L[j]? = some x → r < 3 → (L.flatMap FL.cells)[j * 3 + r]? = x.cells[r]?
  | [], j, r, x, h, _ => by simp at h
  | y :: L, 0, r, x, h, hr => by
    simp at h
    subst h
    rw [List.flatMap_cons, List.getElem?_append_left (by simp [FL.cells]; omega)]
    simp
  | y :: L, j + 1, r, x, h, hr => by
    rw [List.flatMap_cons, List.getElem?_append_right (by simp [FL.cells]; omega)]
    have := flat3 L j r x (by simpa using h) hr
    rw [← this]
    congr 1
    simp [FL.cells]
    omega
/-- a network's blocks -/
def EtC (b : Nat) (v : Value) (L : List FL) (k : Nat) : Prop := k = b ∨ v.ownBlock = some k ∨ ∃ x ∈ L, x.d = k
/-- a network in memory, apart from the blocks of Z -/
structure EtI (w : World) (Z : Nat → Prop) (b : Nat) (m : Int) (v : Value) (L : List FL) : Prop where
  bx : Box w b #[.int .i64 m, v] 65
  row : RowX w v L.length (L.flatMap FL.cells)
  dat : ∀ x ∈ L, Box w x.d (bys x.zs) 5
  pw : L.Pairwise (fun x y => x.d ≠ y.d)
  z : ∀ k, EtC b v L k → ¬ Z k
  len : L.length ≤ 256
  sz : ∀ x ∈ L, x.zs.length ≤ 32776
  by_ : ∀ x ∈ L, ∀ z ∈ x.zs, 0 ≤ z ∧ z < 256
/-- all that is of Z stays -/
def Fr (Z : Nat → Prop) (w w' : World) : Prop := But (fun k => ¬ Z k) w w'
/-- a network that says A -/
def EtA (w : World) (Z : Nat → Prop) (b : Nat) (m : Int) (A : List FA) : Prop := ∃ v L, EtI w Z b m v L ∧ L.map FL.a = A
theorem box_ty {w : World} {b : Nat} {cs cs' : Array Value} {e e' : TypeId} (h : Box w b cs e) (h' : Box w b cs' e') : e = e' := by
  unfold Box at h h'
  rw [h] at h'
  cases h'
  rfl
theorem EtI.lt {w : World} {Z : Nat → Prop} {b : Nat} {m : Int} {v : Value} {L : List FL} (h : EtI w Z b m v L) {k : Nat} (hk : EtC b v L k) : k < w.heap.size := by
  rcases hk with rfl | hk | ⟨x, hx, rfl⟩
  · exact h.bx.lt
  · exact (h.row.lt hk).1
  · exact (h.dat x hx).lt
theorem EtI.ne_row {w : World} {Z : Nat → Prop} {b : Nat} {m : Int} {v : Value} {L : List FL} (h : EtI w Z b m v L) : v.ownBlock ≠ some b := fun e => by
  obtain ⟨_, cur, hc⟩ := h.row.lt e
  have := box_ty h.bx hc
  cases this
theorem EtI.ne_dat {w : World} {Z : Nat → Prop} {b : Nat} {m : Int} {v : Value} {L : List FL} (h : EtI w Z b m v L) {x : FL} (hx : x ∈ L) : x.d ≠ b ∧ v.ownBlock ≠ some x.d := by
  refine ⟨fun e => ?_, fun e => ?_⟩
  · have h1 := h.dat x hx
    rw [e] at h1
    have := box_ty h.bx h1
    cases this
  · obtain ⟨_, cur, hc⟩ := h.row.lt e
    have := box_ty (h.dat x hx) hc
    cases this
/-- nothing of its own has changed -/
theorem EtI.kept {w w' : World} {Z Z' : Nat → Prop} {b : Nat} {m : Int} {v : Value} {L : List FL} (h : EtI w Z b m v L) (hb : ∀ k, EtC b v L k → w'.heap[k]? = w.heap[k]?) (hz : ∀ k, EtC b v L k → ¬ Z' k) : EtI w' Z' b m v L :=
  ⟨h.bx.kept (hb b (.inl rfl)), h.row.kept (fun g hg _ => hb g (.inr (.inl hg))), fun x hx => (h.dat x hx).kept (hb _ (.inr (.inr ⟨x, hx, rfl⟩))), h.pw, hz, h.len, h.sz, h.by_⟩
theorem EtI.below {w w' : World} {Z : Nat → Prop} {b : Nat} {m : Int} {v : Value} {L : List FL} (h : EtI w Z b m v L) (hb : Below w.heap.size w w') : EtI w' Z b m v L :=
  h.kept (fun _ hk => hb.block _ (h.lt hk)) h.z
theorem Fr.refl (Z : Nat → Prop) (w : World) : Fr Z w w := But.refl _ _
theorem Fr.trans {Z : Nat → Prop} {a b c : World} (h : Fr Z a b) (k : Fr Z b c) : Fr Z a c := But.trans h k
theorem Fr.below {Z : Nat → Prop} {w w' : World} (h : Below w.heap.size w w') : Fr Z w w' := But.ofBelow h
/-- blocks that are others' now -/
theorem EtA.z {w : World} {Z Z' : Nat → Prop} {b : Nat} {m : Int} {A : List FA} (h : EtA w Z b m A) (hz : ∀ k, k < w.heap.size → Z' k → Z k) : EtA w Z' b m A := by
  obtain ⟨v, L, hI, hA⟩ := h
  exact ⟨v, L, hI.kept (fun _ _ => rfl) (fun k hk hz' => hI.z k hk (hz k (hI.lt hk) hz')), hA⟩
/-- what others did, in blocks of theirs and in new ones -/
theorem EtA.but {w w' : World} {Z Z' : Nat → Prop} {b : Nat} {m : Int} {A : List FA} (h : EtA w Z b m A) (hb : But Z w w') (hz : ∀ k, k < w.heap.size → Z' k → Z k) : EtA w' Z' b m A := by
  obtain ⟨v, L, hI, hA⟩ := h
  exact ⟨v, L, hI.kept (fun k hk => hb.block k (hI.lt hk) (hI.z k hk)) (fun k hk hz' => hI.z k hk (hz k (hI.lt hk) hz')), hA⟩
theorem EtA.below {w w' : World} {Z Z' : Nat → Prop} {b : Nat} {m : Int} {A : List FA} (h : EtA w Z b m A) (hb : Below w.heap.size w w') (hz : ∀ k, k < w.heap.size → Z' k → Z k) : EtA w' Z' b m A :=
  h.but (But.ofBelow hb) hz
end Go.Proofs.Ytbeibhmbaofjhaa

namespace Go.Proofs.Ytbeibhmbaofjhaa
open Go.RowKit
set_option maxRecDepth 8000
/-- a list of bytes that lies somewhere -/
structure YS where
  p : Option Addr
  c : Nat
  zs : List Int
def YS.val (x : YS) : Value := .slice x.p x.zs.length x.c
/-- the block it reads -/
def YS.blk (x : YS) (k : Nat) : Prop := 0 < x.zs.length ∧ ∃ o, x.p = some ⟨k, o, none⟩
def YS.ok (w : World) (x : YS) : Prop := Byts w x.blk x.p x.zs.length x.c (fun j => x.zs.getD j 0)
theorem YS.ok_kept {w w' : World} {x : YS} (h : x.ok w) (hs : w.heap.size ≤ w'.heap.size) (hb : ∀ k, x.blk k → k < w.heap.size → w'.heap[k]? = w.heap[k]?) : x.ok w' := Byts.kept h hs hb
theorem YS.ok_lt {w : World} {x : YS} (h : x.ok w) {k : Nat} (hk : x.blk k) : k < w.heap.size := by
  obtain ⟨h0, o, e⟩ := hk
  obtain ⟨b, o', e', _, hl, _⟩ := h.at_ h0
  rw [e] at e'
  cases e'
  exact hl
/-- the cells of a book that keeps bytes alone -/
def ybT : List Value := (List.replicate 14 [Value.slice none 0 0, .slice none 0 0, .slice none 0 0, .slice none 0 0, .slice none 0 0, .slice none 0 0, .int .i64 0]).flatten
def ybC (o t wt nt mk lf : Value) (sn : Int) : Array Value := (Value.bool false :: .bool false :: o :: t :: wt :: nt :: mk :: lf :: .int .i64 sn :: ybT).toArray
def ybF (F : Nat → Value) (sn : Int) : Array Value := ybC (F 0) (F 1) (F 2) (F 3) (F 4) (F 5) sn
/-- what a book holds: its rows, what stands in them, the lists that it may write, those that it only reads -/
structure Yb where
  F : Nat → Value
  X : Nat → List Value
  sn : Int
  own : List YS
  rd : List YS
def ints (l : List Int) : List Value := l.map (.int .i64)
def ob (v : Value) : List Nat := v.ownBlock.toList
def ybTy (i : Nat) : TypeId := if i < 4 then 51 else 3
def Yb.rows (b : Yb) : List Nat := (List.range 6).flatMap fun i => ob (b.F i)
def Yb.owns (b : Yb) : List Nat := b.own.flatMap fun x => ob x.val
/-- the blocks that it may write -/
def Yb.hot (b : Yb) (kb : Nat) : List Nat := kb :: (b.rows ++ b.owns)
def Yb.cold (b : Yb) (k : Nat) : Prop := ∃ x ∈ b.rd, x.blk k
/-- a book in memory, apart from the blocks of Z -/
structure YbM (w : World) (Z : Nat → Prop) (kb : Nat) (b : Yb) : Prop where
  bx : Box w kb (ybF b.F b.sn) 48
  row : ∀ i, i < 6 → w.ownsRow 0 (ybTy i) 1 (b.F i) (b.X i).length (b.X i)
  cc : ∀ x ∈ b.rd, x.ok w
  cw : ∀ x ∈ b.own, OwnBy 0 w x.val x.zs ∧ (∀ z ∈ x.zs, 0 ≤ z ∧ z ≤ 255) ∧ x.zs.length ≤ 140000
  d1 : ∀ i, i < 6 → kb ∉ ob (b.F i)
  d2 : ∀ i j, i < 6 → j < 6 → i ≠ j → ∀ k ∈ ob (b.F i), k ∉ ob (b.F j)
  d3 : ∀ x ∈ b.own, kb ∉ ob x.val
  d4 : ∀ i, i < 6 → ∀ x ∈ b.own, ∀ k ∈ ob (b.F i), k ∉ ob x.val
  d5 : b.own.Pairwise fun x y => ∀ k ∈ ob x.val, k ∉ ob y.val
  hc : ∀ k ∈ b.hot kb, ¬ b.cold k
  zh : ∀ k ∈ b.hot kb, ¬ Z k
  zc : ∀ k, b.cold k → ¬ Z k
  zl : ∀ k, Z k → k < w.heap.size
theorem ob_mem {v : Value} {k : Nat} : k ∈ ob v ↔ v.ownBlock = some k := by simp [ob, Option.mem_toList]
theorem own_lt {w : World} {ty : TypeId} {sz : Nat} {v : Value} {n : Nat} {xs : List Value} (h : w.ownsRow 0 ty sz v n xs) {k : Nat} (hk : k ∈ ob v) : k < w.heap.size := (h.lt k (ob_mem.1 hk)).2
theorem Yb.mem_rows {b : Yb} {k : Nat} : k ∈ b.rows ↔ ∃ i, i < 6 ∧ k ∈ ob (b.F i) := by simp [Yb.rows]
theorem Yb.mem_owns {b : Yb} {k : Nat} : k ∈ b.owns ↔ ∃ x ∈ b.own, k ∈ ob x.val := by simp [Yb.owns]
theorem Yb.mem_hot {b : Yb} {kb k : Nat} : k ∈ b.hot kb ↔ k = kb ∨ (∃ i, i < 6 ∧ k ∈ ob (b.F i)) ∨ ∃ x ∈ b.own, k ∈ ob x.val := by simp only [Yb.hot, List.mem_cons, List.mem_append, Yb.mem_rows, Yb.mem_owns]
theorem YbM.hot_lt {w : World} {Z : Nat → Prop} {kb : Nat} {b : Yb} (h : YbM w Z kb b) {k : Nat} (hk : k ∈ b.hot kb) : k < w.heap.size := by
  rcases Yb.mem_hot.1 hk with rfl | ⟨i, hi, hk⟩ | ⟨x, hx, hk⟩
  · exact h.bx.lt
  · exact own_lt (h.row i hi) hk
  · exact own_lt (h.cw x hx).1 hk
theorem YbM.cold_lt {w : World} {Z : Nat → Prop} {kb : Nat} {b : Yb} (h : YbM w Z kb b) {k : Nat} (hk : b.cold k) : k < w.heap.size := by
  obtain ⟨x, hx, hk⟩ := hk
  exact YS.ok_lt (h.cc x hx) hk
theorem own_kept {w w' : World} {ty : TypeId} {sz : Nat} {v : Value} {n : Nat} {xs : List Value} (h : w.ownsRow 0 ty sz v n xs) (hb : ∀ k ∈ ob v, w'.heap[k]? = w.heap[k]?) : w'.ownsRow 0 ty sz v n xs :=
  ownsRow_keep h fun k hk _ => hb k (ob_mem.2 hk)
/-- nothing of its own has changed -/
theorem YbM.kept {w w' : World} {Z Z' : Nat → Prop} {kb : Nat} {b : Yb} (h : YbM w Z kb b) (hs : w.heap.size ≤ w'.heap.size) (hb : ∀ k, k ∈ b.hot kb ∨ b.cold k → w'.heap[k]? = w.heap[k]?) (hz : ∀ k, k < w.heap.size → Z' k → Z k) (hl : ∀ k, Z' k → k < w'.heap.size) : YbM w' Z' kb b :=
  ⟨h.bx.kept (hb kb (.inl (Yb.mem_hot.2 (.inl rfl)))), fun i hi => own_kept (h.row i hi) fun k hk => hb k (.inl (Yb.mem_hot.2 (.inr (.inl ⟨i, hi, hk⟩)))), fun x hx => YS.ok_kept (h.cc x hx) hs fun k hk _ => hb k (.inr ⟨x, hx, hk⟩),
    fun x hx => ⟨own_kept (h.cw x hx).1 fun k hk => hb k (.inl (Yb.mem_hot.2 (.inr (.inr ⟨x, hx, hk⟩)))), (h.cw x hx).2⟩, h.d1, h.d2, h.d3, h.d4, h.d5, h.hc, fun k hk e => h.zh k hk (hz k (h.hot_lt hk) e), fun k hk e => h.zc k hk (hz k (h.cold_lt hk) e), hl⟩
theorem YbM.below {w w' : World} {Z : Nat → Prop} {kb : Nat} {b : Yb} (h : YbM w Z kb b) (hb : Below w.heap.size w w') : YbM w' Z kb b :=
  h.kept hb.size (fun k hk => hb.block k (hk.elim h.hot_lt h.cold_lt)) (fun _ _ e => e) fun k hk => Nat.lt_of_lt_of_le (h.zl k hk) hb.size
theorem YbM.more {w w' : World} {Z : Nat → Prop} {kb : Nat} {b : Yb} (h : YbM w Z kb b) (hb : Below w.heap.size w w') : YbM w' (fun k => Z k ∨ (w.heap.size ≤ k ∧ k < w'.heap.size)) kb b :=
  h.kept hb.size (fun k hk => hb.block k (hk.elim h.hot_lt h.cold_lt)) (fun k hl e => e.elim id fun e => absurd e.1 (by omega)) fun k hk => hk.elim (fun e => Nat.lt_of_lt_of_le (h.zl k e) hb.size) fun e => e.2
theorem YbM.z {w : World} {Z Z' : Nat → Prop} {kb : Nat} {b : Yb} (h : YbM w Z kb b) (hz : ∀ k, Z' k → Z k) : YbM w Z' kb b := h.kept (Nat.le_refl _) (fun _ _ => rfl) (fun k _ e => hz k e) fun k e => h.zl k (hz k e)
/-- what a book's rows tell: the lists that are out, what they hold, the lists that wait, what they hold -/
structure YbL (b : Yb) (outs told waits notes : List YS) (marks lefts : List Int) : Prop where
  x0 : b.X 0 = outs.map YS.val
  x1 : b.X 1 = told.map YS.val
  x2 : b.X 2 = waits.map YS.val
  x3 : b.X 3 = notes.map YS.val
  x4 : b.X 4 = ints marks
  x5 : b.X 5 = ints lefts
  so : told.map YS.zs = outs.map YS.zs
  sn : notes.map YS.zs = waits.map YS.zs
  lm : marks.length = waits.length
  ll : lefts.length = waits.length
  lp : ∀ l ∈ lefts, 1 ≤ l ∧ l ≤ 9
  mp : ∀ m ∈ marks, -1000000000 ≤ m ∧ m ≤ 1000000000
  ow : b.own = waits
  rd : ∀ x, x ∈ outs ∨ x ∈ told ∨ x ∈ notes → x ∈ b.rd
  le : outs.length + 2 * waits.length ≤ 2 * b.sn.toNat
  s0 : 0 ≤ b.sn ∧ b.sn ≤ 1000000
def YbI (w : World) (Z : Nat → Prop) (kb : Nat) (b : Yb) (outs told waits notes : List YS) (marks lefts : List Int) : Prop := YbM w Z kb b ∧ YbL b outs told waits notes marks lefts
end Go.Proofs.Ytbeibhmbaofjhaa
