import Derived.Test.YtbeibhmbaofjhaaUaD
import Derived.Deep.AppendSrc
import Derived.Deep.Upon
namespace Go.Proofs.Ytbeibhmbaofjhaa
open Go.RowKit
set_option maxRecDepth 8000
/-- nothing is appended -/
theorem step_appN {ops : Array Oper} {o : Oper} {a : Act} {w : World} {K : Act → World → Prop} {Q : Exit → Act → World → Prop} {E : Prop}
    (hgd : o.guard = none) (s x : Operand) (hop : o.op = Op.call { callee := Callee.builtin Builtin.append, args := #[s, x], argTypes := #[29, 29] })
    (base : Option Addr) (n cap : Nat) (hle : n ≤ cap) (px : Option Addr) (m cx : Nat) (hs : a.eval s = .slice base n cap) (hx : a.eval x = .slice px m cx) (hm : m = 0) (hpx : ∃ ad, px = some ad)
    (hK : K (a.put o.dst (.slice base n cap)) w) :
    if Region.wanted o (yielded ops a.tmps) = true then Oper.wp Try.prog o a w K Q else E := by
  have hw : Region.wanted o (yielded ops a.tmps) = true := by simp [Region.wanted, hgd]
  rw [if_pos hw]
  subst hm
  obtain ⟨px, rfl⟩ := hpx
  obtain ⟨i, Kd⟩ := kindFl
  have hsrc : Go.Src Try.prog i.size 29 (.slice (some px) 0 cx) 0 [] w := Go.Src.ofSlice w Kd.ht px 0 cx [] (by simp) (fun j u hu => by simp at hu) (fun u hu => by cases hu)
  have hrun := run_append_nothing (P := Try.prog) w 29 29 o.type 53 i Kd.ht Kd.hi base n cap hle _ hsrc
  unfold Oper.wp
  simp [execOp, hop, resolve, invoke, builtin, hs, hx, hrun, Result.andThen]
  exact hK
/-- a row without room is laid anew with what is appended -/
theorem step_appG {ops : Array Oper} {o : Oper} {a : Act} {w : World} {K : Act → World → Prop} {Q : Exit → Act → World → Prop} {E : Prop}
    (hgd : o.guard = none) (s x : Operand) (hop : o.op = Op.call { callee := Callee.builtin Builtin.append, args := #[s, x], argTypes := #[29, 29] })
    (g n : Nat) (olds : List Value) (hs : a.eval s = .slice (some ⟨g, 0, none⟩) n n) (hlo : olds.length = n * 3) (holds : ∀ j u, olds[j]? = some u → w.cell? ((⟨g, 0, none⟩ : Addr).add j) = some u)
    (ad : Addr) (m c : Nat) (news : List Value) (hx : a.eval x = .slice (some ad) m c) (hl : news.length = m * 3) (hnews : ∀ j u, news[j]? = some u → w.cell? (ad.add j) = some u)
    (hm : 0 < m) (h63 : n + m ≤ 1099511627776)
    (hK : ∀ v' w', w'.ownsRow w.heap.size 53 3 v' (n + m) (olds ++ news) → w.grownBy w' none → K (a.put o.dst v') w') :
    if Region.wanted o (yielded ops a.tmps) = true then Oper.wp Try.prog o a w K Q else E := by
  have hw : Region.wanted o (yielded ops a.tmps) = true := by simp [Region.wanted, hgd]
  rw [if_pos hw]
  obtain ⟨i, Kd⟩ := kindFl
  obtain ⟨ht, hi, hz0, hz1, hz2, hzs, hsz⟩ := Kd
  obtain ⟨v', w', hrun, r1, r2⟩ := run_append_arg_grows (P := Try.prog) w 29 o.type 53 i _ 3 40 ht hi hz0 hz1 hz2 hzs hsz ⟨g, 0, none⟩ n n olds hlo holds ad m c news hl hnews (by omega) (by unfold maxLen; omega) (by omega)
  unfold Oper.wp
  simp [execOp, hop, resolve, invoke, builtin, hs, hx, hrun, Result.andThen]
  exact hK v' w' r1 r2
/-- a flight is struck out of the row -/
def cutW (w : World) (g i : Nat) : World := ((w.setCell ⟨g, i * 3, none⟩ (.int .i64 0)).setCell ⟨g, i * 3 + 1, none⟩ (.int .i64 0)).setCell ⟨g, i * 3 + 2, none⟩ (.slice none 0 0)
theorem cutW_but (w : World) (g i : Nat) : But (fun k => k = g) w (cutW w g i) := (((But.one w g).setAt (i * 3) _).setAt (i * 3 + 1) _).setAt (i * 3 + 2) _
theorem cutW_box {w : World} {g i : Nat} {cur : Array Value} (h : Box w g cur 53) : ∃ cur', Box (cutW w g i) g cur' 53 ∧ cur'.size = cur.size ∧ ∀ j, (j < i * 3 ∨ (i + 1) * 3 ≤ j) → cur'[j]? = cur[j]? := by
  refine ⟨_, ((h.set (i * 3) _).set (i * 3 + 1) _).set (i * 3 + 2) _, by simp, fun j hj => ?_⟩
  rw [Array.getElem?_setIfInBounds_ne (by omega), Array.getElem?_setIfInBounds_ne (by omega), Array.getElem?_setIfInBounds_ne (by omega)]
theorem flat3_take (L : List FL) (i : Nat) : (L.flatMap FL.cells).take (i * 3) = (L.take i).flatMap FL.cells := by
  induction L generalizing i with
  | nil => simp
  | cons x L ih =>
    cases i with
    | zero => simp
    | succ i =>
      rw [List.flatMap_cons, List.take_succ_cons, List.flatMap_cons, ← ih i, List.take_append]
      have h1 : x.cells.length = 3 := rfl
      rw [h1, List.take_of_length_le (by rw [h1]; omega), show (i + 1) * 3 - 3 = i * 3 by omega]
theorem flat3_drop (L : List FL) (i : Nat) : (L.flatMap FL.cells).drop (i * 3) = (L.drop i).flatMap FL.cells := by
  induction L generalizing i with
  | nil => simp
  | cons x L ih =>
    cases i with
    | zero => simp
    | succ i =>
      rw [List.flatMap_cons, List.drop_succ_cons, ← ih i, List.drop_append]
      have h1 : x.cells.length = 3 := rfl
      rw [h1, List.drop_of_length_le (by rw [h1]; omega), show (i + 1) * 3 - 3 = i * 3 by omega]
      simp
/-- one is out -/
theorem EtI.out {w w3 : World} {Z : Nat → Prop} {b : Nat} {m : Int} {v v' : Value} {L : List FL} {i g : Nat} (hI : EtI w Z b m v L) (hZ : ∀ k, Z k → k < w.heap.size) (hg : v.ownBlock = some g)
    (hB : But (fun k => k = g) w w3) (ho : RowX w3 v' (L.eraseIdx i).length ((L.eraseIdx i).flatMap FL.cells)) (hn : v'.ownBlock = some g ∨ ∀ k, v'.ownBlock = some k → w.heap.size ≤ k) :
    EtI (w3.setCell ⟨b, 1, none⟩ v') Z b m v' (L.eraseIdx i) ∧ Fr Z w (w3.setCell ⟨b, 1, none⟩ v') := by
  have hgb : g ≠ b := fun e => hI.ne_row (by rw [← e]; exact hg)
  have hbx3 : Box w3 b #[.int .i64 m, v] 65 := hI.bx.but hB (fun e => hgb e.symm)
  have hbl := hI.bx.lt
  have hne : ∀ k, k ≠ b → (w3.setCell ⟨b, 1, none⟩ v').heap[k]? = w3.heap[k]? := fun k hk => Below.heap_setCell _ _ _ _ (by simpa using hk)
  have hv'b : v'.ownBlock ≠ some b := by
    intro e
    rcases hn with h1 | h1
    · rw [h1] at e; cases e; exact hgb rfl
    · have := h1 b e; omega
  have hmem : ∀ x, x ∈ L.eraseIdx i → x ∈ L := fun x hx => (List.eraseIdx_sublist L i).subset hx
  refine ⟨⟨?_, ?_, ?_, hI.pw.sublist (List.eraseIdx_sublist L i), ?_, ?_, fun x hx => hI.sz x (hmem x hx), fun x hx => hI.by_ x (hmem x hx)⟩, ?_⟩
  · have h := hbx3.set 1 v'
    simpa using h
  · exact ho.kept fun g' hg' _ => hne g' (fun e => hv'b (by rw [← e]; exact hg'))
  · intro x hx
    have hx' := hmem x hx
    have hd := hI.ne_dat hx'
    exact ((hI.dat x hx').but hB (fun e => hd.2 (by rw [e]; exact hg))).kept (hne _ hd.1)
  · rintro k (rfl | hk | ⟨x, hx, rfl⟩)
    · exact hI.z _ (.inl rfl)
    · intro hz
      rcases hn with h1 | h1
      · rw [h1] at hk; cases hk; exact hI.z g (.inr (.inl hg)) hz
      · have := h1 k hk
        have := hZ k hz
        omega
    · exact hI.z _ (.inr (.inr ⟨x, hmem x hx, rfl⟩))
  · have h1 := (List.eraseIdx_sublist L i).length_le
    have := hI.len
    omega
  · have h2 : But (fun k => ¬ Z k) w w3 := hB.mono fun k _ e => by
      have e' : k = g := e
      rw [e']
      exact hI.z g (.inr (.inl hg))
    exact h2.setCell (p := ⟨b, 1, none⟩) (fun _ => hI.z b (.inl rfl)) v'
def CutQ (w : World) (Z : Nat → Prop) (b : Nat) (m : Int) (A : List FA) (i : Nat) (e : Ending) (w' : World) : Prop := e = .returned (.tuple #[]) ∧ EtA w' Z b m (A.eraseIdx i) ∧ Fr Z w w'
theorem map_erase (L : List FL) (i : Nat) : (L.eraseIdx i).map FL.a = (L.map FL.a).eraseIdx i := by
  rw [List.eraseIdx_eq_take_drop_succ, List.eraseIdx_eq_take_drop_succ]
  simp
set_option maxHeartbeats 4000000 in
/-- cut -/
theorem cut_any (w : World) (Z : Nat → Prop) (b : Nat) (m : Int) (A : List FA) (hA : EtA w Z b m A) (hZ : ∀ k, Z k → k < w.heap.size) (i : Nat) (hi : i < A.length) :
    Calls Try.prog 36 #[.pointer (some ⟨b, 0, none⟩), .int .i64 (i : Int)] w fun e w' => CutQ w Z b m A i e w' := by
  obtain ⟨v, L, hI, rfl⟩ := hA
  rw [List.length_map] at hi
  have hlen := hI.len
  obtain ⟨x, hx⟩ : ∃ x, L[i]? = some x := ⟨_, List.getElem?_eq_getElem hi⟩
  obtain ⟨g, cap, hv, hcap, hgl, c0, c1, c2, hf⟩ := hI.get hx
  have hgb : g ≠ b := fun e => hI.ne_row (by rw [hv, ← e]; rfl)
  obtain ⟨cur, hcur, hcs, htk⟩ : ∃ cur, Box w g cur 53 ∧ cap * 3 ≤ cur.size ∧ cur.toList.take (L.length * 3) = L.flatMap FL.cells := by
    rcases hI.row.at_ with ⟨h1, _⟩ | ⟨g', cap', cur, h1, h2, _, _, h4, h5⟩
    · rw [hv] at h1; cases h1
    · rw [hv] at h1
      cases h1
      exact ⟨cur, h2, h4, h5⟩
  obtain ⟨cur', hcur', hcs', hget⟩ := cutW_box (i := i) hcur
  have hbt := cutW_but w g i
  obtain ⟨V, hV⟩ : ∃ V, V = cutW w g i := ⟨_, rfl⟩
  rw [← hV] at hcur' hbt
  have HW : Hid (V = ((w.setCell ⟨g, i * 3, none⟩ (.int .i64 0)).setCell ⟨g, i * 3 + 1, none⟩ (.int .i64 0)).setCell ⟨g, i * 3 + 2, none⟩ (.slice none 0 0)) := hV
  have hbxV := hI.bx.but hbt (fun e => hgb e.symm)
  rw [hv] at hbxV
  have b1 := hbxV.cell 1
  simp at b1
  have bf := hbxV.frozen 1
  have bl := hbxV.lt
  have b1w := hI.bx.cell 1
  simp [hv] at b1w
  have blw := hI.bx.lt
  have f0 := hf (i * 3)
  have f1 := hf (i * 3 + 1)
  have f2 := hf (i * 3 + 2)
  have hcell' : ∀ (q : Nat) u, (q < i * 3 ∨ (i + 1) * 3 ≤ q) → (L.flatMap FL.cells)[q]? = some u → V.cell? ⟨g, q, none⟩ = some u := by
    intro q u hq hu
    rw [hcur'.cell, hget q hq, ← hu, ← htk]
    have hql : q < L.length * 3 := by
      rw [← flat3_len]
      rcases Nat.lt_or_ge q (L.flatMap FL.cells).length with h1 | h1
      · exact h1
      · rw [List.getElem?_eq_none h1] at hu; cases hu
    rw [List.getElem?_take, if_pos hql]
    simp
  have HOl : Hid (((L.take i).flatMap FL.cells).length = i * 3 ∧ ∀ wx : World, wx.heap = V.heap → ∀ j u, ((L.take i).flatMap FL.cells)[j]? = some u → wx.cell? ((⟨g, 0, none⟩ : Addr).add j) = some u) := by
    refine ⟨by rw [flat3_len, List.length_take, Nat.min_eq_left (by omega)], fun wx hwx j u hu => ?_⟩
    rw [Go.WideShapes.add_plain, Nat.zero_add]
    have hj : j < i * 3 := by
      have h1 : ((L.take i).flatMap FL.cells).length = i * 3 := by rw [flat3_len, List.length_take, Nat.min_eq_left (by omega)]
      rcases Nat.lt_or_ge j (i * 3) with h2 | h2
      · exact h2
      · rw [List.getElem?_eq_none (by omega)] at hu; cases hu
    rw [← flat3_take, List.getElem?_take, if_pos hj] at hu
    have := hcell' j u (.inl hj) hu
    rw [← this]
    simp [World.cell?, hwx]
  have HNw : Hid (((L.drop (i + 1)).flatMap FL.cells).length = (L.length - (i + 1)) * 3 ∧ ∀ wx : World, wx.heap = V.heap → ∀ j u, ((L.drop (i + 1)).flatMap FL.cells)[j]? = some u → wx.cell? ((⟨g, (i + 1) * 3, none⟩ : Addr).add j) = some u) := by
    refine ⟨by rw [flat3_len, List.length_drop], fun wx hwx j u hu => ?_⟩
    rw [Go.WideShapes.add_plain]
    rw [← flat3_drop, List.getElem?_drop] at hu
    have := hcell' _ u (.inr (by omega)) hu
    rw [← this]
    simp [World.cell?, hwx]
  have HI := hid hI
  have HZ := hid hZ
  have HBt := hid hbt
  have HVv := hid hv
  have HRow : Hid (i + 1 = L.length → RowX V (.slice (some ⟨g, 0, none⟩) i i) (L.eraseIdx i).length ((L.eraseIdx i).flatMap FL.cells)) := fun he => by
    have e1 : L.eraseIdx i = L.take i := by rw [List.eraseIdx_eq_take_drop_succ, List.drop_of_length_le (by omega), List.append_nil]
    have e2 : (L.take i).length = i := by rw [List.length_take]; omega
    rw [e1, e2]
    refine ⟨by rw [flat3_len, e2], .inr ⟨g, i, cur', rfl, hcur', Nat.le_refl _, by unfold maxLen; omega, by omega, ?_⟩⟩
    rw [← flat3_take, ← htk]
    apply List.ext_getElem?
    intro j
    simp only [List.getElem?_take]
    by_cases hj : j < i * 3
    · rw [if_pos hj, if_pos hj, if_pos (by omega)]
      have := hget j (.inl hj)
      simpa using this
    · rw [if_neg hj, if_neg hj]
  have hii : (i : Int) < (L.length : Int) := by omega
  have hcap' : (L.length : Int) ≤ (cap : Int) := by omega
  have hic : i ≤ cap := by omega
  have hwr : IntKind.i64.wrap ((i : Int) + 1) = (i : Int) + 1 := by rw [IntKind.wrap_i64]; omega
  have hi1 : (i : Int) + 1 ≤ (L.length : Int) := by omega
  have hi0 : (0 : Int) ≤ (i : Int) + 1 := by omega
  have hi2 : ((i : Int) + 1).toNat = i + 1 := by omega
  have HL63 : Hid (i + (L.length - (i + 1)) ≤ 1099511627776) := by show _ ≤ _; omega
  clear hI hZ hbt hV hcur hcur' htk hget hcell' hbxV hx hf hcs hcs' hv hlen
  by_cases hlast : i + 1 = L.length
  · have HL0 := hid hlast
    have HL : Hid (L.length - (i + 1) = 0) := by show _ = _; omega
    have HD : Hid (∃ ad, (if cap = i + 1 then some (⟨g, 0, none⟩ : Addr) else some ⟨g, (i + 1) * 3, none⟩) = some ad) := by
      show ∃ _, _
      split
      · exact ⟨_, rfl⟩
      · exact ⟨_, rfl⟩
    clear hlast
    go_enter Try.func36, Try.ntmps36
    go_upto_region 1 with fail
    rw [← HW.out]
    refine wp_region_calmE 30 (fun wx => Below V.heap.size V wx) [(0, true), (1, true), (2, true), (3, true), (4, false), (5, true), (6, true), (7, true), (8, true), (9, true), (10, true), (11, false), (12, true), (13, true), (14, true)] (.one 15 false [(16, true), (17, true)] (.one 18 false [] .done)) (by kernel_rfl) (by kernel_rfl) (Below.refl _ _).drew ?_
    refine wpPre_e rfl rfl (fun K1 hK1 => ?_)
    apply Exists.intro
    refine And.intro (fun wx hx => ?_) ?_
    · go_simp
      try rfl
    go_simp
    refine hK1 _ ?_
    clear hK1 K1
    refine wpPre_e rfl rfl (fun K1 hK1 => ?_)
    apply Exists.intro
    refine And.intro (fun wx hx => ?_) ?_
    · go_simp
      try rfl
    go_simp
    refine hK1 _ ?_
    clear hK1 K1
    refine wpPre_e rfl rfl (fun K1 hK1 => ?_)
    apply Exists.intro
    refine And.intro (fun wx hx => ?_) ?_
    · go_simp
      try rfl
    go_simp
    refine hK1 _ ?_
    clear hK1 K1
    refine wpPre_e rfl rfl (fun K1 hK1 => ?_)
    apply Exists.intro
    refine And.intro (fun wx hx => ?_) ?_
    · go_simp
      try rfl
    go_simp
    refine hK1 _ ?_
    clear hK1 K1
    refine wpPre_e rfl rfl (fun K1 hK1 => ?_)
    apply Exists.intro
    refine And.intro (fun wx hx => ?_) ?_
    · have e0 := below_fact hx rfl b1
      go_simp
      try rfl
    go_simp
    refine hK1 _ ?_
    clear hK1 K1
    refine wpPre_e rfl rfl (fun K1 hK1 => ?_)
    apply Exists.intro
    refine And.intro (fun wx hx => ?_) ?_
    · go_simp
      try rfl
    go_simp
    refine hK1 _ ?_
    clear hK1 K1
    refine wpPre_e rfl rfl (fun K1 hK1 => ?_)
    apply Exists.intro
    refine And.intro (fun wx hx => ?_) ?_
    · go_simp
      try rfl
    go_simp
    refine hK1 _ ?_
    clear hK1 K1
    refine wpPre_e rfl rfl (fun K1 hK1 => ?_)
    apply Exists.intro
    refine And.intro (fun wx hx => ?_) ?_
    · go_simp
      try rfl
    go_simp
    refine hK1 _ ?_
    clear hK1 K1
    refine wpPre_e rfl rfl (fun K1 hK1 => ?_)
    apply Exists.intro
    refine And.intro (fun wx hx => ?_) ?_
    · go_simp
      try rfl
    go_simp
    refine hK1 _ ?_
    clear hK1 K1
    refine wpPre_e rfl rfl (fun K1 hK1 => ?_)
    apply Exists.intro
    refine And.intro (fun wx hx => ?_) ?_
    · go_simp
      try rfl
    go_simp
    refine hK1 _ ?_
    clear hK1 K1
    refine wpPre_e rfl rfl (fun K1 hK1 => ?_)
    apply Exists.intro
    refine And.intro (fun wx hx => ?_) ?_
    · go_simp
      try rfl
    go_simp
    refine hK1 _ ?_
    clear hK1 K1
    refine wpPre_e rfl rfl (fun K1 hK1 => ?_)
    apply Exists.intro
    refine And.intro (fun wx hx => ?_) ?_
    · have e0 := below_fact hx rfl b1
      go_simp
      try rfl
    go_simp
    refine hK1 _ ?_
    clear hK1 K1
    refine wpPre_e rfl rfl (fun K1 hK1 => ?_)
    apply Exists.intro
    refine And.intro (fun wx hx => ?_) ?_
    · go_simp
      try rfl
    go_simp
    refine hK1 _ ?_
    clear hK1 K1
    refine wpPre_e rfl rfl (fun K1 hK1 => ?_)
    apply Exists.intro
    refine And.intro (fun wx hx => ?_) ?_
    · go_simp
      try rfl
    go_simp
    refine hK1 _ ?_
    clear hK1 K1
    refine wpPre_e rfl rfl (fun K1 hK1 => ?_)
    apply Exists.intro
    refine And.intro (fun wx hx => ?_) ?_
    · go_simp
      try rfl
    go_simp
    refine hK1 _ ?_
    clear hK1 K1
    refine wpPre_nil ?_
    refine wpTr_e rfl (fun K1 hK1 => ?_)
    refine step_appN rfl (.tmp 18) (.tmp 25) rfl (some ⟨g, 0, none⟩) i i (Nat.le_refl _) _ _ _ rfl rfl HL.out HD.out ?_
    go_simp
    refine hK1 _ _ (fun h => by cases h) ?_
    clear hK1 K1
    refine wpPre_e rfl rfl (fun K1 hK1 => ?_)
    apply Exists.intro
    refine And.intro (fun wx hx => ?_) ?_
    · go_simp
      try rfl
    go_simp
    refine hK1 _ ?_
    clear hK1 K1
    refine wpPre_e rfl rfl (fun K1 hK1 => ?_)
    apply Exists.intro
    refine And.intro (fun wx hx => ?_) ?_
    · go_simp
      try rfl
    go_simp
    refine hK1 _ ?_
    clear hK1 K1
    refine wpPre_nil ?_
    refine wpTr_e rfl (fun K1 hK1 => ?_)
    go_simp
    refine hK1 _ _ (fun h => by cases h) ?_
    clear hK1 K1
    refine wpPre_nil ?_
    refine wpTr_done ?_
    go_wp2
    all_goals
      refine bodyPost_ret (v := .tuple #[]) (by simp [results, Try.results36, go_sem]) rfl ⟨rfl, ?_⟩
      have h := EtI.out (i := i) HI.out HZ.out (by rw [HVv.out]; rfl) HBt.out (HRow.out HL0.out) (.inl rfl)
      exact ⟨⟨_, _, h.1.kept (fun _ _ => rfl) h.1.z, map_erase L i⟩, But.drew h.2⟩
  · have hc : ¬ cap = i + 1 := by omega
    have HM : Hid (0 < L.length - (i + 1)) := by show _ < _; omega
    clear hlast
    go_enter Try.func36, Try.ntmps36
    go_upto_region 1 with fail
    rw [← HW.out]
    refine wp_region_calmE 30 (fun wx => Below V.heap.size V wx) [(0, true), (1, true), (2, true), (3, true), (4, false), (5, true), (6, true), (7, true), (8, true), (9, true), (10, true), (11, false), (12, true), (13, true), (14, true)] (.one 15 false [(16, true), (17, true)] (.one 18 false [] .done)) (by kernel_rfl) (by kernel_rfl) (Below.refl _ _).drew ?_
    refine wpPre_e rfl rfl (fun K1 hK1 => ?_)
    apply Exists.intro
    refine And.intro (fun wx hx => ?_) ?_
    · go_simp
      try rfl
    go_simp
    refine hK1 _ ?_
    clear hK1 K1
    refine wpPre_e rfl rfl (fun K1 hK1 => ?_)
    apply Exists.intro
    refine And.intro (fun wx hx => ?_) ?_
    · go_simp
      try rfl
    go_simp
    refine hK1 _ ?_
    clear hK1 K1
    refine wpPre_e rfl rfl (fun K1 hK1 => ?_)
    apply Exists.intro
    refine And.intro (fun wx hx => ?_) ?_
    · go_simp
      try rfl
    go_simp
    refine hK1 _ ?_
    clear hK1 K1
    refine wpPre_e rfl rfl (fun K1 hK1 => ?_)
    apply Exists.intro
    refine And.intro (fun wx hx => ?_) ?_
    · go_simp
      try rfl
    go_simp
    refine hK1 _ ?_
    clear hK1 K1
    refine wpPre_e rfl rfl (fun K1 hK1 => ?_)
    apply Exists.intro
    refine And.intro (fun wx hx => ?_) ?_
    · have e0 := below_fact hx rfl b1
      go_simp
      try rfl
    go_simp
    refine hK1 _ ?_
    clear hK1 K1
    refine wpPre_e rfl rfl (fun K1 hK1 => ?_)
    apply Exists.intro
    refine And.intro (fun wx hx => ?_) ?_
    · go_simp
      try rfl
    go_simp
    refine hK1 _ ?_
    clear hK1 K1
    refine wpPre_e rfl rfl (fun K1 hK1 => ?_)
    apply Exists.intro
    refine And.intro (fun wx hx => ?_) ?_
    · go_simp
      try rfl
    go_simp
    refine hK1 _ ?_
    clear hK1 K1
    refine wpPre_e rfl rfl (fun K1 hK1 => ?_)
    apply Exists.intro
    refine And.intro (fun wx hx => ?_) ?_
    · go_simp
      try rfl
    go_simp
    refine hK1 _ ?_
    clear hK1 K1
    refine wpPre_e rfl rfl (fun K1 hK1 => ?_)
    apply Exists.intro
    refine And.intro (fun wx hx => ?_) ?_
    · go_simp
      try rfl
    go_simp
    refine hK1 _ ?_
    clear hK1 K1
    refine wpPre_e rfl rfl (fun K1 hK1 => ?_)
    apply Exists.intro
    refine And.intro (fun wx hx => ?_) ?_
    · go_simp
      try rfl
    go_simp
    refine hK1 _ ?_
    clear hK1 K1
    refine wpPre_e rfl rfl (fun K1 hK1 => ?_)
    apply Exists.intro
    refine And.intro (fun wx hx => ?_) ?_
    · go_simp
      try rfl
    go_simp
    refine hK1 _ ?_
    clear hK1 K1
    refine wpPre_e rfl rfl (fun K1 hK1 => ?_)
    apply Exists.intro
    refine And.intro (fun wx hx => ?_) ?_
    · have e0 := below_fact hx rfl b1
      go_simp
      try rfl
    go_simp
    refine hK1 _ ?_
    clear hK1 K1
    refine wpPre_e rfl rfl (fun K1 hK1 => ?_)
    apply Exists.intro
    refine And.intro (fun wx hx => ?_) ?_
    · go_simp
      try rfl
    go_simp
    refine hK1 _ ?_
    clear hK1 K1
    refine wpPre_e rfl rfl (fun K1 hK1 => ?_)
    apply Exists.intro
    refine And.intro (fun wx hx => ?_) ?_
    · go_simp
      try rfl
    go_simp
    refine hK1 _ ?_
    clear hK1 K1
    refine wpPre_e rfl rfl (fun K1 hK1 => ?_)
    apply Exists.intro
    refine And.intro (fun wx hx => ?_) ?_
    · go_simp
      try rfl
    go_simp
    refine hK1 _ ?_
    clear hK1 K1
    refine wpPre_nil ?_
    refine wpTr_e rfl (fun K1 hK1 => ?_)
    refine step_appG rfl (.tmp 18) (.tmp 25) rfl g i _ rfl HOl.out.1 (HOl.out.2 _ rfl) ⟨g, (i + 1) * 3, none⟩ (L.length - (i + 1)) (cap - (i + 1)) _ rfl HNw.out.1 (HNw.out.2 _ rfl) HM.out HL63.out ?_
    intro v3 w3 ho hg
    obtain ⟨p3, c3, hv3⟩ := ownsRow_slice ho
    subst hv3
    have HO := hid ho
    have HG := hid hg
    have e0 : w3.cell? ⟨b, 1, none⟩ = some (.slice (some ⟨g, 0, none⟩) L.length cap) := (World.cell?_of_block (a := ⟨b, 1, none⟩) (HG.out.block b bl (by simp))).trans b1
    have e1 : w3.frozen? ⟨b, 1, none⟩ = false := (World.frozen?_of_block (a := ⟨b, 1, none⟩) (HG.out.block b bl (by simp))).trans bf
    have e2 : b < w3.heap.size := Nat.lt_of_lt_of_le bl HG.out.size
    clear ho hg
    go_simp
    refine hK1 _ _ (fun h => by cases h) ?_
    clear hK1 K1
    refine wpPre_e rfl rfl (fun K1 hK1 => ?_)
    apply Exists.intro
    refine And.intro (fun wx hx => ?_) ?_
    · go_simp
      try rfl
    go_simp
    refine hK1 _ ?_
    clear hK1 K1
    refine wpPre_e rfl rfl (fun K1 hK1 => ?_)
    apply Exists.intro
    refine And.intro (fun wx hx => ?_) ?_
    · go_simp
      try rfl
    go_simp
    refine hK1 _ ?_
    clear hK1 K1
    refine wpPre_nil ?_
    refine wpTr_e rfl (fun K1 hK1 => ?_)
    go_simp
    refine hK1 _ _ (fun h => by cases h) ?_
    clear hK1 K1
    refine wpPre_nil ?_
    refine wpTr_done ?_
    go_wp2
    refine bodyPost_ret (v := .tuple #[]) (by simp [results, Try.results36, go_sem]) rfl ⟨rfl, ?_⟩
    have e1 : L.eraseIdx i = L.take i ++ L.drop (i + 1) := List.eraseIdx_eq_take_drop_succ L i
    have e2 : (L.eraseIdx i).length = i + (L.length - (i + 1)) := by rw [e1, List.length_append, List.length_take, List.length_drop, Nat.min_eq_left (by omega)]
    have hr : RowX w3 (.slice p3 (i + (L.length - (i + 1))) c3) (L.eraseIdx i).length ((L.eraseIdx i).flatMap FL.cells) := by
      rw [e2, e1, List.flatMap_append]
      exact RowX.own HO.out
    have hb : But (fun k => k = g) w w3 := HBt.out.drew.grown HG.out (fun k hk => by cases hk)
    have h := EtI.out (i := i) HI.out HZ.out (by rw [HVv.out]; rfl) hb hr (.inr fun k hk => Nat.le_trans HBt.out.size (HO.out.lt k hk).1)
    exact ⟨⟨_, _, h.1, map_erase L i⟩, h.2⟩
end Go.Proofs.Ytbeibhmbaofjhaa
