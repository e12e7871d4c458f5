import Derived.Test.YtgnamngnmbaeeaaDoorLkA
import Derived.Lib.SliceRun
import Derived.Deep.DeepCutAuto
import Derived.WalkMore
namespace Go.Proofs.YtgnamngnmbaeeaaDoor
open Go.RowKit
set_option maxRecDepth 8000
/-- a list of bytes somewhere -/
structure BS where
  p : Option Addr
  c : Nat
  zs : List Int
def BS.val (x : BS) : Value := .slice x.p x.zs.length x.c
def BS.In (w : World) (S : Nat → Prop) (x : BS) : Prop := Byts w S x.p x.zs.length x.c (fun j => x.zs.getD j 0)
theorem BS.In.kept {w w' : World} {S : Nat → Prop} {x : BS} (h : x.In w S) (hs : w.heap.size ≤ w'.heap.size) (hb : ∀ b, S b → b < w.heap.size → w'.heap[b]? = w.heap[b]?) : x.In w' S := Byts.kept h hs hb
theorem BS.In.mono {w : World} {S S' : Nat → Prop} {x : BS} (h : x.In w S) (hb : ∀ b, S b → b < w.heap.size → S' b) : x.In w S' := Byts.mono h hb
theorem BS.In.below {w w' : World} {S : Nat → Prop} {x : BS} (h : x.In w S) (hb : Below w.heap.size w w') : x.In w' S := BS.In.kept h hb.size fun b _ hl => hb.block b hl
theorem BS.In.byte {w : World} {S : Nat → Prop} {x : BS} (h : x.In w S) : ∀ z ∈ x.zs, 0 ≤ z ∧ z < 256 := fun z hz => by
  obtain ⟨i, hi, e⟩ := List.mem_iff_getElem.1 hz
  have := h.fit i hi
  simp only [List.getD_eq_getElem?_getD, List.getElem?_eq_getElem hi, e, Option.getD_some] at this
  exact this
theorem BS.In.nn {w : World} {S : Nat → Prop} {x : BS} (h : x.In w S) : x.zs.length ≤ 140737488355328 := Byts.nn h
/-- its bytes, as package frame's texts read them -/
theorem BS.In.bytes {w : World} {S : Nat → Prop} {x : BS} (h : x.In w S) : Bytes w x.p x.zs := by
  refine ⟨fun hn => ?_, h.byte⟩
  obtain ⟨b, o, e, _, hl, ha⟩ := Byts.at_ h hn
  exact ⟨b, o, e, hl, ha⟩
theorem BS.In.bsrc {w : World} {S : Nat → Prop} {x : BS} (h : x.In w S) : Src w x.p x.zs.length x.c 1 (x.zs.map (.int .u8)) := by
  have h1 := Byts.src h
  have e : ((List.range x.zs.length).map fun j => Value.int .u8 (x.zs.getD j 0)) = x.zs.map (.int .u8) := by
    apply List.ext_getElem
    · simp
    · intro i h1 h2
      simp only [List.length_map, List.length_range] at h1
      simp [List.getD_eq_getElem?_getD, List.getElem?_eq_getElem h1]
  rw [e] at h1
  exact h1
/-- out of package frame's words -/
theorem own_in {base : Nat} {w : World} {p : Option Addr} {c : Nat} {zs : List Int} (h : OwnB base w p c zs) (hn : zs.length ≤ 140737488355328) (hc : c ≤ maxLen) : BS.In w (fun k => base ≤ k ∧ (∀ g, p = some g → k = g.block)) ⟨p, c, zs⟩ := by
  have hb := h.bytes
  refine ⟨fun hz => ?_, h.cap.1, hn, hc, fun j hj => ?_, fun hp => ?_⟩
  · obtain ⟨b, o, hp, hl, ha⟩ := hb.at_ hz
    refine ⟨b, o, hp, ⟨?_, fun g hg => ?_⟩, hl, ha⟩
    · have h1 := h.1
      rcases h1.2 with ⟨hv, h0⟩ | ⟨g, cap, cur, hv, hg, _⟩
      · have hz' : 0 < zs.length := hz
        omega
      · have hp' : p = some ⟨b, o, none⟩ := hp
        rw [hp'] at hv
        simp only [Value.slice.injEq, Option.some.injEq, Addr.mk.injEq] at hv
        rw [hv.1.1]; exact hg
    · have hp' : p = some ⟨b, o, none⟩ := hp
      rw [hp'] at hg
      rw [← Option.some.inj hg]
  · have := hb.byte (zs.getD j 0) (by
      have hj' : j < zs.length := hj
      rw [List.getD_eq_getElem?_getD, List.getElem?_eq_getElem hj', Option.getD_some]
      exact List.getElem_mem hj')
    exact this
  · have hp' : p = none := hp
    obtain ⟨h1, h2⟩ := h.nil hp'
    exact ⟨by show zs.length = 0; rw [h1]; rfl, h2⟩
def elBS : El BS where
  ty := 36
  size := 1
  cells := fun x => [x.val]
  len := fun _ => rfl
  one := fun x u hu => by simp only [List.mem_singleton] at hu; subst hu; rfl
  In := fun w S x => x.In w S
  kept := fun h hs hb => h.kept hs hb
  mono := fun h hb => h.mono hb
theorem kindBB : ∃ i, Kind 29 36 i (.slice none 0 0) 1 24 := by
  have h : (Tryd.prog.info? 36).map (fun i => (i.zero, i.size, i.bytes)) = some (some (.slice none 0 0), 1, 24) := by kernel_rfl
  obtain ⟨i, hi, he⟩ := Option.map_eq_some_iff.1 h
  simp only [Prod.mk.injEq] at he
  exact ⟨i, Tryd.underlying29, hi, he.1, he.2.1, he.2.2, rfl, by decide⟩
/-- a row of lists of bytes, from some place of a block on -/
def RowQ (w : World) (v : Value) (X : List Value) : Prop := (v = .slice none 0 0 ∧ X = []) ∨ ∃ g o cap cur, v = .slice (some ⟨g, o, none⟩) X.length cap ∧ Box w g cur 36 ∧ X.length ≤ cap ∧ o + cap ≤ cur.size ∧ cap ≤ maxLen ∧ (cur.toList.drop o).take X.length = X
theorem RowQ.nil (w : World) : RowQ w (.slice none 0 0) [] := .inl ⟨rfl, rfl⟩
theorem RowQ.slice {w : World} {v : Value} {X : List Value} (h : RowQ w v X) : ∃ p c, v = .slice p X.length c := by
  rcases h with ⟨h1, h2⟩ | ⟨g, o, cap, cur, h1, _⟩
  · exact ⟨none, 0, by rw [h1, h2]; rfl⟩
  · exact ⟨_, _, h1⟩
theorem RowQ.kept {w w' : World} {v : Value} {X : List Value} (h : RowQ w v X) (hb : ∀ g, v.ownBlock = some g → g < w.heap.size → w'.heap[g]? = w.heap[g]?) : RowQ w' v X := by
  rcases h with h | ⟨g, o, cap, cur, h1, h2, h3⟩
  · exact .inl h
  · exact .inr ⟨g, o, cap, cur, h1, (hb g (by rw [h1]; rfl) h2.lt).trans h2, h3⟩
theorem RowQ.lt {w : World} {v : Value} {X : List Value} (h : RowQ w v X) {g : Nat} (hg : v.ownBlock = some g) : g < w.heap.size ∧ ∃ cur, Box w g cur 36 := by
  rcases h with ⟨h1, _⟩ | ⟨g', o, cap, cur, h1, h2, _⟩
  · rw [h1] at hg; cases hg
  · rw [h1] at hg
    obtain rfl : g' = g := by simpa [Value.ownBlock] using hg
    exact ⟨h2.lt, cur, h2⟩
theorem RowQ.at_ {w : World} {v : Value} {X : List Value} (h : RowQ w v X) {j : Nat} {u : Value} (hj : X[j]? = some u) : ∃ g o cap, v = .slice (some ⟨g, o, none⟩) X.length cap ∧ g < w.heap.size ∧ w.cell? ⟨g, o + j, none⟩ = some u ∧ (∀ i, w.frozen? ⟨g, i, none⟩ = false) ∧ X.length ≤ cap := by
  rcases h with ⟨_, h2⟩ | ⟨g, o, cap, cur, h1, h2, h3, h4, h5, h6⟩
  · rw [h2] at hj; cases hj
  · refine ⟨g, o, cap, h1, h2.lt, ?_, fun i => h2.frozen i, h3⟩
    have hjl : j < X.length := (List.getElem?_eq_some_iff.1 hj).1
    rw [h2.cell, ← hj]
    have : ((cur.toList.drop o).take X.length)[j]? = cur.toList[o + j]? := by rw [List.getElem?_take, if_pos hjl, List.getElem?_drop]
    rw [h6] at this
    rw [this]
    simp
end Go.Proofs.YtgnamngnmbaeeaaDoor

namespace Go.Proofs.YtgnamngnmbaeeaaDoor
open Go.RowKit
set_option maxRecDepth 8000
/-- cells of a block laid one behind the other -/
theorem box_cells {b : Nat} {e : TypeId} : ∀ (vs : List Value) (o : Nat) (w : World) (cs : Array Value), Box w b cs e → ∃ cs', Box (w.setCells b o vs) b cs' e ∧ cs'.size = cs.size ∧ (∀ j, (j < o ∨ o + vs.length ≤ j) → cs'[j]? = cs[j]?) ∧ ∀ (j : Nat) u, vs[j]? = some u → o + j < cs.size → cs'[o + j]? = some u
  | [], o, w, cs, h => ⟨cs, h, rfl, fun _ _ => rfl, fun j u hu => by simp at hu⟩
  | v :: r, o, w, cs, h => by
    obtain ⟨cs', h1, h2, h3, h4⟩ := box_cells r (o + 1) _ _ (h.set o v)
    have hs : (cs.setIfInBounds o v).size = cs.size := by simp
    refine ⟨cs', h1, by omega, fun j hj => ?_, fun j u hu hjs => ?_⟩
    · rw [List.length_cons] at hj
      rw [h3 j (by omega), Array.getElem?_setIfInBounds, if_neg (by omega)]
    · cases j with
      | zero =>
        simp only [List.getElem?_cons_zero, Option.some.injEq] at hu
        subst hu
        rw [Nat.add_zero, h3 _ (by omega), Array.getElem?_setIfInBounds, if_pos rfl, if_pos (by omega)]
      | succ j =>
        simp only [List.getElem?_cons_succ] at hu
        have := h4 j u hu (by omega)
        rw [show o + (j + 1) = o + 1 + j by omega]
        exact this
theorem but_cells (b : Nat) : ∀ (vs : List Value) (o : Nat) (w : World), But (fun k => k = b) w (w.setCells b o vs)
  | [], _, _ => But.refl _ _
  | v :: r, o, w => ((But.one w b).setAt o v).trans (but_cells b r (o + 1) _)
theorem But.grow {w w' : World} {v : Value} (h : w.grownBy w' v.ownBlock) : But (fun k => v.ownBlock = some k) w w' :=
  ⟨h.os, h.tape, h.output, h.size, fun k hk hn => h.block k hk fun e => hn e.symm⟩
theorem row_q {w : World} {base n : Nat} {v : Value} {X : List Value} (h : w.ownsRow base 36 1 v n X) : RowQ w v X := by
  obtain ⟨hl, h1 | ⟨g, cap, cur, hv, _, hh, hn, hm, hc, ht⟩⟩ := h
  · obtain ⟨h1, h2⟩ := h1
    exact .inl ⟨h1, List.eq_nil_of_length_eq_zero (by omega)⟩
  · refine .inr ⟨g, 0, cap, cur, by rw [hv, hl, Nat.mul_one], hh, by omega, by omega, hm, ?_⟩
    rw [List.drop_zero, hl]
    exact ht
/-- one more list -/
theorem run_appQ (w : World) (ty : TypeId) {v : Value} {X : List Value} (h : RowQ w v X) (ad : Addr) (c : Nat) (x : Value) (hx : w.cell? ad = some x) (h1 : x.oneCell' = true)
    (h63 : (X.length + 1) * 24 ≤ 140737488355328) :
    ∃ v' w', (Builtin.append_ #[29, 29] ty #[v, .slice (some ad) 1 c]).run Tryd.prog w = .ok v' w' ∧ RowQ w' v' (X ++ [x]) ∧ w.grownBy w' v.ownBlock ∧ Near w v v' := by
  obtain ⟨i, Kd⟩ := kindBB
  obtain ⟨ht, hi, hz0, hz1, hz2, hzs, hsz⟩ := Kd
  have hnews : ∀ (j : Nat) u, [x][j]? = some u → w.cell? (ad.add j) = some u := fun j u hu => by
    cases j with
    | zero => simp at hu; subst hu; exact hx
    | succ j => simp at hu
  have h1' : ∀ u ∈ [x], u.oneCell' = true := fun u hu => by simp at hu; subst hu; exact h1
  have hm63 : X.length + 1 ≤ maxLen := by unfold maxLen; omega
  rcases h with ⟨hv, h0⟩ | ⟨g, o, cap, cur, hv, hbx, hnc, hoc, hcm, htake⟩
  · subst hv h0
    obtain ⟨v', w', hrun, r1, r2, _⟩ := run_append_own (P := Tryd.prog) w w.heap.size 29 ty 36 i _ 1 24 ht hi hz0 hz1 hz2 hzs hsz (.slice none 0 0) 0 [] (World.ownsRow_nil w _ 36 1) ad 1 c [x] rfl hnews h1' (by unfold maxLen; omega) (by simp) (Nat.le_refl _)
    exact ⟨v', w', hrun, row_q r1, r2, .inr fun g hg => (r1.lt g hg).1⟩
  · subst hv
    by_cases hroom : X.length + 1 ≤ cap
    · have hr := run_append_room_cells (P := Tryd.prog) w 29 ty 36 i ht hi g o X.length cap ad 1 c [x] (by rw [hz1]; rfl) hnews h1' hroom (fun j hj => by
        simp at hj; subst hj
        rw [hz1, Nat.mul_one, Nat.add_zero, hbx.cell, Array.getElem?_eq_getElem (by omega)]
        rfl) (fun j _ => hbx.frozen _)
      rw [hz1, Nat.mul_one] at hr
      obtain ⟨cs', b1, b2, b3, b4⟩ := box_cells [x] (o + X.length) w cur hbx
      refine ⟨_, _, hr, .inr ⟨g, o, cap, cs', by simp, b1, by simpa using hroom, by omega, hcm, ?_⟩, ?_, .inl rfl⟩
      · apply List.ext_getElem?
        intro j
        rw [List.length_append, List.length_singleton, List.getElem?_take]
        by_cases hj : j < X.length + 1
        · rw [if_pos hj, List.getElem?_drop, Array.getElem?_toList]
          by_cases hj2 : j < X.length
          · rw [b3 _ (by omega), List.getElem?_append_left hj2]
            have h5 : ((cur.toList.drop o).take X.length)[j]? = cur.toList[o + j]? := by rw [List.getElem?_take, if_pos hj2, List.getElem?_drop]
            rw [htake] at h5
            rw [h5, Array.getElem?_toList]
          · obtain rfl : j = X.length := by omega
            have h5 := b4 0 x rfl (by omega)
            rw [Nat.add_zero] at h5
            rw [h5, List.getElem?_append_right (Nat.le_refl _), Nat.sub_self]
            rfl
        · rw [if_neg hj, List.getElem?_eq_none (by simp; omega)]
      · have hb := but_cells g [x] (o + X.length) w
        exact ⟨hb.os, hb.tape, hb.output, hb.size, fun k hk hn => hb.block k hk fun e => hn (by rw [e]; rfl)⟩
    · obtain ⟨v', w', hrun, r1, r2⟩ := run_append_arg_grows (P := Tryd.prog) w 29 ty 36 i _ 1 24 ht hi hz0 hz1 hz2 hzs hsz ⟨g, o, none⟩ X.length cap X (by omega) (fun j u hu => by
        rw [Go.WideShapes.add_plain, hbx.cell, ← hu]
        have hjl : j < X.length := (List.getElem?_eq_some_iff.1 hu).1
        have h5 : ((cur.toList.drop o).take X.length)[j]? = cur.toList[o + j]? := by rw [List.getElem?_take, if_pos hjl, List.getElem?_drop]
        rw [htake] at h5
        rw [h5, Array.getElem?_toList]) ad 1 c [x] rfl hnews (by omega) hm63 (by omega)
      exact ⟨v', w', hrun, row_q r1, grownBy_any r2 _, .inr fun g hg => (r1.lt g hg).1⟩
theorem step_appQ {ops : Array Oper} {o : Oper} {a : Act} {w : World} {K : Act → World → Prop} {Q : Exit → Act → World → Prop} {E : Prop}
    (hgd : o.guard = none) (s x : Operand) (hop : o.op = Op.call { callee := Callee.builtin Builtin.append, args := #[s, x], argTypes := #[29, 29] })
    (v : Value) (X : List Value) (hs : a.eval s = v) (hown : RowQ w v X)
    (ad : Addr) (c : Nat) (y : Value) (hx : a.eval x = .slice (some ad) 1 c) (hy : w.cell? ad = some y) (h1 : y.oneCell' = true)
    (h63 : (X.length + 1) * 24 ≤ 140737488355328)
    (hK : ∀ v' w', RowQ w' v' (X ++ [y]) → w.grownBy w' v.ownBlock → Near w v v' → K (a.put o.dst v') w') :
    if Region.wanted o (yielded ops a.tmps) = true then Oper.wp Tryd.prog o a w K Q else E := by
  have hw : Region.wanted o (yielded ops a.tmps) = true := by simp [Region.wanted, hgd]
  rw [if_pos hw]
  obtain ⟨v', w', hrun, r1, r2, r3⟩ := run_appQ w o.type hown ad c y hy h1 h63
  unfold Oper.wp
  simp [execOp, hop, resolve, invoke, builtin, hs, hx, hrun, Result.andThen]
  exact hK v' w' r1 r2 r3
/-- the first k lists are cut off -/
theorem RowQ.cut {w : World} {g o cap : Nat} {X : List Value} {cur : Array Value} (hbx : Box w g cur 36) (hnc : X.length ≤ cap) (hoc : o + cap ≤ cur.size) (hcm : cap ≤ maxLen) (ht : (cur.toList.drop o).take X.length = X) {k : Nat} (hk : k ≤ X.length) (o' : Nat) (ho : o' = o + k ∨ (o' = o ∧ cap - k = 0)) :
    RowQ (w.setCells g o (List.replicate k (.slice none 0 0))) (.slice (some ⟨g, o', none⟩) (X.length - k) (cap - k)) (X.drop k) := by
  obtain ⟨cs', b1, b2, b3, b4⟩ := box_cells (List.replicate k (.slice none 0 0)) o w cur hbx
  rw [List.length_replicate] at b3
  refine .inr ⟨g, o', cap - k, cs', by rw [List.length_drop], b1, by rw [List.length_drop]; omega, by omega, by omega, ?_⟩
  rw [List.length_drop]
  rcases ho with rfl | ⟨rfl, h0⟩
  · apply List.ext_getElem?
    intro j
    rw [List.getElem?_take, List.getElem?_drop]
    by_cases hj : j < X.length - k
    · rw [if_pos hj, List.getElem?_drop, Array.getElem?_toList, b3 _ (by omega)]
      have h5 : ((cur.toList.drop o).take X.length)[k + j]? = cur.toList[o + (k + j)]? := by rw [List.getElem?_take, if_pos (by omega), List.getElem?_drop]
      rw [ht] at h5
      rw [h5, Array.getElem?_toList, Nat.add_assoc]
    · rw [if_neg hj, List.getElem?_eq_none (by rw [List.length_drop] at *; omega)]
  · have : X.length - k = 0 := by omega
    rw [this, List.take_zero, List.drop_eq_nil_of_le (by omega)]
end Go.Proofs.YtgnamngnmbaeeaaDoor

namespace Go.Proofs.YtgnamngnmbaeeaaDoor
open Go.RowKit
set_option maxRecDepth 8000
/-- what a packet says -/
structure Let where
  kd : Int
  ln : Nat
  nu : Nat
  wd : Nat
  ms : List Int
def pcs0 (lb : Nat) : Array Value := #[.pointer (some ⟨lb, 1, none⟩), .int .i64 0, .int .i64 23, .pointer (some ⟨lb, 2, none⟩), .int .i64 1, .int .i64 1073741824, .pointer none, .int .i64 0, .int .i64 4096]
def pcs1 (lb : Nat) : Array Value := #[.pointer (some ⟨lb, 1, none⟩), .int .i64 0, .int .i64 23, .pointer (some ⟨lb, 2, none⟩), .int .i64 0, .int .i64 1073741825, .pointer (some ⟨lb, 3, none⟩), .int .i64 0, .int .i64 1073741824, .pointer none, .int .i64 0, .int .i64 0]
set_option maxHeartbeats 4000000 in
theorem pieces_data (w : World) (lb : Nat) (h : w.cell? ⟨lb, 0, none⟩ = some (.int .u8 68)) :
    Calls Tryd.prog 69 #[.pointer (some ⟨lb, 0, none⟩)] w fun e w' => ∃ g, e = .returned (.slice (some ⟨g, 0, none⟩) 3 3) ∧ w.heap.size ≤ g ∧ Box w' g (pcs0 lb) 129 ∧ Below w.heap.size w w' := by
  have hl : lb < w.heap.size := World.block_lt_of_cell? _ _ (by rw [h])
  obtain ⟨V, hV⟩ : ∃ V, V = w.alloc (.cells #[.pointer (some ⟨lb, 1, none⟩), .int .i64 0, .int .i64 23] 129) := ⟨_, rfl⟩
  have hX : Box V w.heap.size #[.pointer (some ⟨lb, 1, none⟩), .int .i64 0, .int .i64 23] 129 := by rw [hV]; exact Box.new _ _ _
  have hB : Below w.heap.size w V := by rw [hV]; exact (Below.refl _ _).alloc (Nat.le_refl _) _
  have h2 : V.cell? ⟨lb, 0, none⟩ = some (.int .u8 68) := (World.cell?_of_block (hB.block lb hl)).trans h
  have HV := hid hV
  have HB := hid hB
  clear hV hB h
  go_enter Tryd.func69, Tryd.ntmps69
  go_upto_region 2 with fail
  rw [← HV.out]
  obtain ⟨tb, htb⟩ : ∃ tb, tb = w.heap.size := ⟨_, rfl⟩
  rw [← htb] at hX ⊢
  have HT := hid htb
  have x0 := hX.cell 0
  have x1 := hX.cell 1
  have x2 := hX.cell 2
  have xl := hX.lt
  simp at x0 x1 x2
  clear hX htb
  go_upto_region 4 with fail
  refine wp_region_calmE 30 (fun wx => Below V.heap.size V wx) [(0, false), (1, true), (2, true), (3, true), (4, true), (5, true)] (.one 6 true [(7, true)] .done) (by kernel_rfl) (by kernel_rfl) (Below.refl _ _).drew ?_
  refine wpPre_e rfl rfl (fun K1 hK1 => ?_)
  apply Exists.intro
  refine And.intro (fun wx hx => ?_) ?_
  · have e0 := below_fact hx rfl x0
    have e1 := below_fact hx rfl x1
    have e2 := below_fact hx rfl x2
    go_simp
    try rfl
  go_simp
  refine hK1 _ ?_
  clear hK1 K1
  refine wpPre_e rfl rfl (fun K1 hK1 => ?_)
  apply Exists.intro
  refine And.intro (fun wx hx => ?_) ?_
  · go_simp
    try rfl
  go_simp
  refine hK1 _ ?_
  clear hK1 K1
  refine wpPre_e rfl rfl (fun K1 hK1 => ?_)
  apply Exists.intro
  refine And.intro (fun wx hx => ?_) ?_
  · go_simp
    try rfl
  go_simp
  refine hK1 _ ?_
  clear hK1 K1
  refine wpPre_e rfl rfl (fun K1 hK1 => ?_)
  apply Exists.intro
  refine And.intro (fun wx hx => ?_) ?_
  · go_simp
    try rfl
  go_simp
  refine hK1 _ ?_
  clear hK1 K1
  refine wpPre_e rfl rfl (fun K1 hK1 => ?_)
  apply Exists.intro
  refine And.intro (fun wx hx => ?_) ?_
  · go_simp
    try rfl
  go_simp
  refine hK1 _ ?_
  clear hK1 K1
  refine wpPre_e rfl rfl (fun K1 hK1 => ?_)
  apply Exists.intro
  refine And.intro (fun wx hx => ?_) ?_
  · go_simp
    try rfl
  go_simp
  refine hK1 _ ?_
  clear hK1 K1
  refine wpPre_nil ?_
  refine wpTr_e rfl (fun K1 hK1 => ?_)
  go_simp
  refine hK1 _ _ (fun _ => ((Below.refl _ _).drew).alloc (Nat.le_refl _) _) ?_
  clear hK1 K1
  refine wpPre_e rfl rfl (fun K1 hK1 => ?_)
  apply Exists.intro
  refine And.intro (fun wx hx => ?_) ?_
  · go_simp
    try rfl
  go_simp
  refine hK1 _ ?_
  clear hK1 K1
  refine wpPre_nil ?_
  refine wpTr_done ?_
  go_wp2
  exact bodyPost_ret (v := .slice (some ⟨V.drew.heap.size, 0, none⟩) 3 3) (by simp [results, Tryd.results69, go_sem]) rfl ⟨V.drew.heap.size, rfl, HB.out.size, Box.new _ _ _, (HB.out.drew).alloc (HB.out.size) _⟩
set_option maxHeartbeats 4000000 in
theorem pieces_ans (w : World) (lb : Nat) (h : w.cell? ⟨lb, 0, none⟩ = some (.int .u8 65)) :
    Calls Tryd.prog 69 #[.pointer (some ⟨lb, 0, none⟩)] w fun e w' => ∃ g, e = .returned (.slice (some ⟨g, 0, none⟩) 4 4) ∧ w.heap.size ≤ g ∧ Box w' g (pcs1 lb) 129 ∧ Below w.heap.size w w' := by
  have hl : lb < w.heap.size := World.block_lt_of_cell? _ _ (by rw [h])
  obtain ⟨V, hV⟩ : ∃ V, V = w.alloc (.cells #[.pointer (some ⟨lb, 1, none⟩), .int .i64 0, .int .i64 23] 129) := ⟨_, rfl⟩
  have hX : Box V w.heap.size #[.pointer (some ⟨lb, 1, none⟩), .int .i64 0, .int .i64 23] 129 := by rw [hV]; exact Box.new _ _ _
  have hB : Below w.heap.size w V := by rw [hV]; exact (Below.refl _ _).alloc (Nat.le_refl _) _
  have h2 : V.cell? ⟨lb, 0, none⟩ = some (.int .u8 65) := (World.cell?_of_block (hB.block lb hl)).trans h
  have HV := hid hV
  have HB := hid hB
  clear hV hB h
  go_enter Tryd.func69, Tryd.ntmps69
  go_upto_region 2 with fail
  rw [← HV.out]
  obtain ⟨tb, htb⟩ : ∃ tb, tb = w.heap.size := ⟨_, rfl⟩
  rw [← htb] at hX ⊢
  have HT := hid htb
  have x0 := hX.cell 0
  have x1 := hX.cell 1
  have x2 := hX.cell 2
  have xl := hX.lt
  simp at x0 x1 x2
  clear hX htb
  go_upto_region 6 with fail
  refine wp_region_calmE 30 (fun wx => Below V.heap.size V wx) [(0, false), (1, true), (2, true), (3, true), (4, true), (5, true), (6, true), (7, true), (8, true), (9, true)] (.one 10 true [(11, true)] .done) (by kernel_rfl) (by kernel_rfl) (Below.refl _ _).drew ?_
  refine wpPre_e rfl rfl (fun K1 hK1 => ?_)
  apply Exists.intro
  refine And.intro (fun wx hx => ?_) ?_
  · have e0 := below_fact hx rfl x0
    have e1 := below_fact hx rfl x1
    have e2 := below_fact hx rfl x2
    go_simp
    try rfl
  go_simp
  refine hK1 _ ?_
  clear hK1 K1
  refine wpPre_e rfl rfl (fun K1 hK1 => ?_)
  apply Exists.intro
  refine And.intro (fun wx hx => ?_) ?_
  · go_simp
    try rfl
  go_simp
  refine hK1 _ ?_
  clear hK1 K1
  refine wpPre_e rfl rfl (fun K1 hK1 => ?_)
  apply Exists.intro
  refine And.intro (fun wx hx => ?_) ?_
  · go_simp
    try rfl
  go_simp
  refine hK1 _ ?_
  clear hK1 K1
  refine wpPre_e rfl rfl (fun K1 hK1 => ?_)
  apply Exists.intro
  refine And.intro (fun wx hx => ?_) ?_
  · go_simp
    try rfl
  go_simp
  refine hK1 _ ?_
  clear hK1 K1
  refine wpPre_e rfl rfl (fun K1 hK1 => ?_)
  apply Exists.intro
  refine And.intro (fun wx hx => ?_) ?_
  · go_simp
    try rfl
  go_simp
  refine hK1 _ ?_
  clear hK1 K1
  refine wpPre_e rfl rfl (fun K1 hK1 => ?_)
  apply Exists.intro
  refine And.intro (fun wx hx => ?_) ?_
  · go_simp
    try rfl
  go_simp
  refine hK1 _ ?_
  clear hK1 K1
  refine wpPre_e rfl rfl (fun K1 hK1 => ?_)
  apply Exists.intro
  refine And.intro (fun wx hx => ?_) ?_
  · go_simp
    try rfl
  go_simp
  refine hK1 _ ?_
  clear hK1 K1
  refine wpPre_e rfl rfl (fun K1 hK1 => ?_)
  apply Exists.intro
  refine And.intro (fun wx hx => ?_) ?_
  · go_simp
    try rfl
  go_simp
  refine hK1 _ ?_
  clear hK1 K1
  refine wpPre_e rfl rfl (fun K1 hK1 => ?_)
  apply Exists.intro
  refine And.intro (fun wx hx => ?_) ?_
  · go_simp
    try rfl
  go_simp
  refine hK1 _ ?_
  clear hK1 K1
  refine wpPre_e rfl rfl (fun K1 hK1 => ?_)
  apply Exists.intro
  refine And.intro (fun wx hx => ?_) ?_
  · go_simp
    try rfl
  go_simp
  refine hK1 _ ?_
  clear hK1 K1
  refine wpPre_nil ?_
  refine wpTr_e rfl (fun K1 hK1 => ?_)
  go_simp
  refine hK1 _ _ (fun _ => ((Below.refl _ _).drew).alloc (Nat.le_refl _) _) ?_
  clear hK1 K1
  refine wpPre_e rfl rfl (fun K1 hK1 => ?_)
  apply Exists.intro
  refine And.intro (fun wx hx => ?_) ?_
  · go_simp
    try rfl
  go_simp
  refine hK1 _ ?_
  clear hK1 K1
  refine wpPre_nil ?_
  refine wpTr_done ?_
  go_wp2
  exact bodyPost_ret (v := .slice (some ⟨V.drew.heap.size, 0, none⟩) 4 4) (by simp [results, Tryd.results69, go_sem]) rfl ⟨V.drew.heap.size, rfl, HB.out.size, Box.new _ _ _, (HB.out.drew).alloc (HB.out.size) _⟩
set_option maxHeartbeats 4000000 in
theorem pieces_none (w : World) (lb : Nat) (k : Int) (h : w.cell? ⟨lb, 0, none⟩ = some (.int .u8 k)) (h1 : k ≠ 68) (h2 : k ≠ 65) :
    Calls Tryd.prog 69 #[.pointer (some ⟨lb, 0, none⟩)] w fun e w' => e = .returned (.slice none 0 0) ∧ Below w.heap.size w w' := by
  have hl : lb < w.heap.size := World.block_lt_of_cell? _ _ (by rw [h])
  obtain ⟨V, hV⟩ : ∃ V, V = w.alloc (.cells #[.pointer (some ⟨lb, 1, none⟩), .int .i64 0, .int .i64 23] 129) := ⟨_, rfl⟩
  have hB : Below w.heap.size w V := by rw [hV]; exact (Below.refl _ _).alloc (Nat.le_refl _) _
  have h2' : V.cell? ⟨lb, 0, none⟩ = some (.int .u8 k) := (World.cell?_of_block (hB.block lb hl)).trans h
  have e1 : (k == 68) = false := by simpa using h1
  have e2 : (k == 65) = false := by simpa using h2
  have HV := hid hV
  have HB := hid hB
  clear hV hB h h1 h2
  go_enter Tryd.func69, Tryd.ntmps69
  go_upto_region 2 with fail
  rw [← HV.out]
  go_wp2
  exact bodyPost_ret (v := .slice none 0 0) (by simp [results, Tryd.results69, go_sem]) rfl ⟨rfl, HB.out⟩
end Go.Proofs.YtgnamngnmbaeeaaDoor
