import Derived.Test.YtdncnnjhfipokabPack5
import Derived.Test.YtdncnnjhfipokabPack0
import Derived.Test.YtdncnnjhfipokabPack6
namespace Go.Proofs.Ytdncnnjhfipokab
open Go.RowKit
set_option maxRecDepth 8000
theorem step_appS {ops : Array Oper} {o : Oper} {a : Act} {w : World} {K : Act → World → Prop} {Q : Exit → Act → World → Prop} {E : Prop}
    (hgd : o.guard = none) (s x : Operand) (t e : TypeId) (i : TypeInfo) (z : Value) (size bytes : Nat) (Kd : Kind t e i z size bytes) (hop : o.op = Op.call { callee := Callee.builtin Builtin.append, args := #[s, x], argTypes := #[t, t] })
    (base : Nat) (v : Value) (n : Nat) (xs : List Value) (hs : a.eval s = v) (hown : w.ownsRow base e size v n xs)
    (p : Option Addr) (m c : Nat) (news : List Value) (hx : a.eval x = .slice p m c) (hsrc : Src w p m c size news) (h1 : ∀ u ∈ news, u.oneCell' = true)
    (h63 : n + m ≤ 140737488355328) (hbytes : (n + m) * bytes ≤ 140737488355328) (hbase : base ≤ w.heap.size)
    (hK : ∀ v' w', w'.ownsRow base e size v' (n + m) (xs ++ news) → w.grownBy w' v.ownBlock → Near w v v' → K (a.put o.dst v') w') :
    if Region.wanted o (yielded ops a.tmps) = true then Oper.wp Try.prog o a w K Q else E := by
  rcases hsrc with ⟨rfl, rfl, rfl, rfl⟩ | ⟨ad, rfl, hl, hnews⟩
  · have hw : Region.wanted o (yielded ops a.tmps) = true := by simp [Region.wanted, hgd]
    rw [if_pos hw]
    have hrun := run_append_owned_none (P := Try.prog) (w := w) base t o.type e i size Kd.ht Kd.hi v n xs hown
    unfold Oper.wp
    simp [execOp, hop, resolve, invoke, builtin, hs, hx, hrun, Result.andThen]
    exact hK v w (by simpa using hown) ⟨rfl, rfl, rfl, Nat.le_refl _, fun _ _ _ => rfl⟩ (.inl rfl)
  · exact step_app hgd s x t e i z size bytes Kd hop base v n xs hs hown ad m c news hx hl hnews h1 h63 hbytes hbase hK
end Go.Proofs.Ytdncnnjhfipokab

namespace Go.Proofs.Ytdncnnjhfipokab
open Go.RowKit
set_option maxRecDepth 8000
def Bk.setLog (K : Bk) (i : Nat) (l : LT RT) : Bk := { K with lg := fun j => if j = i then l else K.lg j }
theorem Bk.lv_set (K : Bk) (i : Nat) (l : LT RT) : (K.setLog i l).lv i = .slice l.p l.n l.c := by simp [Bk.setLog, Bk.lv]
theorem Bk.lv_ne (K : Bk) {i j : Nat} (l : LT RT) (h : j ≠ i) : (K.setLog i l).lv j = K.lv j := by simp [Bk.setLog, Bk.lv, h]
theorem Bk.arr_set (K : Bk) {i : Nat} (hi : i < 4) (l : LT RT) : K.arr.setIfInBounds (12 + i) (.slice l.p l.n l.c) = (K.setLog i l).arr := by
  rcases (by omega : i = 0 ∨ i = 1 ∨ i = 2 ∨ i = 3) with rfl | rfl | rfl | rfl <;> simp [Bk.arr, Bk.setLog]
structure SetLog (w : World) (b : Nat) (K : Bk) (w' : World) (K' : Bk) : Prop where
  inv : BkI w' b K'
  but : But (K.C b) w w'
  cs : ∀ k, K'.C b k → K.C b k ∨ w.heap.size ≤ k
theorem BkI.lt {w : World} {b : Nat} {K : Bk} (h : BkI w b K) {k : Nat} (hk : K.C b k) : k < w.heap.size := by
  rcases hk with rfl | ⟨i, hi, e⟩
  · exact h.box.lt
  · exact ((h.own i hi).lt k e).2
theorem BkI.setLog {w w1 w2 : World} {b : Nat} {K : Bk} {i : Nat} {l : LT RT} (h : BkI w b K) (hi : i < 4) (hb : Below w.heap.size w w1) (ho : w2.ownsRow 0 38 6 (.slice l.p l.n l.c) l.n (rowsR l)) (hg : w1.grownBy w2 (K.lv i).ownBlock) (hn : Near w1 (K.lv i) (.slice l.p l.n l.c)) :
    SetLog w b K (w2.setCell ⟨b, 12 + i, none⟩ (.slice l.p l.n l.c)) (K.setLog i l) := by
  have h1 := h.below hb
  have hlt : ∀ k, K.C b k → k < w1.heap.size := fun k hk => Nat.lt_of_lt_of_le (h.lt hk) hb.size
  have hbx : Box w2 b K.arr 83 := h1.box.kept (hg.block b h1.box.lt (fun e => h.ne i hi e.symm))
  have hvb : (Value.slice l.p l.n l.c).ownBlock ≠ some b := fun e => by
    rcases hn with h2 | h2
    · exact h.ne i hi (h2 ▸ e)
    · have := h2 b e; have := h1.box.lt; omega
  have hset : ∀ k, k ≠ b → (w2.setCell ⟨b, 12 + i, none⟩ (.slice l.p l.n l.c)).heap[k]? = w2.heap[k]? := fun k hk => Below.heap_setCell _ _ _ _ hk
  refine ⟨⟨?_, fun j hj => ?_, fun j hj => ?_, fun j q hj hq hjq k hk => ?_, h.m0, h.m1, h.p0, h.p1, h.b0, h.b1, h.n0, h.n1, h.s0⟩, ?_, fun k hk => ?_⟩
  · have := hbx.set (12 + i) (.slice l.p l.n l.c)
    rwa [Bk.arr_set K hi l] at this
  · by_cases hji : j = i
    · subst hji
      rw [Bk.lv_set, show (K.setLog j l).lg j = l by simp [Bk.setLog]]
      exact ownsRow_keep ho fun k hk _ => hset k (fun e => hvb (e ▸ hk))
    · rw [Bk.lv_ne K l hji, show (K.setLog i l).lg j = K.lg j by simp [Bk.setLog, hji]]
      exact ownsRow_keep (ownsRow_keep (h1.own j hj) fun k hk hl => hg.block k hl (fun e => h.dis j i hj hi hji k hk e.symm)) fun k hk _ => hset k (fun e => h.ne j hj (e ▸ hk))
  · by_cases hji : j = i
    · subst hji; rw [Bk.lv_set]; exact hvb
    · rw [Bk.lv_ne K l hji]; exact h.ne j hj
  · have hold : ∀ j, j < 4 → ∀ k, (K.lv j).ownBlock = some k → k < w1.heap.size := fun j hj k e => hlt k (.inr ⟨j, hj, e⟩)
    by_cases hji : j = i
    · subst hji
      rw [Bk.lv_set] at hk
      rw [Bk.lv_ne K l (fun e => hjq e.symm)]
      rcases hn with h2 | h2
      · exact h.dis j q hj hq hjq k (h2 ▸ hk)
      · intro e; have := hold q hq k e; have := h2 k hk; omega
    · rw [Bk.lv_ne K l hji] at hk
      by_cases hqi : q = i
      · subst hqi
        rw [Bk.lv_set]
        rcases hn with h2 | h2
        · rw [h2]; exact h.dis j q hj hq hjq k hk
        · intro e; have := hold j hj k hk; have := h2 k e; omega
      · rw [Bk.lv_ne K l hqi]; exact h.dis j q hj hq hjq k hk
  · refine ((But.ofBelow hb).grown hg (fun k e _ => .inr ⟨i, hi, e⟩)).setCell (p := ⟨b, 12 + i, none⟩) (fun _ => .inl rfl) _
  · rcases hk with rfl | ⟨j, hj, e⟩
    · exact .inl (.inl rfl)
    · by_cases hji : j = i
      · subst hji
        rw [Bk.lv_set] at e
        rcases hn with h2 | h2
        · exact .inl (.inr ⟨j, hj, h2 ▸ e⟩)
        · exact .inr (Nat.le_trans hb.size (h2 k e))
      · rw [Bk.lv_ne K l hji] at e
        exact .inl (.inr ⟨j, hj, e⟩)
/-- a list with one item more, at another place -/
def LT.push {α : Type} (l : LT α) (p : Option Addr) (c : Nat) (u : α) : LT α := ⟨p, l.n + 1, c, fun q => if q < l.n then l.item q else u⟩
theorem rowsR_push (l : LT RT) (p : Option Addr) (c : Nat) (u : RT) : rowsR (l.push p c u) = rowsR l ++ elRec.cells u := by
  unfold rowsR LT.push
  simp only
  rw [List.range_succ, List.flatMap_append]
  congr 1
  · rw [List.flatMap_def, List.flatMap_def]
    congr 1
    apply List.map_congr_left
    intro j hj
    rw [if_pos (List.mem_range.1 hj)]
  · simp
/-- a list with other items behind it -/
def LT.join {α : Type} (l m : LT α) (p : Option Addr) (c : Nat) : LT α := ⟨p, l.n + m.n, c, fun q => if q < l.n then l.item q else m.item (q - l.n)⟩
theorem rowsR_join (l m : LT RT) (p : Option Addr) (c : Nat) : rowsR (l.join m p c) = rowsR l ++ rowsR m := by
  unfold rowsR LT.join
  simp only
  rw [List.range_add, List.flatMap_append]
  congr 1
  · rw [List.flatMap_def, List.flatMap_def]
    congr 1
    apply List.map_congr_left
    intro j hj
    rw [if_pos (List.mem_range.1 hj)]
  · rw [List.flatMap_map, List.flatMap_def, List.flatMap_def]
    congr 1
    apply List.map_congr_left
    intro j _
    rw [if_neg (by omega), show l.n + j - l.n = j by omega]
/-- the item's blocks stay apart from what changes -/
theorem RT.In.apart {w w1 w2 : World} {b : Nat} {K : Bk} {i : Nat} {l : LT RT} {u : RT} (h : BkI w b K) (hi : i < 4) (hu : RT.In w1 (fun k => w.heap.size ≤ k) u) (hg : w1.grownBy w2 (K.lv i).ownBlock) (hn : Near w1 (K.lv i) (.slice l.p l.n l.c)) :
    RT.In (w2.setCell ⟨b, 12 + i, none⟩ (.slice l.p l.n l.c)) (fun k => w.heap.size ≤ k ∧ ¬ (K.setLog i l).C b k) u := by
  have hu2 : RT.In w1 (fun k => (w.heap.size ≤ k ∧ ¬ (K.setLog i l).C b k)) u := hu.mono fun k hk hl => by
    refine ⟨hk, fun e => ?_⟩
    rcases e with rfl | ⟨j, hj, e⟩
    · have := h.box.lt; omega
    · by_cases hji : j = i
      · subst hji
        rw [Bk.lv_set] at e
        rcases hn with h2 | h2
        · have := ((h.own j hj).lt k (h2 ▸ e)).2; omega
        · have := h2 k e; omega
      · rw [Bk.lv_ne K l hji] at e
        have := ((h.own j hj).lt k e).2; omega
  refine (hu2.kept hg.size (fun k hk hl => hg.block k hl (fun e => ?_))).kept (by simp [World.setCell]) (fun k hk _ => Below.heap_setCell _ _ _ _ (fun e => ?_))
  · have := ((h.own i hi).lt k e.symm).2; omega
  · have := h.box.lt; simp only at e; omega
end Go.Proofs.Ytdncnnjhfipokab

namespace Go.Proofs.Ytdncnnjhfipokab
open Go.RowKit
set_option maxRecDepth 8000
/-- what Took answers -/
def Bk.tookE (K : Bk) (x : Int) : Int := if K.has x = false then 132 else if K.held x = true then 134 else 0
/-- is a record that is taken laid in the log? -/
def Bk.lays (K : Bk) (x : Int) : Bool := K.has x && !K.held x && K.cp && (K.st x.toNat == 0)
structure TookQ (x : Int) (r : RT) (w : World) (b : Nat) (K : Bk) (w' : World) (K' : Bk) : Prop where
  s : SetLog w b K w' K'
  n : K.lays x = false → K' = K
  y : K.lays x = true → ∃ u p c, RT.Alike r u ∧ RT.In w' (fun k => w.heap.size ≤ k ∧ ¬ K'.C b k) u ∧ K' = K.setLog x.toNat ((K.lg x.toNat).push p c u)
def TookP (x : Int) (r : RT) (w : World) (b : Nat) (K : Bk) (e : Ending) (w' : World) : Prop := ∃ K', e = .returned (.int .i64 (K.tookE x)) ∧ TookQ x r w b K w' K'
theorem SetLog.same {w w' : World} {b : Nat} {K : Bk} (h : BkI w b K) (hb : Below w.heap.size w w') : SetLog w b K w' K := ⟨h.below hb, But.ofBelow hb, fun _ hk => .inl hk⟩
theorem kindRs : ∃ i, Kind 39 38 i (.agg #[.string ⟨#[]⟩, .int .i64 0, .int .i64 0, .string ⟨#[]⟩, .slice none 0 0, .slice none 0 0]) 6 96 := kindLR
set_option maxHeartbeats 4000000 in
theorem took_any (x : Int) (r : RT) (w : World) (S : Nat → Prop) (b : Nat) (K : Bk) (hI : BkI w b K) (hin : RT.In w S r) (hr : r.size ≤ 10000) (hn : ∀ i, i < 4 → (K.lg i).n ≤ 1000000000) :
    Calls Try.prog 20 #[.pointer (some ⟨b, 0, none⟩), .int .i64 x, .agg #[.string r.key, .int .i64 r.v.kind, .int .i64 r.v.int, .string r.v.text, .slice r.v.p r.v.n r.v.c, .slice r.p r.n r.c]] w fun e w' => TookP x r w b K e w' := by
  obtain ⟨W, hW⟩ : ∃ W, W = w.alloc (.cells #[.string r.key, .int .i64 r.v.kind, .int .i64 r.v.int, .string r.v.text, .slice r.v.p r.v.n r.v.c, .slice r.p r.n r.c] 38) := ⟨_, rfl⟩
  have hB : Below w.heap.size w W := by rw [hW]; exact (Below.refl _ _).alloc (Nat.le_refl _) _
  have hX : Box W w.heap.size #[.string r.key, .int .i64 r.v.kind, .int .i64 r.v.int, .string r.v.text, .slice r.v.p r.v.n r.v.c, .slice r.p r.n r.c] 38 := by rw [hW]; exact Box.new _ _ _
  have HB := hid hB
  have hIW := hI.below hB
  have HI := hid hI
  have HIW := hid hIW
  have HH := hid (has_any x W b K hIW)
  have HG := hid (held_any x W b K hIW)
  have HF : Hid (∀ V, Below W.heap.size W V → Calls Try.prog 38 #[.agg #[.string r.key, .int .i64 r.v.kind, .int .i64 r.v.int, .string r.v.text, .slice r.v.p r.v.n r.v.c, .slice r.p r.n r.c]] V fun e w' => ∃ u : RT, e = .returned (.agg #[.string u.key, .int .i64 u.v.kind, .int .i64 u.v.int, .string u.v.text, .slice u.v.p u.v.n u.v.c, .slice u.p u.n u.c]) ∧ RT.Alike r u ∧ RT.In w' (fun b => V.heap.size ≤ b) u ∧ Below V.heap.size V w') := fun V hV =>
    freshR r V (fun k => S k ∧ k < w.heap.size) ((hin.mono fun k hk hl => ⟨hk, hl⟩).kept (Nat.le_trans hB.size hV.size) (fun k hk _ => (hV.block k (by have := hB.size; omega)).trans (hB.block k hk.2))) hr
  rcases hh : K.has x with _ | _
  · clear hX hin hI hIW hB HI HF HG
    go_enter Try.func20, Try.ntmps20
    go_wp2_with fail
    rw [← hW]
    clear hW
    refine HH.out.mono ?_
    rintro e w1 ⟨rfl, rfl⟩
    rw [hh]
    go_wp2
    refine bodyPost_ret (v := .int .i64 132) (by simp [results, Try.results20, go_sem]) rfl ⟨K, by rw [Bk.tookE, if_pos hh], ⟨HIW.out, But.ofBelow HB.out, fun _ hk => .inl hk⟩, fun _ => rfl, fun h => by rw [Bk.lays, hh] at h; cases h⟩
  rcases hd : K.held x with _ | _
  rotate_left
  · clear hX hin hI hIW hB HI HF
    go_enter Try.func20, Try.ntmps20
    go_wp2_with fail
    rw [← hW]
    clear hW
    refine HH.out.mono ?_
    rintro e w1 ⟨rfl, rfl⟩
    rw [hh]
    go_wp2_with fail
    refine HG.out.mono ?_
    rintro e w1 ⟨rfl, rfl⟩
    rw [hd]
    go_wp2
    refine bodyPost_ret (v := .int .i64 134) (by simp [results, Try.results20, go_sem]) rfl ⟨K, by rw [Bk.tookE, if_neg (by rw [hh]; decide), if_pos hd], ⟨HIW.out, But.ofBelow HB.out, fun _ hk => .inl hk⟩, fun _ => rfl, fun h => by rw [Bk.lays, hh, hd] at h; cases h⟩
  have hx : 0 ≤ x ∧ x < K.ports := by simpa [Bk.has] using hh
  have hp := hI.p1
  obtain ⟨i, rfl⟩ : ∃ i : Nat, x = (i : Int) := ⟨x.toNat, by omega⟩
  have hi : i < 4 := by omega
  have HR := hid (records_any i hi W b K hIW)
  rcases hr' : (K.cp && (K.st i == 0)) with _ | _
  · clear hX hin hI hIW hB HI HF
    go_enter Try.func20, Try.ntmps20
    go_wp2_with fail
    rw [← hW]
    clear hW
    refine HH.out.mono ?_
    rintro e w1 ⟨rfl, rfl⟩
    rw [hh]
    go_wp2_with fail
    refine HG.out.mono ?_
    rintro e w1 ⟨rfl, rfl⟩
    rw [hd]
    go_wp2_with fail
    refine HR.out.mono ?_
    rintro e w1 ⟨rfl, rfl⟩
    rw [hr']
    go_wp2
    refine bodyPost_ret (v := .int .i64 0) (by simp [results, Try.results20, go_sem]) rfl ⟨K, by rw [Bk.tookE, if_neg (by rw [hh]; decide), if_neg (by rw [hd]; decide)], ⟨HIW.out, But.ofBelow HB.out, fun _ hk => .inl hk⟩, fun _ => rfl, fun h => by
      rw [Bk.lays, hh, hd, show ((i : Int)).toNat = i by omega, Bool.and_assoc, hr'] at h; cases h⟩
  · have cl := hIW.cl_ hi
    have r0 := hX.cell 0
    have r1 := hX.cell 1
    have r2 := hX.cell 2
    have r3 := hX.cell 3
    have r4 := hX.cell 4
    have r5 := hX.cell 5
    simp at r0 r1 r2 r3 r4 r5
    have hbW := hIW.box.lt
    have hni := hn i hi
    have hi4 : (i : Int) < 4 := by omega
    obtain ⟨i0, Kd⟩ := kindRs
    have HKd := hid Kd
    clear hX hin hI hIW hB Kd hn
    go_enter Try.func20, Try.ntmps20
    go_wp2_with fail
    rw [← hW]
    clear hW
    refine HH.out.mono ?_
    rintro e w1 ⟨rfl, rfl⟩
    rw [hh]
    go_wp2_with fail
    refine HG.out.mono ?_
    rintro e w1 ⟨rfl, rfl⟩
    rw [hd]
    go_wp2_with fail
    refine HR.out.mono ?_
    rintro e w1 ⟨rfl, rfl⟩
    rw [hr']
    clear HH HG HR
    go_wp2_with fail
    refine wp_region_calmE 30 (fun wx => Below w1.heap.size w1 wx) [(0, true), (1, true), (2, true), (3, true), (4, true), (5, true), (6, true), (7, true), (8, false), (9, false), (13, true), (14, true), (15, true)] (.one 10 true [] (.one 11 true [] (.one 12 false [(16, true)] (.one 17 false [] .done)))) (by kernel_rfl) (by kernel_rfl) (Below.refl _ _).drew ?_
    refine wpPre_e rfl rfl (fun K1 hK1 => ?_)
    apply Exists.intro
    refine And.intro (fun wx hx => ?_) ?_
    · go_simp
      try rfl
    go_simp
    refine hK1 _ ?_
    clear hK1 K1
    refine wpPre_e rfl rfl (fun K1 hK1 => ?_)
    apply Exists.intro
    refine And.intro (fun wx hx => ?_) ?_
    · go_simp
      try rfl
    go_simp
    refine hK1 _ ?_
    clear hK1 K1
    refine wpPre_e rfl rfl (fun K1 hK1 => ?_)
    apply Exists.intro
    refine And.intro (fun wx hx => ?_) ?_
    · go_simp
      try rfl
    go_simp
    refine hK1 _ ?_
    clear hK1 K1
    refine wpPre_e rfl rfl (fun K1 hK1 => ?_)
    apply Exists.intro
    refine And.intro (fun wx hx => ?_) ?_
    · go_simp
      try rfl
    go_simp
    refine hK1 _ ?_
    clear hK1 K1
    refine wpPre_e rfl rfl (fun K1 hK1 => ?_)
    apply Exists.intro
    refine And.intro (fun wx hx => ?_) ?_
    · go_simp
      try rfl
    go_simp
    refine hK1 _ ?_
    clear hK1 K1
    refine wpPre_e rfl rfl (fun K1 hK1 => ?_)
    apply Exists.intro
    refine And.intro (fun wx hx => ?_) ?_
    · go_simp
      try rfl
    go_simp
    refine hK1 _ ?_
    clear hK1 K1
    refine wpPre_e rfl rfl (fun K1 hK1 => ?_)
    apply Exists.intro
    refine And.intro (fun wx hx => ?_) ?_
    · go_simp
      try rfl
    go_simp
    refine hK1 _ ?_
    clear hK1 K1
    refine wpPre_e rfl rfl (fun K1 hK1 => ?_)
    apply Exists.intro
    refine And.intro (fun wx hx => ?_) ?_
    · go_simp
      try rfl
    go_simp
    refine hK1 _ ?_
    clear hK1 K1
    refine wpPre_e rfl rfl (fun K1 hK1 => ?_)
    apply Exists.intro
    refine And.intro (fun wx hx => ?_) ?_
    · have e0 := below_fact hx rfl cl
      have e1 := below_fact hx rfl r0
      have e2 := below_fact hx rfl r1
      have e3 := below_fact hx rfl r2
      have e4 := below_fact hx rfl r3
      have e5 := below_fact hx rfl r4
      have e6 := below_fact hx rfl r5
      go_simp
      try rfl
    go_simp
    refine hK1 _ ?_
    clear hK1 K1
    refine wpPre_e rfl rfl (fun K1 hK1 => ?_)
    apply Exists.intro
    refine And.intro (fun wx hx => ?_) ?_
    · have e0 := below_fact hx rfl cl
      have e1 := below_fact hx rfl r0
      have e2 := below_fact hx rfl r1
      have e3 := below_fact hx rfl r2
      have e4 := below_fact hx rfl r3
      have e5 := below_fact hx rfl r4
      have e6 := below_fact hx rfl r5
      go_simp
      try rfl
    go_simp
    refine hK1 _ ?_
    clear hK1 K1
    refine wpPre_e rfl rfl (fun K1 hK1 => ?_)
    apply Exists.intro
    refine And.intro (fun wx hx => ?_) ?_
    · go_simp
      try rfl
    go_simp
    refine hK1 _ ?_
    clear hK1 K1
    refine wpPre_e rfl rfl (fun K1 hK1 => ?_)
    apply Exists.intro
    refine And.intro (fun wx hx => ?_) ?_
    · go_simp
      try rfl
    go_simp
    refine hK1 _ ?_
    clear hK1 K1
    refine wpPre_e rfl rfl (fun K1 hK1 => ?_)
    apply Exists.intro
    refine And.intro (fun wx hx => ?_) ?_
    · go_simp
      try rfl
    go_simp
    refine hK1 _ ?_
    clear hK1 K1
    refine wpPre_nil ?_
    refine wpTr_e rfl (fun K1 hK1 => ?_)
    refine step_call rfl 38 #[.tmp 28] _ rfl Try.f38 Try.func38 (by kernel_rfl) rfl #[.agg #[.string r.key, .int .i64 r.v.kind, .int .i64 r.v.int, .string r.v.text, .slice r.v.p r.v.n r.v.c, .slice r.p r.n r.c]] rfl _ (HF.out _ (Below.refl _ _).drew) (fun e w4 h4 => ?_)
    obtain ⟨u, rfl, hal4, hin4, hb4⟩ := h4
    refine ⟨_, rfl, ?_⟩
    have hb4' : Below w1.heap.size w1 w4 := (Below.refl w1.heap.size w1).drew.trans hb4
    have hin4' : RT.In w4 (fun b => w1.heap.size ≤ b) u := hin4
    have HU := hid (And.intro hal4 (And.intro hin4' hb4'))
    clear hal4 hin4 hin4' hb4
    go_simp
    refine hK1 _ _ (fun _ => hb4') ?_
    clear hK1 K1
    refine wpPre_nil ?_
    refine wpTr_e rfl (fun K1 hK1 => ?_)
    go_simp
    have hb5 : Below w1.heap.size w1 (w4.alloc (.cells #[.string u.key, .int .i64 u.v.kind, .int .i64 u.v.int, .string u.v.text, .slice u.v.p u.v.n u.v.c, .slice u.p u.n u.c] 38)) := hb4'.alloc hb4'.size _
    refine hK1 _ _ (fun _ => hb5) ?_
    clear hK1 K1
    refine wpPre_nil ?_
    refine wpTr_e rfl (fun K1 hK1 => ?_)
    have hI5 := HIW.out.below hb5
    have hnews : ∀ j u', (elRec.cells u)[j]? = some u' → (w4.alloc (.cells #[.string u.key, .int .i64 u.v.kind, .int .i64 u.v.int, .string u.v.text, .slice u.v.p u.v.n u.v.c, .slice u.p u.n u.c] 38)).cell? ((⟨w4.heap.size, 0, none⟩ : Addr).add j) = some u' := fun j u' hu => by
      rw [Go.WideShapes.add_plain, (Box.new w4 #[.string u.key, .int .i64 u.v.kind, .int .i64 u.v.int, .string u.v.text, .slice u.v.p u.v.n u.v.c, .slice u.p u.n u.c] 38).cell]
      rw [show 0 + j = j by omega]
      simpa [elRec, RT.cells] using hu
    have HX5 := hid (And.intro hI5 (And.intro hb5 hnews))
    clear hI5 hnews
    refine step_app rfl (.tmp 27) (.tmp 30) 39 38 i0 _ 6 96 HKd.out rfl 0 (.slice (K.lg i).p (K.lg i).n (K.lg i).c) (K.lg i).n (rowsR (K.lg i)) rfl (HX5.out.1.own i hi) ⟨w4.heap.size, 0, none⟩ 1 1 (elRec.cells u) rfl rfl HX5.out.2.2 (elRec.one u) (by omega) (by omega) (Nat.zero_le _) ?_
    intro v6 w6 ho6 hg6 hn6
    obtain ⟨p6, c6, rfl⟩ := ownsRow_slice ho6
    have hb6 : Box w6 b K.arr 83 := HX5.out.1.box.kept (hg6.block b HX5.out.1.box.lt (fun e => HIW.out.ne i hi e.symm))
    have y1 : ∃ z, w6.cell? ⟨b, 12 + i, none⟩ = some z := by
      rw [hb6.cell]
      rcases (by omega : i = 0 ∨ i = 1 ∨ i = 2 ∨ i = 3) with rfl | rfl | rfl | rfl <;> exact ⟨_, rfl⟩
    obtain ⟨z1, y1⟩ := y1
    have g1 := hb6.frozen (12 + i)
    have hlt6 := hb6.lt
    rw [← rowsR_push (K.lg i) p6 c6 u] at ho6
    have HS6 := hid (HI.out.setLog (w1 := w4.alloc (.cells #[.string u.key, .int .i64 u.v.kind, .int .i64 u.v.int, .string u.v.text, .slice u.v.p u.v.n u.v.c, .slice u.p u.n u.c] 38)) (w2 := w6) (i := i) (l := (K.lg i).push p6 c6 u) hi (HB.out.trans (HX5.out.2.1.mono HB.out.size)) ho6 hg6 hn6)
    have HR6 := hid (RT.In.apart (l := (K.lg i).push p6 c6 u) HI.out hi ((HU.out.2.1.below ((Below.refl _ _).alloc (Nat.le_refl _) _)).mono (fun k hk _ => by have := HB.out.size; omega)) hg6 hn6)
    clear ho6 hg6 hn6 hb6 HX5
    go_simp
    refine hK1 _ _ (fun h => by cases h) ?_
    clear hK1 K1
    refine wpPre_e rfl rfl (fun K1 hK1 => ?_)
    apply Exists.intro
    refine And.intro (fun wx hx => ?_) ?_
    · go_simp
      try rfl
    go_simp
    refine hK1 _ ?_
    clear hK1 K1
    refine wpPre_nil ?_
    refine wpTr_e rfl (fun K1 hK1 => ?_)
    go_simp
    refine hK1 _ _ (fun h => by cases h) ?_
    clear hK1 K1
    refine wpPre_nil ?_
    refine wpTr_done ?_
    go_wp2
    refine bodyPost_ret (v := .int .i64 0) (by simp [results, Try.results20, go_sem]) rfl ⟨K.setLog i ((K.lg i).push p6 c6 u), by rw [Bk.tookE, if_neg (by rw [hh]; decide), if_neg (by rw [hd]; decide)], HS6.out, fun h => ?_, fun _ => ⟨u, p6, c6, HU.out.1, HR6.out, rfl⟩⟩
    rw [Bk.lays, hh, hd, show ((i : Int)).toNat = i by omega, Bool.and_assoc, hr'] at h; cases h
end Go.Proofs.Ytdncnnjhfipokab
