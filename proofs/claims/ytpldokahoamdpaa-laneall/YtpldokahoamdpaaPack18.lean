import Derived.Test.YtpldokahoamdpaaPack17
namespace Go.Proofs.Ytpldokahoamdpaa
open Go.RowKit Go.Conc
set_option maxRecDepth 8000
/-- a list's items -/
def LT.toL {α : Type} (l : LT α) : List α := (List.range l.n).map l.item
theorem LT.toL_len {α : Type} (l : LT α) : l.toL.length = l.n := by simp [LT.toL]
theorem LT.toL_get {α : Type} (l : LT α) {j : Nat} (h : j < l.n) : l.toL[j]? = some (l.item j) := by simp [LT.toL, List.getElem?_range h]
theorem LT.toL_some {α : Type} (l : LT α) {j : Nat} {x : α} (h : l.toL[j]? = some x) : j < l.n ∧ l.item j = x := by
  have hj : j < l.n := by
    rcases Nat.lt_or_ge j l.n with h1 | h1
    · exact h1
    · rw [List.getElem?_eq_none (by rw [LT.toL_len]; exact h1)] at h; cases h
  rw [LT.toL_get l hj] at h
  injection h with h
  exact ⟨hj, h⟩
/-- a list of copies -/
inductive Cps : List IT → List IT → Prop where
  | nil : Cps [] []
  | cons {x u : IT} {xs us : List IT} : CopyI x u → Cps xs us → Cps (x :: xs) (u :: us)
theorem Cps.len {F us : List IT} (h : Cps F us) : us.length = F.length := by
  induction h with
  | nil => rfl
  | cons _ _ ih => simp [ih]
theorem Cps.of_get : ∀ {F us : List IT}, us.length = F.length → (∀ (j : Nat) (x u : IT), F[j]? = some x → us[j]? = some u → CopyI x u) → Cps F us
  | [], [], _, _ => .nil
  | [], _ :: _, h, _ => by simp at h
  | _ :: _, [], h, _ => by simp at h
  | x :: F, u :: us, h, hc => .cons (hc 0 x u rfl rfl) (Cps.of_get (by simpa using h) fun j y v hy hv => hc (j + 1) y v (by simpa using hy) (by simpa using hv))
theorem Cps.get {F us : List IT} (h : Cps F us) : ∀ {j : Nat} {x : IT}, F[j]? = some x → ∃ u, us[j]? = some u ∧ CopyI x u := by
  induction h with
  | nil => intro j x hx; simp at hx
  | cons hc _ ih =>
    intro j x hx
    cases j with
    | zero => simp at hx; subst hx; exact ⟨_, rfl, hc⟩
    | succ j => simp at hx; simpa using ih hx
theorem Cps.append {F us G vs : List IT} (h : Cps F us) (g : Cps G vs) : Cps (F ++ G) (us ++ vs) := by
  induction h with
  | nil => exact g
  | cons hc _ ih => exact .cons hc ih
theorem Cps.take {F us : List IT} (h : Cps F us) : ∀ i, Cps (F.take i) (us.take i) := by
  induction h with
  | nil => intro i; simp; exact .nil
  | cons hc _ ih =>
    intro i
    cases i with
    | zero => exact .nil
    | succ i => exact .cons hc (ih i)
theorem Cps.drop {F us : List IT} (h : Cps F us) : ∀ i, Cps (F.drop i) (us.drop i) := by
  induction h with
  | nil => intro i; simp; exact .nil
  | cons hc ht ih =>
    intro i
    cases i with
    | zero => exact .cons hc ht
    | succ i => exact ih i
theorem Cps.filter {F us : List IT} (h : Cps F us) : Cps (F.filter fun x => x.mark = 0) (us.filter fun x => x.mark = 0) := by
  induction h with
  | nil => exact .nil
  | @cons x u xs us hc _ ih =>
    by_cases h0 : x.mark = 0
    · rw [List.filter_cons_of_pos (by simpa using h0), List.filter_cons_of_pos (by simpa using hc.m.trans h0)]
      exact .cons hc ih
    · rw [List.filter_cons_of_neg (by simpa using h0), List.filter_cons_of_neg (by have := hc.m; simp; omega)]
      exact ih
theorem Cps.nR {F us : List IT} (h : Cps F us) : nR us = Go.Proofs.Ytpldokahoamdpaa.nR F := h.filter.len
/-- what a lane holds whose first markers were pulled -/
def pulled (us : List IT) (i : Nat) : List IT := (us.take i).filter (fun x => x.mark = 0) ++ us.drop i
theorem pulled_0 (us : List IT) : pulled us 0 = us := by simp [pulled]
theorem pulled_end (us : List IT) : pulled us us.length = us.filter fun x => x.mark = 0 := by simp [pulled]
theorem pulled_rec (us : List IT) {i : Nat} {u : IT} (hu : us[i]? = some u) (h : u.mark = 0) : pulled us (i + 1) = pulled us i := by
  have hi : i < us.length := by
    rcases Nat.lt_or_ge i us.length with h1 | h1
    · exact h1
    · rw [List.getElem?_eq_none h1] at hu; cases hu
  unfold pulled
  rw [List.take_add_one, hu, List.drop_eq_getElem_cons hi]
  rw [List.getElem?_eq_getElem hi] at hu
  injection hu with hu
  simp [hu, h]
theorem pulled_mark (us : List IT) {i : Nat} {u : IT} (hu : us[i]? = some u) (h : u.mark ≠ 0) : pulled us i = (us.take i).filter (fun x => x.mark = 0) ++ u :: us.drop (i + 1) ∧ pulled us (i + 1) = (us.take i).filter (fun x => x.mark = 0) ++ us.drop (i + 1) := by
  have hi : i < us.length := by
    rcases Nat.lt_or_ge i us.length with h1 | h1
    · exact h1
    · rw [List.getElem?_eq_none h1] at hu; cases hu
  unfold pulled
  refine ⟨?_, ?_⟩
  · rw [List.drop_eq_getElem_cons hi]
    rw [List.getElem?_eq_getElem hi] at hu
    injection hu with hu
    rw [hu]
  · rw [List.take_add_one, hu]
    simp [h]
theorem nR_filter (q : List IT) : nR (q.filter fun x => x.mark = 0) = (q.filter fun x => x.mark = 0).length := by simp [nR]
/-- the markers' places -/
def placesOf : List IT → Nat → List Int
  | [], _ => []
  | x :: F, n => if 0 < x.mark then (n : Int) :: placesOf F n else placesOf F (n + 1)
/-- so many records of a list, alike those of another -/
theorem Cps.recs {F us : List IT} (h : Cps F us) {j : Nat} {u : IT} (hu : (us.filter fun x => x.mark = 0)[j]? = some u) : ∃ x, (F.filter fun x => x.mark = 0)[j]? = some x ∧ RT.Alike x.r u.r := by
  have hf := h.filter
  have hj : j < (F.filter fun x => x.mark = 0).length := by
    rw [← hf.len]
    rcases Nat.lt_or_ge j (us.filter fun x => x.mark = 0).length with h1 | h1
    · exact h1
    · rw [List.getElem?_eq_none h1] at hu; cases hu
  obtain ⟨x, hx⟩ : ∃ x, (F.filter fun x => x.mark = 0)[j]? = some x := ⟨_, List.getElem?_eq_getElem hj⟩
  obtain ⟨v, hv, hc⟩ := hf.get hx
  rw [hu] at hv
  injection hv with hv
  subst hv
  refine ⟨x, hx, hc.r ?_⟩
  have := List.mem_of_getElem? hx
  simpa using (List.mem_filter.1 this).2
end Go.Proofs.Ytpldokahoamdpaa

namespace Go.Proofs.Ytpldokahoamdpaa
open Go.RowKit Go.Conc
set_option maxRecDepth 8000
theorem VT.Alike.two : ∀ {t u v : VT} {w : World} {S : Nat → Prop}, VT.Alike t u → VT.Alike t v → VT.In w S u → VT.Alike u v := by
  intro t
  induction t with
  | nil =>
    intro u v w S h g hi
    have hu : u = .nil := by simpa [VT.Alike] using h
    subst hu
    exact hi.elim
  | mk k i s n p c f ih =>
    intro u v w S h g hi
    obtain ⟨k2, i2, s2, n2, p2, c2, f2, rfl⟩ := hi.mk_
    obtain ⟨h0, h1, h2, h3, h4⟩ := h
    obtain ⟨g0, g1, g2, g3, g4⟩ := g
    simp only [VT.kind_mk, VT.int_mk, VT.text_mk, VT.n_mk, VT.item_mk] at h0 h1 h2 h3 h4
    subst h0 h1 h2 h3
    exact ⟨g0, g1, g2, g3, fun j hj => ih j (h4 j hj) (g4 j hj) (hi.sub (j := j) hj)⟩
theorem RT.Alike.two {t u v : RT} {w : World} {S : Nat → Prop} (h : RT.Alike t u) (g : RT.Alike t v) (hi : RT.In w S u) : RT.Alike u v :=
  ⟨g.key.trans h.key.symm, h.v.two g.v hi.v, g.n.trans h.n.symm, fun j hj => (g.loop j (by rw [← h.n]; exact hj)).trans (h.loop j (by rw [← h.n]; exact hj)).symm⟩
theorem step_callG {ops : Array Oper} {o : Oper} {a : Act} {w : World} {K : Act → World → Prop} {Q : Exit → Act → World → Prop} {E : Prop}
    (hw : Region.wanted o (yielded ops a.tmps) = true) (f : Nat) (xs : Array Operand) (ts : Array TypeId) (hop : o.op = Op.call { callee := Callee.value (Operand.func f), args := xs, argTypes := ts })
    (F : Func) (hF : Try.prog.funcs[f]? = some F) (hN : (F.name == "runtime.NumGoroutine") = false) (hB : F.body.isNone = false) (vs : Array Value) (hvl : xs.toList.map a.eval = vs.toList) (R : Ending → World → Prop) (hC : Calls Try.prog f vs w R) (hK : ∀ e w', R e w' → ∃ v, e = .returned v ∧ K (a.put o.dst v) w') :
    if Region.wanted o (yielded ops a.tmps) = true then Oper.wp Try.prog o a w K Q else E := by
  rw [if_pos hw]
  have hvs : xs.map a.eval = vs := by
    obtain ⟨xl⟩ := xs
    obtain ⟨vl⟩ := vs
    simp only at hvl
    rw [List.map_toArray, hvl]
  have hrun : (execOp a.eval o).run Try.prog w = .ok (.enter f vs) w := by
    have h1 : ¬ F.name = "runtime.NumGoroutine" := by simpa using hN
    have h2 : ¬ F.body = none := by intro h; rw [h] at hB; cases hB
    simp [execOp, hop, resolve, invoke, hvs, Deferred.ofValue, Act.eval, callFunc, Result.andThen, go_sem, hF, h1, h2]
  unfold Oper.wp
  rw [hrun, Oper.upon_enter]
  refine hC.mono fun e w' h => ?_
  obtain ⟨v, rfl, hk⟩ := hK e w' h
  exact hk
theorem LT.In.take {α : Type} {E : El α} {w : World} {S : Nat → Prop} {l : LT α} (h : LT.In E w S l) {m : Nat} (hm : m ≤ l.n) : LT.In E w S ⟨l.p, m, l.c, l.item⟩ := by
  refine ⟨fun h0 => ?_, fun j hj => h.each j (Nat.lt_of_lt_of_le hj hm), Nat.le_trans hm h.nc, Nat.le_trans hm h.nn, h.cc, fun e => ?_⟩
  · have h0' : 0 < m := h0
    obtain ⟨b, o, e, hS, hl, ha⟩ := h.at_ (by omega)
    exact ⟨b, o, e, hS, hl, fun j hj => ha j (Nat.lt_of_lt_of_le hj hm)⟩
  · have := h.nil e
    exact ⟨by show m = 0; omega, this.2⟩
theorem kindIt : ∃ i, Kind 22 35 i (.agg #[.int .i64 0, .string ⟨#[]⟩, .int .i64 0, .int .i64 0, .string ⟨#[]⟩, .slice none 0 0, .slice none 0 0]) 7 104 := by
  obtain ⟨i0, hi, hz0, hz1, hz2⟩ := info_parts (show (Try.prog.info? 35).map (fun i => (i.zero, i.size, i.bytes)) = some (some (.agg #[.int .i64 0, .string ⟨#[]⟩, .int .i64 0, .int .i64 0, .string ⟨#[]⟩, .slice none 0 0, .slice none 0 0]), 7, 104) by kernel_rfl)
  exact ⟨i0, Try.underlying22, hi, hz0, hz1, hz2, rfl, by decide⟩
/-- how many markers stand ahead -/
def cntM (F : List IT) (i : Nat) : Nat := ((F.take i).filter fun x => ¬ (x.mark = 0)).length
theorem cntM_le (F : List IT) (i : Nat) : cntM F i ≤ F.length := Nat.le_trans (List.length_filter_le _ _) (by simp; omega)
theorem cntM_mark {F : List IT} {i : Nat} {x : IT} (hx : F[i]? = some x) (h : x.mark ≠ 0) : cntM F (i + 1) = cntM F i + 1 := by
  unfold cntM; rw [List.take_add_one, hx]; simp [h]
theorem cntM_rec {F : List IT} {i : Nat} {x : IT} (hx : F[i]? = some x) (h : x.mark = 0) : cntM F (i + 1) = cntM F i := by
  unfold cntM; rw [List.take_add_one, hx]; simp [h]
theorem nR_take_rec {F : List IT} {i : Nat} {x : IT} (hx : F[i]? = some x) (h : x.mark = 0) : nR (F.take (i + 1)) = nR (F.take i) + 1 := by
  unfold nR; rw [List.take_add_one, hx]; simp [h]
theorem nR_take_mark {F : List IT} {i : Nat} {x : IT} (hx : F[i]? = some x) (h : x.mark ≠ 0) : nR (F.take (i + 1)) = nR (F.take i) := by
  unfold nR; rw [List.take_add_one, hx]; simp [h]
theorem cntM_mono (F : List IT) {i j : Nat} (h : i ≤ j) : cntM F i ≤ cntM F j := by
  induction h with
  | refl => exact Nat.le_refl _
  | @step m _ ih =>
    refine Nat.le_trans ih ?_
    unfold cntM
    rw [List.take_add_one, List.filter_append, List.length_append]
    omega
def MaQ (w : World) (F : List IT) (e : Ending) (w' : World) : Prop := ∃ u : LT Int, e = .returned (.slice u.p u.n u.c) ∧ LT.In elInt w' (fun b => w.heap.size ≤ b) u ∧ u.n = cntM F F.length ∧ (∀ i x, F[i]? = some x → x.mark ≠ 0 → u.item (cntM F i) = (nR (F.take i) : Nat)) ∧ Below w.heap.size w w'
set_option maxRecDepth 60000 in
set_option maxHeartbeats 4000000 in
/-- marksAhead -/
theorem marksAhead_any (l : LT IT) (w : World) (S : Nat → Prop) (hin : LT.In elItem w S l) (hm : ∀ x ∈ l.toL, 0 ≤ x.mark) (hn : l.n ≤ 10000) : Calls Try.prog 10 #[.slice l.p l.n l.c] w fun e w' => MaQ w l.toL e w' := by
  obtain ⟨i0, Kd⟩ := kindIc
  have HKd := hid Kd
  have HI := hid hin
  have HM := hid hm
  clear hin hm Kd
  go_enter Try.func10, Try.ntmps10
  go_wp2_with fail
  go_loopw [3, 4, 5] (fun v y x wr => ∃ (k : Nat) (g : Nat → Int), k ≤ l.n ∧ x = .int .i64 (k : Int) ∧ y = .int .i64 (nR (l.toL.take k) : Nat) ∧ OwnL elInt w.heap.size wr v (cntM l.toL k) g ∧ (∀ i x, i < k → l.toL[i]? = some x → x.mark ≠ 0 → g (cntM l.toL i) = (nR (l.toL.take i) : Nat)) ∧ Below w.heap.size w wr) (fun _ _ x _ => l.n - (intOf x).toNat)
  case atStart => exact ⟨0, fun _ => 0, Nat.zero_le _, rfl, rfl, ⟨World.ownsRow_nil _ _ _ _, fun j hj => absurd hj (Nat.not_lt_zero j)⟩, fun i x hi => absurd hi (Nat.not_lt_zero i), Below.refl _ _⟩
  case round =>
    obtain ⟨k, g, hk, rfl, rfl, hO, hal, hbel⟩ := hrel
    have HO := hid hO
    have HA := hid hal
    have HB := hid hbel
    have hcm : cntM l.toL k ≤ 10000 := Nat.le_trans (cntM_le _ _) (by rw [LT.toL_len]; exact hn)
    have hnr : nR (l.toL.take k) ≤ 10000 := Nat.le_trans (nR_le _) (by simp [LT.toL_len]; omega)
    have hs1 := hbel.size
    by_cases hlt : k < l.n
    · have hlt' : (k : Int) < (l.n : Int) := by omega
      obtain ⟨bb, o, hp, hSb, hbb, hat⟩ := HI.out.at_ (by omega)
      rw [hp]
      have c0 : wr.cell? ⟨bb, o + k * 7, none⟩ = some (.int .i64 (l.item k).mark) := (World.cell?_of_block (a := ⟨bb, o + k * 7 + 0, none⟩) (hbel.block bb hbb)).trans (hat k hlt 0 _ rfl)
      have hx := l.toL_get hlt
      have hm0 := HM.out (l.item k) (List.mem_of_getElem? hx)
      clear hat hO hal hbel
      by_cases hmk : 0 < (l.item k).mark
      · have hne : (l.item k).mark ≠ 0 := by omega
        have HX := hid (And.intro (cntM_mark hx hne) (And.intro (nR_take_mark hx hne) hx))
        have ha : Below wr.heap.size wr (wr.alloc (.cells #[.int .i64 ((nR (l.toL.take k) : Nat) : Int)] 3)) := (Below.refl _ _).alloc (Nat.le_refl _) _
        have HAa := hid ha
        have HNw : Hid (∀ j u', (elInt.cells ((nR (l.toL.take k) : Nat) : Int))[j]? = some u' → (wr.alloc (.cells #[.int .i64 ((nR (l.toL.take k) : Nat) : Int)] 3)).cell? ((⟨wr.heap.size, 0, none⟩ : Addr).add j) = some u') := by
          intro j u' hu
          rw [Go.WideShapes.add_plain, (Box.new wr #[.int .i64 ((nR (l.toL.take k) : Nat) : Int)] 3).cell]
          rw [show 0 + j = j by omega]
          simpa [elInt] using hu
        clear hne hx ha
        go_wp2_with (at_builtin; refine wpList_app rfl (.tmp 18) (.tmp 20) 31 3 i0 _ 1 8 HKd.out rfl w.heap.size u3 (cntM l.toL k) _ rfl (HO.out.own.alloc _) ⟨wr.heap.size, 0, none⟩ 1 1 (elInt.cells ((nR (l.toL.take k) : Nat) : Int)) rfl rfl HNw.out (elInt.one _) (by omega) (by omega) (by simp; omega) ?_)
        intro v4 w4 ho4 hg4 hn4
        have HO4 := hid ((HO.out.keep HAa.out.size (fun j _ hl => HAa.out.block j hl)).push (u := ((nR (l.toL.take k) : Nat) : Int)) (by constructor <;> omega) ho4 hg4 hn4)
        have HB4 : Hid (Below w.heap.size w w4) := (HB.out.trans (HAa.out.mono hs1)).grown hg4 (by simp; omega) (fun j hj => (HO.out.own.lt j hj).1)
        clear ho4 hg4 hn4 HNw HAa
        go_wp2_with fail
        go_roundw
        case rel =>
          refine ⟨k + 1, _, by omega, by go_num, by rw [HX.out.2.1], by rw [HX.out.1]; exact HO4.out, fun i x hi hx2 hxm => ?_, HB4.out⟩
          show (if cntM l.toL i < cntM l.toL k then g (cntM l.toL i) else ((nR (l.toL.take k) : Nat) : Int)) = _
          by_cases hik : i < k
          · have h1 := cntM_mark hx2 hxm
            have h2 := cntM_mono l.toL (show i + 1 ≤ k by omega)
            rw [if_pos (by omega)]
            exact HA.out i x hik hx2 hxm
          · obtain rfl : i = k := by omega
            rw [if_neg (Nat.lt_irrefl _)]
        case measure => simp [intOf]; omega
      · have hz : (l.item k).mark = 0 := by omega
        have HX := hid (And.intro (cntM_rec hx hz) (And.intro (nR_take_rec hx hz) (And.intro hx hz)))
        have hmk' : ¬ 0 < (l.item k).mark := hmk
        clear hz hx
        go_wp2_with fail
        go_roundw
        case rel =>
          refine ⟨k + 1, g, by omega, by go_num, by rw [HX.out.2.1]; go_num, by rw [HX.out.1]; exact HO.out, fun i x hi hx2 hxm => ?_, HB.out⟩
          by_cases hik : i < k
          · exact HA.out i x hik hx2 hxm
          · obtain rfl : i = k := by omega
            rw [HX.out.2.2.1] at hx2
            injection hx2 with hx2
            rw [← hx2] at hxm
            exact absurd HX.out.2.2.2 hxm
        case measure => simp [intOf]; omega
    · obtain rfl : k = l.n := by omega
      clear hO hal hbel
      go_wp2
      obtain ⟨p, c, hv, hin2⟩ := HO.out.in_ (by omega)
      subst hv
      refine bodyPost_ret (v := .slice p (cntM l.toL l.n) c) (by simp [results, Try.results10, go_sem]) rfl ⟨⟨p, cntM l.toL l.n, c, g⟩, rfl, hin2, by rw [LT.toL_len], fun i x hx2 hxm => HA.out i x (LT.toL_some l hx2).1 hx2 hxm, HB.out⟩
end Go.Proofs.Ytpldokahoamdpaa
