import Derived.Test.YtkfcilandmhomaaDoorPack37
import Derived.Test.YtkfcilandmhomaaDoorPack35
import Derived.Test.YtkfcilandmhomaaDoorPack34
namespace Go.Proofs.YtkfcilandmhomaaDoor
open Go.RowKit
set_option maxRecDepth 8000
theorem Rel.trim_ {D : DK} {A : AK} (h : Rel D A) (hw : A.Wf) {s : ByteArray} {n : Int} {C : Nat → Prop} {db : Nat} {w w' : World} {e : Ending} (hq : TrimQ D s n C db w e w') : e = .returned (.int .i64 (chA A s)) ∧ ∃ D', Chg D' C db w w' ∧ Rel D' (trimK A s n) := by
  obtain ⟨h1, h2⟩ := h.chA_ hw s
  obtain ⟨q1, q2, q3⟩ := hq
  rw [h1] at q1 q2 q3
  refine ⟨q1, ?_⟩
  unfold trimK
  by_cases h0 : chA A s = 0
  · obtain ⟨f, p, c, hf, hc⟩ := q3 h0
    refine ⟨_, hc, ?_⟩
    rw [if_pos h0, putK, ← h.lk s, hf]
    refine h2.upd (s := s) (f' := f.cutd (max n 0).toNat p c) (k := cutK (max n 0).toNat f.key) (fnd_at hf).2 ?_
    unfold FT.key FT.cutd cutK
    refine Prod.ext rfl (Prod.ext rfl ?_)
    show ((min f.sure (f.zs.take (max n 0).toNat).length : Nat) : Int) = ((min ((f.sure : Int)).toNat (f.zs.take (max n 0).toNat).length : Nat) : Int)
    rw [Int.toNat_natCast]
  · exact ⟨_, q2 h0, by rw [if_neg h0]; exact h2⟩
/-- Append -/
def apF (A : AK) (s : ByteArray) (n : Nat) : Bool := match lkK A s with | none => decide (65536 < n ∨ A.ks.length = 400) | some k => decide (65536 < k.2.1.length + n)
def appA (A : AK) (s : ByteArray) (n : Nat) : Int := if begA A s = 0 then (if apF A s n = true then 104 else payA (begK A s) ((n : Int) + 1)) else begA A s
def apL (A : AK) (s : ByteArray) (n : Nat) : Nat := (min (payM (begK A s) ((n : Int) + 1)) (n : Int)).toNat
def appKs (A : AK) (s : ByteArray) (zs : List Int) : List Key := match lkK A s with | none => insK (s, zs.take (apL A s zs.length), 0) A.ks | some k => updK s (s, k.2.1 ++ zs.take (apL A s zs.length), k.2.2) A.ks
def appK (A : AK) (s : ByteArray) (zs : List Int) : AK := if begA A s = 0 then (if apF A s zs.length = true then begK A s else { payK (begK A s) ((zs.length : Int) + 1) with ks := appKs A s zs }) else begK A s
theorem Rel.append_ {D : DK} {A : AK} (h : Rel D A) (hw : A.Wf) {s : ByteArray} {zs : List Int} {C : Nat → Prop} {db : Nat} {w w' : World} {e : Ending} (hq : ApD D s zs C db w e w') : e = .returned (.int .i64 (appA A s zs.length)) ∧ ∃ D', Chg D' C db w w' ∧ Rel D' (appK A s zs) := by
  obtain ⟨h1, h2⟩ := h.begA_ hw s
  have hl := h.lk s
  have hlen : D.fs.length = A.ks.length := by have := h.pm.length_eq; simpa using this
  obtain ⟨p1, p2, p3⟩ := h2.payA_ ((zs.length : Int) + 1)
  have hM : apM (begD D s) zs.length = apL A s zs.length := by unfold apM apL; rw [p3]
  have hks : (payK (begK A s) ((zs.length : Int) + 1)).ks = A.ks := by rw [payK_ks, begK_ks]
  have hfs : ((begD D s).pays ((zs.length : Int) + 1)).fs = D.fs := (pays_fs _ _).1.trans (beg_fs D s).1
  unfold appA appK apF
  rcases hq with ⟨d0, rfl, hc⟩ | ⟨d0, hf, hfu, rfl, hc⟩ | ⟨d0, ⟨f, hf, hfu⟩, rfl, hc⟩ | ⟨d0, hf, hn1, hn2, rfl, f', hf', hc⟩ | ⟨d0, f, hf, hn1, rfl, f', hf', hc⟩
  · rw [h1] at d0 ⊢
    rw [if_neg d0, if_neg d0]
    exact ⟨rfl, _, hc, h2⟩
  · rw [h1] at d0
    rw [hf] at hl
    rw [if_pos d0, if_pos d0, ← hl]
    have hd : decide (65536 < zs.length ∨ A.ks.length = 400) = true := decide_eq_true (hfu.imp id fun x => by omega)
    simp only [Option.map_none, hd, if_true]
    exact ⟨trivial, _, hc, h2⟩
  · rw [h1] at d0
    rw [hf] at hl
    rw [if_pos d0, if_pos d0, ← hl]
    have hd : decide (65536 < f.key.2.1.length + zs.length) = true := decide_eq_true hfu
    simp only [Option.map_some, hd, if_true]
    exact ⟨trivial, _, hc, h2⟩
  · rw [h1] at d0
    rw [hf] at hl
    have hd : decide (65536 < zs.length ∨ A.ks.length = 400) = false := decide_eq_false (fun x => x.elim (by omega) (by omega))
    rw [if_pos d0, if_pos d0]
    have hks2 : appKs A s zs = insK (s, zs.take (apL A s zs.length), 0) A.ks := by unfold appKs; rw [← hl]; rfl
    rw [hks2, ← hl]
    simp only [Option.map_none, hd, Bool.false_eq_true, if_false]
    refine ⟨by rw [p1], _, hc, ?_⟩
    rw [hM] at hf'
    have := p2.add (f' := f') (k := (s, zs.take (apL A s zs.length), 0)) hf' (by
      intro a ha
      rw [hks] at ha
      intro e
      have h3 := lkK_mem h.so ha
      rw [← e] at h3
      have h4 : lkK A s = Option.none := hl.symm
      have h5 : lkK A s = Option.some a := h3
      rw [h4] at h5
      cases h5)
    rw [hks, hfs] at this
    exact this
  · rw [h1] at d0
    rw [hf] at hl
    have hd : decide (65536 < f.key.2.1.length + zs.length) = false := decide_eq_false (by show ¬ 65536 < f.zs.length + zs.length; omega)
    rw [if_pos d0, if_pos d0]
    have hks2 : appKs A s zs = updK s (s, f.key.2.1 ++ zs.take (apL A s zs.length), f.key.2.2) A.ks := by unfold appKs; rw [← hl]; rfl
    rw [hks2, ← hl]
    simp only [Option.map_some, hd, Bool.false_eq_true, if_false]
    refine ⟨by rw [p1], _, hc, ?_⟩
    rw [hM] at hf'
    have := p2.upd (s := s) (f' := f') (congrArg Prod.fst hf') hf'
    rw [hks] at this
    exact this
/-- the rigs -/
def armA (A : AK) (u : Int) : AK := if A.down = true then A else { A with left := max u (-1) }
def failA (A : AK) (a c : Int) : AK := if A.down = true then A else if a < 0 ∨ c ≤ 0 then { A with after := 0, fails := 0 } else { A with after := a, fails := c }
def fellA (A : AK) : AK := { A with down := true, left := -1, after := 0, fails := 0 }
theorem Rel.arm_ {D : DK} {A : AK} (h : Rel D A) (u : Int) : Rel (D.armD u) (armA A u) := by
  have hdn : D.down = A.down := h.dn
  unfold armA DK.armD
  rw [hdn]
  by_cases hd : A.down = true
  · rw [if_pos hd, if_pos hd]; exact h
  · rw [if_neg hd, if_neg hd]
    by_cases hu : u < 0
    · rw [if_pos hu]
      exact ⟨h.pm, h.so, by show A.down = A.down; rfl, .inl ⟨rfl, by show max u (-1) = -1; omega⟩, h.fl, h.af, ⟨fun _ => rfl, h.ok.fail⟩, h.a0⟩
    · rw [if_neg hu]
      exact ⟨h.pm, h.so, by show A.down = A.down; rfl, .inr ⟨rfl, by show max u (-1) = u; omega, by show 0 ≤ u; omega⟩, h.fl, h.af, ⟨(fun e => by cases e), h.ok.fail⟩, h.a0⟩
theorem Rel.fail_ {D : DK} {A : AK} (h : Rel D A) (a c : Int) : Rel (D.failD a c) (failA A a c) := by
  have hdn : D.down = A.down := h.dn
  unfold failA DK.failD
  rw [hdn]
  by_cases hd : A.down = true
  · rw [if_pos hd, if_pos hd]; exact h
  · rw [if_neg hd, if_neg hd]
    by_cases hu : a < 0 ∨ c ≤ 0
    · rw [if_pos hu, if_pos hu]
      exact ⟨h.pm, h.so, by show A.down = A.down; rfl, h.ar, rfl, fun e => absurd rfl e, ⟨h.ok.arm, fun _ => rfl⟩, by show (0 : Int) ≤ 0; omega⟩
    · rw [if_neg hu, if_neg hu]
      exact ⟨h.pm, h.so, by show A.down = A.down; rfl, h.ar, rfl, fun _ => rfl, ⟨h.ok.arm, fun e => by have e' : c = 0 := e; omega⟩, by show 0 ≤ a; omega⟩
theorem Rel.fell_ {D : DK} {A : AK} (h : Rel D A) : Rel D.fell (fellA A) :=
  ⟨h.pm, h.so, rfl, .inl ⟨rfl, rfl⟩, rfl, fun e => absurd rfl e, ⟨fun _ => rfl, fun _ => rfl⟩, by show (0 : Int) ≤ 0; omega⟩
/-- Spoil -/
def spA (A : AK) (s : ByteArray) (bit : Int) : Bool := match lkK A s with | some k => decide (0 ≤ bit) && decide (bit / 8 < (k.2.1.length : Int)) | none => false
def spoK (i r : Nat) (k : Key) : Key := (k.1, k.2.1.set i (spx (k.2.1.getD i 0) r), k.2.2)
def spK (A : AK) (s : ByteArray) (bit : Int) : AK := if spA A s bit = true then putK A A s (spoK (bit / 8).toNat (bit % 8).toNat) else A
theorem Rel.spoil_ {D : DK} {A : AK} (h : Rel D A) {s : ByteArray} {bit : Int} {C : Nat → Prop} {db : Nat} {w w' : World} {e : Ending} (hq : SpQ D s bit C db w e w') : e = .returned (.bool (spA A s bit)) ∧ ∃ D', Chg D' C db w w' ∧ Rel D' (spK A s bit) := by
  have hb : spB D s bit = spA A s bit := by
    unfold spB spA
    rw [← h.lk s]
    cases fnd D s <;> rfl
  obtain ⟨q1, q2, q3⟩ := hq
  rw [hb] at q1 q2 q3
  refine ⟨q1, ?_⟩
  unfold spK
  cases hs : spA A s bit with
  | false => exact ⟨_, q2 hs, by rw [if_neg (by simp)]; exact h⟩
  | true =>
    obtain ⟨f, hf, hc⟩ := q3 hs
    refine ⟨_, hc, ?_⟩
    rw [if_pos rfl, putK, ← h.lk s, hf]
    exact h.upd (s := s) (f' := f.spo (bit / 8).toNat (bit % 8).toNat) (k := spoK (bit / 8).toNat (bit % 8).toNat f.key) (fnd_at hf).2 rfl
end Go.Proofs.YtkfcilandmhomaaDoor

namespace Go.Proofs.YtkfcilandmhomaaDoor
open Go.RowKit
set_option maxRecDepth 8000
/-- behind Restart -/
def rstKs (ks : List Key) (K : LT Int) : List Key := (List.range ks.length).map fun j => rsK ((ks[j]?).getD (⟨#[]⟩, [], 0)) (kpU K j)
def rstK (A : AK) (K : LT Int) : AK := ⟨rstKs A.ks K, false, -1, A.after, 0⟩
theorem rstKs_at (ks : List Key) (K : LT Int) (j : Nat) : (rstKs ks K)[j]? = (ks[j]?).map fun k => rsK k (kpU K j) := by
  unfold rstKs
  rw [List.getElem?_map]
  by_cases h : j < ks.length
  · rw [List.getElem?_range h]
    simp only [Option.map_some]
    rw [List.getElem?_eq_getElem h]
    rfl
  · rw [List.getElem?_eq_none (by simp; omega), List.getElem?_eq_none (by omega)]
    rfl
theorem rsK_wf (k : Key) (u : Int) : 0 ≤ (rsK k u).2.2 ∧ (rsK k u).2.2 ≤ ((rsK k u).2.1.length : Int) := ⟨Int.natCast_nonneg _, Int.le_refl _⟩
theorem Rel.rst_ {D : DK} {A : AK} (h : Rel D A) (hw : A.Wf) (hnm : ∀ f ∈ D.fs, Nm f.name) (hnd : (D.fs.map FT.name).Nodup) {K : LT Int} {C : Nat → Prop} {db : Nat} {w w' : World} (hq : RsQ D K C db w w') : ∃ D', Chg D' C db w w' ∧ Rel D' (rstK A K) := by
  obtain ⟨YS, Di, hp, hs, hn, he, hc⟩ := hq
  refine ⟨_, hc, ?_⟩
  have hgk : ((rstKs A.ks K).map ghost).map RF.key = rstKs A.ks K := by
    rw [List.map_map]
    conv => rhs; rw [← List.map_id (rstKs A.ks K)]
    refine List.map_congr_left fun k hk => ghost_key ?_
    obtain ⟨j, _, rfl⟩ := List.mem_map.1 hk
    exact rsK_wf _ _
  have hgk0 : A.gh.fs.map RF.key = A.ks := congrArg AK.ks (AK.gh_ak hw)
  have hl0 : A.gh.fs.length = A.ks.length := by have := congrArg List.length hgk0; simpa using this
  have hK : RsK A.gh K A.gh.fs.length ⟨Option.none, 0, (rstKs A.ks K).map ghost, true, -1, A.after, 0⟩ := by
    refine ⟨fun j => ?_, ⟨rfl, rfl, rfl, rfl⟩, by simp [rstKs, hl0]⟩
    show (((rstKs A.ks K).map ghost).map RF.key)[j]? = _
    rw [hgk, hgk0, rstKs_at]
    by_cases hj : j < A.ks.length
    · rw [List.getElem?_eq_getElem hj]
      simp only [Option.map_some]
      rw [if_pos (by omega)]
    · rw [List.getElem?_eq_none (by omega)]
      rfl
  have hR := Rel.restart (h.gh hw) hnm hnd hp hs hn he hK
  have e : ({ (⟨Option.none, 0, (rstKs A.ks K).map ghost, true, -1, A.after, 0⟩ : RK) with down := false : RK }).ak = rstK A K := by
    unfold RK.ak rstK
    show AK.mk (((rstKs A.ks K).map ghost).map RF.key) false (-1) A.after 0 = _
    rw [hgk]
  rw [← e]
  exact hR
end Go.Proofs.YtkfcilandmhomaaDoor

namespace Go.Proofs.YtkfcilandmhomaaDoor
open Go.RowKit
set_option maxRecDepth 8000
def readA (A : AK) (s : ByteArray) : Int := if nmB s = false then 102 else if A.down = true then 100 else if (lkK A s).isSome = true then 0 else 103
theorem Rel.read_ {D : DK} {A : AK} (h : Rel D A) (s : ByteArray) : readE D s = readA A s := by
  have hl : (fnd D s).isSome = (lkK A s).isSome := by rw [← h.lk s]; cases fnd D s <;> rfl
  have hdn : D.down = A.down := h.dn
  unfold readE reachE readA
  rw [hl, hdn]
  by_cases a : nmB s = false
  · simp [a]
  · by_cases b : A.down = true
    · simp [a, b]
    · simp [a, b]
/-- what does answers -/
def doesE (A : AK) (kd : Int) (s : ByteArray) (n : Int) (len : Nat) : Int :=
  if kd = 1 then appA A s len else if kd = 2 then chA A s else if kd = 3 then chA A s else if kd = 4 then chA A s else if kd = 5 then readA A s else if kd = 6 then (if A.down = true then 100 else 0) else if kd = 11 then (if spA A s n = true then 1 else 0) else 0
/-- the state behind it -/
def doesK (A : AK) (kd : Int) (s : ByteArray) (n af : Int) (zs : List Int) (K : LT Int) : AK :=
  if kd = 1 then appK A s zs else if kd = 2 then syncK A s else if kd = 3 then trimK A s n else if kd = 4 then rmK A s else if kd = 7 then armA A n else if kd = 8 then failA A af n else if kd = 9 then fellA A else if kd = 10 then rstK A K else if kd = 11 then spK A s n else A
/-- a call's parts, in memory of Z -/
structure OpI (w : World) (Z : Nat → Prop) (s : ByteArray) (n af : Int) (bp : Option Addr) (zs : List Int) (bc : Nat) (K : LT Int) : Prop where
  hs : s.size ≤ 140737488355328
  hn : -9223372036854775808 ≤ n ∧ n ≤ 9223372036854775807
  haf : -9223372036854775808 ≤ af ∧ af ≤ 9223372036854775807
  hB : Byts w Z bp zs.length bc (fun j => zs.getD j 0)
  hK : LT.In elInt w Z K
  hzl : zs.length ≤ 100000000
/-- the box of a call's parameter -/
def opBox (kd wh : Int) (s : ByteArray) (n af : Int) (bp : Option Addr) (zs : List Int) (bc : Nat) (K : LT Int) : Obj := .cells #[.int .i64 kd, .int .i64 wh, .string s, .int .i64 n, .int .i64 af, .slice bp zs.length bc, .slice K.p K.n K.c] 33
set_option maxHeartbeats 4000000 in
theorem does_1 (Z : Nat → Prop) (w : World) (db : Nat) (D : DK) (A : AK) (hM : DM Z w db D) (hr : Rel D A) (wh : Int) (s : ByteArray) (n af : Int) (bp : Option Addr) (zs : List Int) (bc : Nat) (K : LT Int) (hO : OpI w Z s n af bp zs bc K) :
    Calls Tryd.prog 11 #[.pointer (some ⟨db, 0, none⟩), .agg #[.int .i64 1, .int .i64 wh, .string s, .int .i64 n, .int .i64 af, .slice bp zs.length bc, .slice K.p K.n K.c]] w fun e w' => e = .returned (.int .i64 (doesE A 1 s n zs.length)) ∧ DQ Z w w' db (doesK A 1 s n af zs K) := by
  obtain ⟨C, hI, h2, h3⟩ := hM
  have hw := hr.wf hI
  obtain ⟨V, hV⟩ : ∃ V, V = w.alloc (opBox 1 wh s n af bp zs bc K) := ⟨_, rfl⟩
  have hBV : Below w.heap.size w V := by rw [hV]; exact (Below.refl _ _).alloc (Nat.le_refl _) _
  have hX : Box V w.heap.size #[.int .i64 1, .int .i64 wh, .string s, .int .i64 n, .int .i64 af, .slice bp zs.length bc, .slice K.p K.n K.c] 33 := by rw [hV]; exact Box.new _ _ _
  have hIV := hI.below hBV
  have hBd := hO.hB.kept hBV.size fun b _ hl => hBV.block b hl
  have hKd := hO.hK.below hBV
  have hZl : ∀ k, Z k → k < V.heap.size := fun k hk => Nat.lt_of_lt_of_le (h3 k hk) hBV.size
  have hCl : ∀ k, C k → ¬ Z k ∧ k < V.heap.size := fun k hk => ⟨(h2 k hk).1, Nat.lt_of_lt_of_le (h2 k hk).2 hBV.size⟩
  have HFin : Hid (∀ (w2 : World) (D' : DK) (A' : AK), Chg D' C db V w2 → Rel D' A' → DQ Z w w2 db A') := fun w2 D' A' hc hr' => by
    obtain ⟨h4, h5⟩ := DQ.of hCl hZl hc hr'
    exact ⟨h4, (Fr.of hBV).trans h5⟩
  have HBx := hid hX
  have HV := hid hV
  have HWf := hid hw
  have HR := hid hr
  have c0 := hX.cell 0
  have c2 := hX.cell 2
  have c3 := hX.cell 3
  have c4 := hX.cell 4
  have c5 := hX.cell 5
  have c6 := hX.cell 6
  have cl := hX.lt
  simp at c0 c2 c3 c4 c5 c6
  have HC := hid (dappend_any D s bp bc zs V C Z db hIV hr.ok hO.hs hBd (fun b hb hc => (hCl b hc).1 hb) hZl hO.hzl)
  clear hI h2 h3 hw hV hBV hX hIV hBd hKd hZl hCl hr hO
  go_enter Tryd.func11, Tryd.ntmps11
  go_upto_region 1 with fail
  change Code.wp _ _ _ _ (w.alloc (opBox 1 wh s n af bp zs bc K))
  rw [← HV.out]
  go_wp2_with fail
  refine HC.out.mono ?_
  intro e w2 hq
  obtain ⟨he, D', hc, hr'⟩ := HR.out.append_ HWf.out hq
  have HQ := hid (HFin.out w2 D' _ hc hr')
  subst he
  obtain ⟨x, hx⟩ : ∃ x, x = appA A s zs.length := ⟨_, rfl⟩
  rw [← hx]
  have HX := hid hx
  clear hc hr' hq HC hx c0 c2 c3 c4 c5 c6 cl
  have HNm := hid (num_any x w2)
  go_wp2_with fail
  refine HNm.out.mono ?_
  rintro e w3 ⟨rfl, hw3⟩
  subst w3
  go_wp2
  exact bodyPost_ret (v := .int .i64 x) (by simp [results, Tryd.results11, go_sem]) rfl ⟨by rw [HX.out]; rfl, HQ.out⟩
set_option maxHeartbeats 4000000 in
theorem does_2 (Z : Nat → Prop) (w : World) (db : Nat) (D : DK) (A : AK) (hM : DM Z w db D) (hr : Rel D A) (wh : Int) (s : ByteArray) (n af : Int) (bp : Option Addr) (zs : List Int) (bc : Nat) (K : LT Int) (hO : OpI w Z s n af bp zs bc K) :
    Calls Tryd.prog 11 #[.pointer (some ⟨db, 0, none⟩), .agg #[.int .i64 2, .int .i64 wh, .string s, .int .i64 n, .int .i64 af, .slice bp zs.length bc, .slice K.p K.n K.c]] w fun e w' => e = .returned (.int .i64 (doesE A 2 s n zs.length)) ∧ DQ Z w w' db (doesK A 2 s n af zs K) := by
  obtain ⟨C, hI, h2, h3⟩ := hM
  have hw := hr.wf hI
  obtain ⟨V, hV⟩ : ∃ V, V = w.alloc (opBox 2 wh s n af bp zs bc K) := ⟨_, rfl⟩
  have hBV : Below w.heap.size w V := by rw [hV]; exact (Below.refl _ _).alloc (Nat.le_refl _) _
  have hX : Box V w.heap.size #[.int .i64 2, .int .i64 wh, .string s, .int .i64 n, .int .i64 af, .slice bp zs.length bc, .slice K.p K.n K.c] 33 := by rw [hV]; exact Box.new _ _ _
  have hIV := hI.below hBV
  have hBd := hO.hB.kept hBV.size fun b _ hl => hBV.block b hl
  have hKd := hO.hK.below hBV
  have hZl : ∀ k, Z k → k < V.heap.size := fun k hk => Nat.lt_of_lt_of_le (h3 k hk) hBV.size
  have hCl : ∀ k, C k → ¬ Z k ∧ k < V.heap.size := fun k hk => ⟨(h2 k hk).1, Nat.lt_of_lt_of_le (h2 k hk).2 hBV.size⟩
  have HFin : Hid (∀ (w2 : World) (D' : DK) (A' : AK), Chg D' C db V w2 → Rel D' A' → DQ Z w w2 db A') := fun w2 D' A' hc hr' => by
    obtain ⟨h4, h5⟩ := DQ.of hCl hZl hc hr'
    exact ⟨h4, (Fr.of hBV).trans h5⟩
  have HBx := hid hX
  have HV := hid hV
  have HWf := hid hw
  have HR := hid hr
  have c0 := hX.cell 0
  have c2 := hX.cell 2
  have c3 := hX.cell 3
  have c4 := hX.cell 4
  have c5 := hX.cell 5
  have c6 := hX.cell 6
  have cl := hX.lt
  simp at c0 c2 c3 c4 c5 c6
  have HC := hid (dsync_any D s V C db hIV hr.ok hO.hs)
  clear hI h2 h3 hw hV hBV hX hIV hBd hKd hZl hCl hr hO
  go_enter Tryd.func11, Tryd.ntmps11
  go_upto_region 1 with fail
  change Code.wp _ _ _ _ (w.alloc (opBox 2 wh s n af bp zs bc K))
  rw [← HV.out]
  go_wp2_with fail
  refine HC.out.mono ?_
  intro e w2 hq
  obtain ⟨he, D', hc, hr'⟩ := (⟨by rw [hq.1, (HR.out.chA_ HWf.out s).1], _, hq.2, HR.out.sync_ HWf.out s⟩ : e = .returned (.int .i64 (chA A s)) ∧ ∃ D', Chg D' C db V w2 ∧ Rel D' (syncK A s))
  have HQ := hid (HFin.out w2 D' _ hc hr')
  subst he
  obtain ⟨x, hx⟩ : ∃ x, x = chA A s := ⟨_, rfl⟩
  rw [← hx]
  have HX := hid hx
  clear hc hr' hq HC hx c0 c2 c3 c4 c5 c6 cl
  have HNm := hid (num_any x w2)
  go_wp2_with fail
  refine HNm.out.mono ?_
  rintro e w3 ⟨rfl, hw3⟩
  subst w3
  go_wp2
  exact bodyPost_ret (v := .int .i64 x) (by simp [results, Tryd.results11, go_sem]) rfl ⟨by rw [HX.out]; rfl, HQ.out⟩
set_option maxHeartbeats 4000000 in
theorem does_3 (Z : Nat → Prop) (w : World) (db : Nat) (D : DK) (A : AK) (hM : DM Z w db D) (hr : Rel D A) (wh : Int) (s : ByteArray) (n af : Int) (bp : Option Addr) (zs : List Int) (bc : Nat) (K : LT Int) (hO : OpI w Z s n af bp zs bc K) :
    Calls Tryd.prog 11 #[.pointer (some ⟨db, 0, none⟩), .agg #[.int .i64 3, .int .i64 wh, .string s, .int .i64 n, .int .i64 af, .slice bp zs.length bc, .slice K.p K.n K.c]] w fun e w' => e = .returned (.int .i64 (doesE A 3 s n zs.length)) ∧ DQ Z w w' db (doesK A 3 s n af zs K) := by
  obtain ⟨C, hI, h2, h3⟩ := hM
  have hw := hr.wf hI
  obtain ⟨V, hV⟩ : ∃ V, V = w.alloc (opBox 3 wh s n af bp zs bc K) := ⟨_, rfl⟩
  have hBV : Below w.heap.size w V := by rw [hV]; exact (Below.refl _ _).alloc (Nat.le_refl _) _
  have hX : Box V w.heap.size #[.int .i64 3, .int .i64 wh, .string s, .int .i64 n, .int .i64 af, .slice bp zs.length bc, .slice K.p K.n K.c] 33 := by rw [hV]; exact Box.new _ _ _
  have hIV := hI.below hBV
  have hBd := hO.hB.kept hBV.size fun b _ hl => hBV.block b hl
  have hKd := hO.hK.below hBV
  have hZl : ∀ k, Z k → k < V.heap.size := fun k hk => Nat.lt_of_lt_of_le (h3 k hk) hBV.size
  have hCl : ∀ k, C k → ¬ Z k ∧ k < V.heap.size := fun k hk => ⟨(h2 k hk).1, Nat.lt_of_lt_of_le (h2 k hk).2 hBV.size⟩
  have HFin : Hid (∀ (w2 : World) (D' : DK) (A' : AK), Chg D' C db V w2 → Rel D' A' → DQ Z w w2 db A') := fun w2 D' A' hc hr' => by
    obtain ⟨h4, h5⟩ := DQ.of hCl hZl hc hr'
    exact ⟨h4, (Fr.of hBV).trans h5⟩
  have HBx := hid hX
  have HV := hid hV
  have HWf := hid hw
  have HR := hid hr
  have c0 := hX.cell 0
  have c2 := hX.cell 2
  have c3 := hX.cell 3
  have c4 := hX.cell 4
  have c5 := hX.cell 5
  have c6 := hX.cell 6
  have cl := hX.lt
  simp at c0 c2 c3 c4 c5 c6
  have HC := hid (dtrim_any D s n V C db hIV hr.ok hO.hs hO.hn.2)
  clear hI h2 h3 hw hV hBV hX hIV hBd hKd hZl hCl hr hO
  go_enter Tryd.func11, Tryd.ntmps11
  go_upto_region 1 with fail
  change Code.wp _ _ _ _ (w.alloc (opBox 3 wh s n af bp zs bc K))
  rw [← HV.out]
  go_wp2_with fail
  refine HC.out.mono ?_
  intro e w2 hq
  obtain ⟨he, D', hc, hr'⟩ := HR.out.trim_ HWf.out hq
  have HQ := hid (HFin.out w2 D' _ hc hr')
  subst he
  obtain ⟨x, hx⟩ : ∃ x, x = chA A s := ⟨_, rfl⟩
  rw [← hx]
  have HX := hid hx
  clear hc hr' hq HC hx c0 c2 c3 c4 c5 c6 cl
  have HNm := hid (num_any x w2)
  go_wp2_with fail
  refine HNm.out.mono ?_
  rintro e w3 ⟨rfl, hw3⟩
  subst w3
  go_wp2
  exact bodyPost_ret (v := .int .i64 x) (by simp [results, Tryd.results11, go_sem]) rfl ⟨by rw [HX.out]; rfl, HQ.out⟩
set_option maxHeartbeats 4000000 in
theorem does_4 (Z : Nat → Prop) (w : World) (db : Nat) (D : DK) (A : AK) (hM : DM Z w db D) (hr : Rel D A) (wh : Int) (s : ByteArray) (n af : Int) (bp : Option Addr) (zs : List Int) (bc : Nat) (K : LT Int) (hO : OpI w Z s n af bp zs bc K) :
    Calls Tryd.prog 11 #[.pointer (some ⟨db, 0, none⟩), .agg #[.int .i64 4, .int .i64 wh, .string s, .int .i64 n, .int .i64 af, .slice bp zs.length bc, .slice K.p K.n K.c]] w fun e w' => e = .returned (.int .i64 (doesE A 4 s n zs.length)) ∧ DQ Z w w' db (doesK A 4 s n af zs K) := by
  obtain ⟨C, hI, h2, h3⟩ := hM
  have hw := hr.wf hI
  obtain ⟨V, hV⟩ : ∃ V, V = w.alloc (opBox 4 wh s n af bp zs bc K) := ⟨_, rfl⟩
  have hBV : Below w.heap.size w V := by rw [hV]; exact (Below.refl _ _).alloc (Nat.le_refl _) _
  have hX : Box V w.heap.size #[.int .i64 4, .int .i64 wh, .string s, .int .i64 n, .int .i64 af, .slice bp zs.length bc, .slice K.p K.n K.c] 33 := by rw [hV]; exact Box.new _ _ _
  have hIV := hI.below hBV
  have hBd := hO.hB.kept hBV.size fun b _ hl => hBV.block b hl
  have hKd := hO.hK.below hBV
  have hZl : ∀ k, Z k → k < V.heap.size := fun k hk => Nat.lt_of_lt_of_le (h3 k hk) hBV.size
  have hCl : ∀ k, C k → ¬ Z k ∧ k < V.heap.size := fun k hk => ⟨(h2 k hk).1, Nat.lt_of_lt_of_le (h2 k hk).2 hBV.size⟩
  have HFin : Hid (∀ (w2 : World) (D' : DK) (A' : AK), Chg D' C db V w2 → Rel D' A' → DQ Z w w2 db A') := fun w2 D' A' hc hr' => by
    obtain ⟨h4, h5⟩ := DQ.of hCl hZl hc hr'
    exact ⟨h4, (Fr.of hBV).trans h5⟩
  have HBx := hid hX
  have HV := hid hV
  have HWf := hid hw
  have HR := hid hr
  have c0 := hX.cell 0
  have c2 := hX.cell 2
  have c3 := hX.cell 3
  have c4 := hX.cell 4
  have c5 := hX.cell 5
  have c6 := hX.cell 6
  have cl := hX.lt
  simp at c0 c2 c3 c4 c5 c6
  have HC := hid (dremove_any D s V C db hIV hr.ok hO.hs)
  clear hI h2 h3 hw hV hBV hX hIV hBd hKd hZl hCl hr hO
  go_enter Tryd.func11, Tryd.ntmps11
  go_upto_region 1 with fail
  change Code.wp _ _ _ _ (w.alloc (opBox 4 wh s n af bp zs bc K))
  rw [← HV.out]
  go_wp2_with fail
  refine HC.out.mono ?_
  intro e w2 hq
  obtain ⟨he, D', hc, hr'⟩ := (⟨by rw [hq.1, (HR.out.chA_ HWf.out s).1], _, hq.2, HR.out.remove_ HWf.out s⟩ : e = .returned (.int .i64 (chA A s)) ∧ ∃ D', Chg D' C db V w2 ∧ Rel D' (rmK A s))
  have HQ := hid (HFin.out w2 D' _ hc hr')
  subst he
  obtain ⟨x, hx⟩ : ∃ x, x = chA A s := ⟨_, rfl⟩
  rw [← hx]
  have HX := hid hx
  clear hc hr' hq HC hx c0 c2 c3 c4 c5 c6 cl
  have HNm := hid (num_any x w2)
  go_wp2_with fail
  refine HNm.out.mono ?_
  rintro e w3 ⟨rfl, hw3⟩
  subst w3
  go_wp2
  exact bodyPost_ret (v := .int .i64 x) (by simp [results, Tryd.results11, go_sem]) rfl ⟨by rw [HX.out]; rfl, HQ.out⟩
set_option maxHeartbeats 4000000 in
theorem does_7 (Z : Nat → Prop) (w : World) (db : Nat) (D : DK) (A : AK) (hM : DM Z w db D) (hr : Rel D A) (wh : Int) (s : ByteArray) (n af : Int) (bp : Option Addr) (zs : List Int) (bc : Nat) (K : LT Int) (hO : OpI w Z s n af bp zs bc K) :
    Calls Tryd.prog 11 #[.pointer (some ⟨db, 0, none⟩), .agg #[.int .i64 7, .int .i64 wh, .string s, .int .i64 n, .int .i64 af, .slice bp zs.length bc, .slice K.p K.n K.c]] w fun e w' => e = .returned (.int .i64 (doesE A 7 s n zs.length)) ∧ DQ Z w w' db (doesK A 7 s n af zs K) := by
  obtain ⟨C, hI, h2, h3⟩ := hM
  have hw := hr.wf hI
  obtain ⟨V, hV⟩ : ∃ V, V = w.alloc (opBox 7 wh s n af bp zs bc K) := ⟨_, rfl⟩
  have hBV : Below w.heap.size w V := by rw [hV]; exact (Below.refl _ _).alloc (Nat.le_refl _) _
  have hX : Box V w.heap.size #[.int .i64 7, .int .i64 wh, .string s, .int .i64 n, .int .i64 af, .slice bp zs.length bc, .slice K.p K.n K.c] 33 := by rw [hV]; exact Box.new _ _ _
  have hIV := hI.below hBV
  have hBd := hO.hB.kept hBV.size fun b _ hl => hBV.block b hl
  have hKd := hO.hK.below hBV
  have hZl : ∀ k, Z k → k < V.heap.size := fun k hk => Nat.lt_of_lt_of_le (h3 k hk) hBV.size
  have hCl : ∀ k, C k → ¬ Z k ∧ k < V.heap.size := fun k hk => ⟨(h2 k hk).1, Nat.lt_of_lt_of_le (h2 k hk).2 hBV.size⟩
  have HFin : Hid (∀ (w2 : World) (D' : DK) (A' : AK), Chg D' C db V w2 → Rel D' A' → DQ Z w w2 db A') := fun w2 D' A' hc hr' => by
    obtain ⟨h4, h5⟩ := DQ.of hCl hZl hc hr'
    exact ⟨h4, (Fr.of hBV).trans h5⟩
  have HBx := hid hX
  have HV := hid hV
  have HWf := hid hw
  have HR := hid hr
  have c0 := hX.cell 0
  have c2 := hX.cell 2
  have c3 := hX.cell 3
  have c4 := hX.cell 4
  have c5 := hX.cell 5
  have c6 := hX.cell 6
  have cl := hX.lt
  simp at c0 c2 c3 c4 c5 c6
  have HC := hid (darm_any D n V C db hIV hO.hn.2)
  clear hI h2 h3 hw hV hBV hX hIV hBd hKd hZl hCl hr hO
  go_enter Tryd.func11, Tryd.ntmps11
  go_upto_region 1 with fail
  change Code.wp _ _ _ _ (w.alloc (opBox 7 wh s n af bp zs bc K))
  rw [← HV.out]
  go_wp2_with fail
  refine HC.out.mono ?_
  intro e w2 hq
  obtain ⟨he, D', hc, hr'⟩ : e = .returned (.tuple #[]) ∧ ∃ D', Chg D' C db V w2 ∧ Rel D' (doesK A 7 s n af zs K) := ⟨hq.1, _, hq.2.chg, HR.out.arm_ n⟩
  have HQ := hid (HFin.out w2 D' _ hc hr')
  subst he
  clear hc hr' hq HC c0 c2 c3 c4 c5 c6 cl
  go_wp2
  exact bodyPost_ret (v := .int .i64 0) (by simp [results, Tryd.results11, go_sem]) rfl ⟨rfl, HQ.out⟩
set_option maxHeartbeats 4000000 in
theorem does_8 (Z : Nat → Prop) (w : World) (db : Nat) (D : DK) (A : AK) (hM : DM Z w db D) (hr : Rel D A) (wh : Int) (s : ByteArray) (n af : Int) (bp : Option Addr) (zs : List Int) (bc : Nat) (K : LT Int) (hO : OpI w Z s n af bp zs bc K) :
    Calls Tryd.prog 11 #[.pointer (some ⟨db, 0, none⟩), .agg #[.int .i64 8, .int .i64 wh, .string s, .int .i64 n, .int .i64 af, .slice bp zs.length bc, .slice K.p K.n K.c]] w fun e w' => e = .returned (.int .i64 (doesE A 8 s n zs.length)) ∧ DQ Z w w' db (doesK A 8 s n af zs K) := by
  obtain ⟨C, hI, h2, h3⟩ := hM
  have hw := hr.wf hI
  obtain ⟨V, hV⟩ : ∃ V, V = w.alloc (opBox 8 wh s n af bp zs bc K) := ⟨_, rfl⟩
  have hBV : Below w.heap.size w V := by rw [hV]; exact (Below.refl _ _).alloc (Nat.le_refl _) _
  have hX : Box V w.heap.size #[.int .i64 8, .int .i64 wh, .string s, .int .i64 n, .int .i64 af, .slice bp zs.length bc, .slice K.p K.n K.c] 33 := by rw [hV]; exact Box.new _ _ _
  have hIV := hI.below hBV
  have hBd := hO.hB.kept hBV.size fun b _ hl => hBV.block b hl
  have hKd := hO.hK.below hBV
  have hZl : ∀ k, Z k → k < V.heap.size := fun k hk => Nat.lt_of_lt_of_le (h3 k hk) hBV.size
  have hCl : ∀ k, C k → ¬ Z k ∧ k < V.heap.size := fun k hk => ⟨(h2 k hk).1, Nat.lt_of_lt_of_le (h2 k hk).2 hBV.size⟩
  have HFin : Hid (∀ (w2 : World) (D' : DK) (A' : AK), Chg D' C db V w2 → Rel D' A' → DQ Z w w2 db A') := fun w2 D' A' hc hr' => by
    obtain ⟨h4, h5⟩ := DQ.of hCl hZl hc hr'
    exact ⟨h4, (Fr.of hBV).trans h5⟩
  have HBx := hid hX
  have HV := hid hV
  have HWf := hid hw
  have HR := hid hr
  have c0 := hX.cell 0
  have c2 := hX.cell 2
  have c3 := hX.cell 3
  have c4 := hX.cell 4
  have c5 := hX.cell 5
  have c6 := hX.cell 6
  have cl := hX.lt
  simp at c0 c2 c3 c4 c5 c6
  have HC := hid (dfail_any D af n V C db hIV hO.haf.2 hO.hn.2)
  clear hI h2 h3 hw hV hBV hX hIV hBd hKd hZl hCl hr hO
  go_enter Tryd.func11, Tryd.ntmps11
  go_upto_region 1 with fail
  change Code.wp _ _ _ _ (w.alloc (opBox 8 wh s n af bp zs bc K))
  rw [← HV.out]
  go_wp2_with fail
  refine HC.out.mono ?_
  intro e w2 hq
  obtain ⟨he, D', hc, hr'⟩ : e = .returned (.tuple #[]) ∧ ∃ D', Chg D' C db V w2 ∧ Rel D' (doesK A 8 s n af zs K) := ⟨hq.1, _, hq.2.chg, HR.out.fail_ af n⟩
  have HQ := hid (HFin.out w2 D' _ hc hr')
  subst he
  clear hc hr' hq HC c0 c2 c3 c4 c5 c6 cl
  go_wp2
  exact bodyPost_ret (v := .int .i64 0) (by simp [results, Tryd.results11, go_sem]) rfl ⟨rfl, HQ.out⟩
set_option maxHeartbeats 4000000 in
theorem does_9 (Z : Nat → Prop) (w : World) (db : Nat) (D : DK) (A : AK) (hM : DM Z w db D) (hr : Rel D A) (wh : Int) (s : ByteArray) (n af : Int) (bp : Option Addr) (zs : List Int) (bc : Nat) (K : LT Int) (hO : OpI w Z s n af bp zs bc K) :
    Calls Tryd.prog 11 #[.pointer (some ⟨db, 0, none⟩), .agg #[.int .i64 9, .int .i64 wh, .string s, .int .i64 n, .int .i64 af, .slice bp zs.length bc, .slice K.p K.n K.c]] w fun e w' => e = .returned (.int .i64 (doesE A 9 s n zs.length)) ∧ DQ Z w w' db (doesK A 9 s n af zs K) := by
  obtain ⟨C, hI, h2, h3⟩ := hM
  have hw := hr.wf hI
  obtain ⟨V, hV⟩ : ∃ V, V = w.alloc (opBox 9 wh s n af bp zs bc K) := ⟨_, rfl⟩
  have hBV : Below w.heap.size w V := by rw [hV]; exact (Below.refl _ _).alloc (Nat.le_refl _) _
  have hX : Box V w.heap.size #[.int .i64 9, .int .i64 wh, .string s, .int .i64 n, .int .i64 af, .slice bp zs.length bc, .slice K.p K.n K.c] 33 := by rw [hV]; exact Box.new _ _ _
  have hIV := hI.below hBV
  have hBd := hO.hB.kept hBV.size fun b _ hl => hBV.block b hl
  have hKd := hO.hK.below hBV
  have hZl : ∀ k, Z k → k < V.heap.size := fun k hk => Nat.lt_of_lt_of_le (h3 k hk) hBV.size
  have hCl : ∀ k, C k → ¬ Z k ∧ k < V.heap.size := fun k hk => ⟨(h2 k hk).1, Nat.lt_of_lt_of_le (h2 k hk).2 hBV.size⟩
  have HFin : Hid (∀ (w2 : World) (D' : DK) (A' : AK), Chg D' C db V w2 → Rel D' A' → DQ Z w w2 db A') := fun w2 D' A' hc hr' => by
    obtain ⟨h4, h5⟩ := DQ.of hCl hZl hc hr'
    exact ⟨h4, (Fr.of hBV).trans h5⟩
  have HBx := hid hX
  have HV := hid hV
  have HWf := hid hw
  have HR := hid hr
  have c0 := hX.cell 0
  have c2 := hX.cell 2
  have c3 := hX.cell 3
  have c4 := hX.cell 4
  have c5 := hX.cell 5
  have c6 := hX.cell 6
  have cl := hX.lt
  simp at c0 c2 c3 c4 c5 c6
  have HC := hid (dcrash_any D V C db hIV)
  clear hI h2 h3 hw hV hBV hX hIV hBd hKd hZl hCl hr hO
  go_enter Tryd.func11, Tryd.ntmps11
  go_upto_region 1 with fail
  change Code.wp _ _ _ _ (w.alloc (opBox 9 wh s n af bp zs bc K))
  rw [← HV.out]
  go_wp2_with fail
  refine HC.out.mono ?_
  intro e w2 hq
  obtain ⟨he, D', hc, hr'⟩ : e = .returned (.tuple #[]) ∧ ∃ D', Chg D' C db V w2 ∧ Rel D' (doesK A 9 s n af zs K) := ⟨hq.1, _, hq.2.chg, HR.out.fell_⟩
  have HQ := hid (HFin.out w2 D' _ hc hr')
  subst he
  clear hc hr' hq HC c0 c2 c3 c4 c5 c6 cl
  go_wp2
  exact bodyPost_ret (v := .int .i64 0) (by simp [results, Tryd.results11, go_sem]) rfl ⟨rfl, HQ.out⟩
set_option maxHeartbeats 4000000 in
theorem does_10 (Z : Nat → Prop) (w : World) (db : Nat) (D : DK) (A : AK) (hM : DM Z w db D) (hr : Rel D A) (wh : Int) (s : ByteArray) (n af : Int) (bp : Option Addr) (zs : List Int) (bc : Nat) (K : LT Int) (hO : OpI w Z s n af bp zs bc K) :
    Calls Tryd.prog 11 #[.pointer (some ⟨db, 0, none⟩), .agg #[.int .i64 10, .int .i64 wh, .string s, .int .i64 n, .int .i64 af, .slice bp zs.length bc, .slice K.p K.n K.c]] w fun e w' => e = .returned (.int .i64 (doesE A 10 s n zs.length)) ∧ DQ Z w w' db (doesK A 10 s n af zs K) := by
  obtain ⟨C, hI, h2, h3⟩ := hM
  have hw := hr.wf hI
  obtain ⟨V, hV⟩ : ∃ V, V = w.alloc (opBox 10 wh s n af bp zs bc K) := ⟨_, rfl⟩
  have hBV : Below w.heap.size w V := by rw [hV]; exact (Below.refl _ _).alloc (Nat.le_refl _) _
  have hX : Box V w.heap.size #[.int .i64 10, .int .i64 wh, .string s, .int .i64 n, .int .i64 af, .slice bp zs.length bc, .slice K.p K.n K.c] 33 := by rw [hV]; exact Box.new _ _ _
  have hIV := hI.below hBV
  have hBd := hO.hB.kept hBV.size fun b _ hl => hBV.block b hl
  have hKd := hO.hK.below hBV
  have hZl : ∀ k, Z k → k < V.heap.size := fun k hk => Nat.lt_of_lt_of_le (h3 k hk) hBV.size
  have hCl : ∀ k, C k → ¬ Z k ∧ k < V.heap.size := fun k hk => ⟨(h2 k hk).1, Nat.lt_of_lt_of_le (h2 k hk).2 hBV.size⟩
  have HFin : Hid (∀ (w2 : World) (D' : DK) (A' : AK), Chg D' C db V w2 → Rel D' A' → DQ Z w w2 db A') := fun w2 D' A' hc hr' => by
    obtain ⟨h4, h5⟩ := DQ.of hCl hZl hc hr'
    exact ⟨h4, (Fr.of hBV).trans h5⟩
  have HBx := hid hX
  have HV := hid hV
  have HWf := hid hw
  have HR := hid hr
  have c0 := hX.cell 0
  have c2 := hX.cell 2
  have c3 := hX.cell 3
  have c4 := hX.cell 4
  have c5 := hX.cell 5
  have c6 := hX.cell 6
  have cl := hX.lt
  simp at c0 c2 c3 c4 c5 c6
  have HC := hid (drestart_any D K V C db hIV (hKd.mono fun k hk _ hc => (hCl k hc).1 hk))
  have HIV := hid hIV
  clear hI h2 h3 hw hV hBV hX hIV hBd hKd hZl hCl hr hO
  go_enter Tryd.func11, Tryd.ntmps11
  go_upto_region 1 with fail
  change Code.wp _ _ _ _ (w.alloc (opBox 10 wh s n af bp zs bc K))
  rw [← HV.out]
  go_wp2_with fail
  refine HC.out.mono ?_
  intro e w2 hq
  obtain ⟨he, D', hc, hr'⟩ : e = .returned (.tuple #[]) ∧ ∃ D', Chg D' C db V w2 ∧ Rel D' (doesK A 10 s n af zs K) := ⟨hq.1, HR.out.rst_ HWf.out (fun f hf => (HIV.out.each f hf).nm) HIV.out.nodup hq.2⟩
  have HQ := hid (HFin.out w2 D' _ hc hr')
  subst he
  clear hc hr' hq HC c0 c2 c3 c4 c5 c6 cl
  go_wp2
  exact bodyPost_ret (v := .int .i64 0) (by simp [results, Tryd.results11, go_sem]) rfl ⟨rfl, HQ.out⟩
set_option maxHeartbeats 4000000 in
theorem does_11 (Z : Nat → Prop) (w : World) (db : Nat) (D : DK) (A : AK) (hM : DM Z w db D) (hr : Rel D A) (wh : Int) (s : ByteArray) (n af : Int) (bp : Option Addr) (zs : List Int) (bc : Nat) (K : LT Int) (hO : OpI w Z s n af bp zs bc K) :
    Calls Tryd.prog 11 #[.pointer (some ⟨db, 0, none⟩), .agg #[.int .i64 11, .int .i64 wh, .string s, .int .i64 n, .int .i64 af, .slice bp zs.length bc, .slice K.p K.n K.c]] w fun e w' => e = .returned (.int .i64 (doesE A 11 s n zs.length)) ∧ DQ Z w w' db (doesK A 11 s n af zs K) := by
  obtain ⟨C, hI, h2, h3⟩ := hM
  have hw := hr.wf hI
  obtain ⟨V, hV⟩ : ∃ V, V = w.alloc (opBox 11 wh s n af bp zs bc K) := ⟨_, rfl⟩
  have hBV : Below w.heap.size w V := by rw [hV]; exact (Below.refl _ _).alloc (Nat.le_refl _) _
  have hX : Box V w.heap.size #[.int .i64 11, .int .i64 wh, .string s, .int .i64 n, .int .i64 af, .slice bp zs.length bc, .slice K.p K.n K.c] 33 := by rw [hV]; exact Box.new _ _ _
  have hIV := hI.below hBV
  have hBd := hO.hB.kept hBV.size fun b _ hl => hBV.block b hl
  have hKd := hO.hK.below hBV
  have hZl : ∀ k, Z k → k < V.heap.size := fun k hk => Nat.lt_of_lt_of_le (h3 k hk) hBV.size
  have hCl : ∀ k, C k → ¬ Z k ∧ k < V.heap.size := fun k hk => ⟨(h2 k hk).1, Nat.lt_of_lt_of_le (h2 k hk).2 hBV.size⟩
  have HFin : Hid (∀ (w2 : World) (D' : DK) (A' : AK), Chg D' C db V w2 → Rel D' A' → DQ Z w w2 db A') := fun w2 D' A' hc hr' => by
    obtain ⟨h4, h5⟩ := DQ.of hCl hZl hc hr'
    exact ⟨h4, (Fr.of hBV).trans h5⟩
  have HBx := hid hX
  have HV := hid hV
  have HWf := hid hw
  have HR := hid hr
  have c0 := hX.cell 0
  have c2 := hX.cell 2
  have c3 := hX.cell 3
  have c4 := hX.cell 4
  have c5 := hX.cell 5
  have c6 := hX.cell 6
  have cl := hX.lt
  simp at c0 c2 c3 c4 c5 c6
  have HC := hid (dspoil_any D s n V C db hIV hO.hs hO.hn.2 hO.hn.1)
  clear hI h2 h3 hw hV hBV hX hIV hBd hKd hZl hCl hr hO
  go_enter Tryd.func11, Tryd.ntmps11
  go_upto_region 1 with fail
  change Code.wp _ _ _ _ (w.alloc (opBox 11 wh s n af bp zs bc K))
  rw [← HV.out]
  go_wp2_with fail
  refine HC.out.mono ?_
  intro e w2 hq
  obtain ⟨he, D', hc, hr'⟩ := HR.out.spoil_ hq
  have HQ := hid (HFin.out w2 D' _ hc hr')
  subst he
  clear hc hr' hq HC c0 c2 c3 c4 c5 c6 cl
  have HE : Hid (∀ b : Bool, spA A s n = b → doesE A 11 s n zs.length = if b = true then 1 else 0) := fun b hb => by
    rw [← hb]
    rfl
  cases hb : spA A s n with
  | false =>
    have HEb := hid (HE.out false hb)
    clear hb HE
    go_wp2
    exact bodyPost_ret (v := .int .i64 0) (by simp [results, Tryd.results11, go_sem]) rfl ⟨by rw [HEb.out]; rfl, HQ.out⟩
  | true =>
    have HEb := hid (HE.out true hb)
    clear hb HE
    go_wp2
    exact bodyPost_ret (v := .int .i64 1) (by simp [results, Tryd.results11, go_sem]) rfl ⟨by rw [HEb.out]; rfl, HQ.out⟩
set_option maxHeartbeats 4000000 in
theorem does_5 (Z : Nat → Prop) (w : World) (db : Nat) (D : DK) (A : AK) (hM : DM Z w db D) (hr : Rel D A) (wh : Int) (s : ByteArray) (n af : Int) (bp : Option Addr) (zs : List Int) (bc : Nat) (K : LT Int) (hO : OpI w Z s n af bp zs bc K) :
    Calls Tryd.prog 11 #[.pointer (some ⟨db, 0, none⟩), .agg #[.int .i64 5, .int .i64 wh, .string s, .int .i64 n, .int .i64 af, .slice bp zs.length bc, .slice K.p K.n K.c]] w fun e w' => e = .returned (.int .i64 (doesE A 5 s n zs.length)) ∧ DQ Z w w' db (doesK A 5 s n af zs K) := by
  obtain ⟨C, hI, h2, h3⟩ := hM
  have hw := hr.wf hI
  obtain ⟨V, hV⟩ : ∃ V, V = w.alloc (opBox 5 wh s n af bp zs bc K) := ⟨_, rfl⟩
  have hBV : Below w.heap.size w V := by rw [hV]; exact (Below.refl _ _).alloc (Nat.le_refl _) _
  have hX : Box V w.heap.size #[.int .i64 5, .int .i64 wh, .string s, .int .i64 n, .int .i64 af, .slice bp zs.length bc, .slice K.p K.n K.c] 33 := by rw [hV]; exact Box.new _ _ _
  have hIV := hI.below hBV
  have hBd := hO.hB.kept hBV.size fun b _ hl => hBV.block b hl
  have hKd := hO.hK.below hBV
  have hZl : ∀ k, Z k → k < V.heap.size := fun k hk => Nat.lt_of_lt_of_le (h3 k hk) hBV.size
  have hCl : ∀ k, C k → ¬ Z k ∧ k < V.heap.size := fun k hk => ⟨(h2 k hk).1, Nat.lt_of_lt_of_le (h2 k hk).2 hBV.size⟩
  have HFin : Hid (∀ (w2 : World) (D' : DK) (A' : AK), Chg D' C db V w2 → Rel D' A' → DQ Z w w2 db A') := fun w2 D' A' hc hr' => by
    obtain ⟨h4, h5⟩ := DQ.of hCl hZl hc hr'
    exact ⟨h4, (Fr.of hBV).trans h5⟩
  have HBx := hid hX
  have HV := hid hV
  have HWf := hid hw
  have HR := hid hr
  have c0 := hX.cell 0
  have c2 := hX.cell 2
  have c3 := hX.cell 3
  have c4 := hX.cell 4
  have c5 := hX.cell 5
  have c6 := hX.cell 6
  have cl := hX.lt
  simp at c0 c2 c3 c4 c5 c6
  have HC := hid (dread_any D s V C db hIV hO.hs)
  have HIV := hid hIV
  clear hI h2 h3 hw hV hBV hX hIV hBd hKd hZl hCl hr hO
  go_enter Tryd.func11, Tryd.ntmps11
  go_upto_region 1 with fail
  change Code.wp _ _ _ _ (w.alloc (opBox 5 wh s n af bp zs bc K))
  rw [← HV.out]
  go_wp2_with fail
  refine HC.out.mono ?_
  rintro e w2 ⟨rp, rc, he, _, hb2⟩
  have HQ := hid (HFin.out w2 D A (HIV.out.chg hb2) HR.out)
  rw [HR.out.read_ s] at he
  subst he
  obtain ⟨x, hx⟩ : ∃ x, x = readA A s := ⟨_, rfl⟩
  rw [← hx]
  have HX := hid hx
  clear hb2 HIV HC hx c0 c2 c3 c4 c5 c6 cl
  have HNm := hid (num_any x w2)
  go_wp2_with fail
  refine HNm.out.mono ?_
  rintro e w3 ⟨rfl, hw3⟩
  subst w3
  go_wp2
  exact bodyPost_ret (v := .int .i64 x) (by simp [results, Tryd.results11, go_sem]) rfl ⟨by rw [HX.out]; rfl, HQ.out⟩
set_option maxHeartbeats 4000000 in
theorem does_6 (Z : Nat → Prop) (w : World) (db : Nat) (D : DK) (A : AK) (hM : DM Z w db D) (hr : Rel D A) (wh : Int) (s : ByteArray) (n af : Int) (bp : Option Addr) (zs : List Int) (bc : Nat) (K : LT Int) (hO : OpI w Z s n af bp zs bc K) :
    Calls Tryd.prog 11 #[.pointer (some ⟨db, 0, none⟩), .agg #[.int .i64 6, .int .i64 wh, .string s, .int .i64 n, .int .i64 af, .slice bp zs.length bc, .slice K.p K.n K.c]] w fun e w' => e = .returned (.int .i64 (doesE A 6 s n zs.length)) ∧ DQ Z w w' db (doesK A 6 s n af zs K) := by
  obtain ⟨C, hI, h2, h3⟩ := hM
  have hw := hr.wf hI
  obtain ⟨V, hV⟩ : ∃ V, V = w.alloc (opBox 6 wh s n af bp zs bc K) := ⟨_, rfl⟩
  have hBV : Below w.heap.size w V := by rw [hV]; exact (Below.refl _ _).alloc (Nat.le_refl _) _
  have hX : Box V w.heap.size #[.int .i64 6, .int .i64 wh, .string s, .int .i64 n, .int .i64 af, .slice bp zs.length bc, .slice K.p K.n K.c] 33 := by rw [hV]; exact Box.new _ _ _
  have hIV := hI.below hBV
  have hBd := hO.hB.kept hBV.size fun b _ hl => hBV.block b hl
  have hKd := hO.hK.below hBV
  have hZl : ∀ k, Z k → k < V.heap.size := fun k hk => Nat.lt_of_lt_of_le (h3 k hk) hBV.size
  have hCl : ∀ k, C k → ¬ Z k ∧ k < V.heap.size := fun k hk => ⟨(h2 k hk).1, Nat.lt_of_lt_of_le (h2 k hk).2 hBV.size⟩
  have HFin : Hid (∀ (w2 : World) (D' : DK) (A' : AK), Chg D' C db V w2 → Rel D' A' → DQ Z w w2 db A') := fun w2 D' A' hc hr' => by
    obtain ⟨h4, h5⟩ := DQ.of hCl hZl hc hr'
    exact ⟨h4, (Fr.of hBV).trans h5⟩
  have HBx := hid hX
  have HV := hid hV
  have HWf := hid hw
  have HR := hid hr
  have c0 := hX.cell 0
  have c2 := hX.cell 2
  have c3 := hX.cell 3
  have c4 := hX.cell 4
  have c5 := hX.cell 5
  have c6 := hX.cell 6
  have cl := hX.lt
  simp at c0 c2 c3 c4 c5 c6
  have HC := hid (dlist_any D V C db hIV)
  have HIV := hid hIV
  clear hI h2 h3 hw hV hBV hX hIV hBd hKd hZl hCl hr hO
  go_enter Tryd.func11, Tryd.ntmps11
  go_upto_region 1 with fail
  change Code.wp _ _ _ _ (w.alloc (opBox 6 wh s n af bp zs bc K))
  rw [← HV.out]
  go_wp2_with fail
  refine HC.out.mono ?_
  rintro e w2 ⟨hb2, hq1, hq2⟩
  have HQ := hid (HFin.out w2 D A (HIV.out.chg hb2) HR.out)
  have hdn : D.down = A.down := HR.out.dn
  obtain ⟨v, he⟩ : ∃ v : Value, e = .returned (.tuple #[v, .int .i64 (if A.down = true then 100 else 0)]) := by
    cases hd : D.down with
    | true => exact ⟨_, by rw [hq1 hd, ← hdn, hd]; rfl⟩
    | false =>
      obtain ⟨u, _, he, _⟩ := hq2 hd
      exact ⟨_, by rw [he, ← hdn, hd]; rfl⟩
  subst he
  obtain ⟨x, hx⟩ : ∃ x, x = (if A.down = true then (100 : Int) else 0) := ⟨_, rfl⟩
  rw [← hx]
  have HX := hid hx
  clear hb2 HIV hq1 hq2 hdn HC hx c0 c2 c3 c4 c5 c6 cl
  have HNm := hid (num_any x w2)
  go_wp2_with fail
  refine HNm.out.mono ?_
  rintro e w3 ⟨rfl, hw3⟩
  subst w3
  go_wp2
  exact bodyPost_ret (v := .int .i64 x) (by simp [results, Tryd.results11, go_sem]) rfl ⟨by rw [HX.out]; rfl, HQ.out⟩
set_option maxHeartbeats 4000000 in
theorem does_0 (Z : Nat → Prop) (w : World) (db : Nat) (D : DK) (A : AK) (hM : DM Z w db D) (hr : Rel D A) (kd wh : Int) (s : ByteArray) (n af : Int) (bp : Option Addr) (zs : List Int) (bc : Nat) (K : LT Int) (hO : OpI w Z s n af bp zs bc K) (hk : kd ≠ 1 ∧ kd ≠ 2 ∧ kd ≠ 3 ∧ kd ≠ 4 ∧ kd ≠ 5 ∧ kd ≠ 6 ∧ kd ≠ 7 ∧ kd ≠ 8 ∧ kd ≠ 9 ∧ kd ≠ 10 ∧ kd ≠ 11) :
    Calls Tryd.prog 11 #[.pointer (some ⟨db, 0, none⟩), .agg #[.int .i64 kd, .int .i64 wh, .string s, .int .i64 n, .int .i64 af, .slice bp zs.length bc, .slice K.p K.n K.c]] w fun e w' => e = .returned (.int .i64 (doesE A kd s n zs.length)) ∧ DQ Z w w' db (doesK A kd s n af zs K) := by
  obtain ⟨C, hI, h2, h3⟩ := hM
  have hw := hr.wf hI
  obtain ⟨V, hV⟩ : ∃ V, V = w.alloc (opBox kd wh s n af bp zs bc K) := ⟨_, rfl⟩
  have hBV : Below w.heap.size w V := by rw [hV]; exact (Below.refl _ _).alloc (Nat.le_refl _) _
  have hX : Box V w.heap.size #[.int .i64 kd, .int .i64 wh, .string s, .int .i64 n, .int .i64 af, .slice bp zs.length bc, .slice K.p K.n K.c] 33 := by rw [hV]; exact Box.new _ _ _
  have hIV := hI.below hBV
  have hBd := hO.hB.kept hBV.size fun b _ hl => hBV.block b hl
  have hKd := hO.hK.below hBV
  have hZl : ∀ k, Z k → k < V.heap.size := fun k hk => Nat.lt_of_lt_of_le (h3 k hk) hBV.size
  have hCl : ∀ k, C k → ¬ Z k ∧ k < V.heap.size := fun k hk => ⟨(h2 k hk).1, Nat.lt_of_lt_of_le (h2 k hk).2 hBV.size⟩
  have HFin : Hid (∀ (w2 : World) (D' : DK) (A' : AK), Chg D' C db V w2 → Rel D' A' → DQ Z w w2 db A') := fun w2 D' A' hc hr' => by
    obtain ⟨h4, h5⟩ := DQ.of hCl hZl hc hr'
    exact ⟨h4, (Fr.of hBV).trans h5⟩
  have HBx := hid hX
  have HV := hid hV
  have HWf := hid hw
  have HR := hid hr
  have c0 := hX.cell 0
  have c2 := hX.cell 2
  have c3 := hX.cell 3
  have c4 := hX.cell 4
  have c5 := hX.cell 5
  have c6 := hX.cell 6
  have cl := hX.lt
  simp at c0 c2 c3 c4 c5 c6
  have HQ := hid (HFin.out V D A (hIV.chg (Below.refl _ _)) hr)
  have HE : Hid (doesE A kd s n zs.length = 0 ∧ doesK A kd s n af zs K = A) := by
    obtain ⟨k1, k2, k3, k4, k5, k6, k7, k8, k9, k10, k11⟩ := hk
    exact ⟨by simp [doesE, k1, k2, k3, k4, k5, k6, k11], by simp [doesK, k1, k2, k3, k4, k7, k8, k9, k10, k11]⟩
  have k1 : (kd == 1) = false := by have := hk; simp; omega
  have k2 : (kd == 2) = false := by have := hk; simp; omega
  have k3 : (kd == 3) = false := by have := hk; simp; omega
  have k4 : (kd == 4) = false := by have := hk; simp; omega
  have k5 : (kd == 5) = false := by have := hk; simp; omega
  have k6 : (kd == 6) = false := by have := hk; simp; omega
  have k7 : (kd == 7) = false := by have := hk; simp; omega
  have k8 : (kd == 8) = false := by have := hk; simp; omega
  have k9 : (kd == 9) = false := by have := hk; simp; omega
  have k10 : (kd == 10) = false := by have := hk; simp; omega
  have k11 : (kd == 11) = false := by have := hk; simp; omega
  clear hk hI h2 h3 hw hV hBV hX hIV hBd hKd hZl hCl hr hO
  go_enter Tryd.func11, Tryd.ntmps11
  go_upto_region 1 with fail
  change Code.wp _ _ _ _ (w.alloc (opBox kd wh s n af bp zs bc K))
  rw [← HV.out]
  go_wp2
  exact bodyPost_ret (v := .int .i64 0) (by simp [results, Tryd.results11, go_sem]) rfl ⟨by rw [HE.out.1], by rw [HE.out.2]; exact HQ.out⟩
/-- does, of any kind -/
theorem does_any (Z : Nat → Prop) (w : World) (db : Nat) (D : DK) (A : AK) (hM : DM Z w db D) (hr : Rel D A) (kd wh : Int) (s : ByteArray) (n af : Int) (bp : Option Addr) (zs : List Int) (bc : Nat) (K : LT Int) (hO : OpI w Z s n af bp zs bc K) :
    Calls Tryd.prog 11 #[.pointer (some ⟨db, 0, none⟩), .agg #[.int .i64 kd, .int .i64 wh, .string s, .int .i64 n, .int .i64 af, .slice bp zs.length bc, .slice K.p K.n K.c]] w fun e w' => e = .returned (.int .i64 (doesE A kd s n zs.length)) ∧ DQ Z w w' db (doesK A kd s n af zs K) := by
  by_cases h1 : kd = 1
  · subst h1; exact does_1 Z w db D A hM hr wh s n af bp zs bc K hO
  by_cases h2 : kd = 2
  · subst h2; exact does_2 Z w db D A hM hr wh s n af bp zs bc K hO
  by_cases h3 : kd = 3
  · subst h3; exact does_3 Z w db D A hM hr wh s n af bp zs bc K hO
  by_cases h4 : kd = 4
  · subst h4; exact does_4 Z w db D A hM hr wh s n af bp zs bc K hO
  by_cases h5 : kd = 5
  · subst h5; exact does_5 Z w db D A hM hr wh s n af bp zs bc K hO
  by_cases h6 : kd = 6
  · subst h6; exact does_6 Z w db D A hM hr wh s n af bp zs bc K hO
  by_cases h7 : kd = 7
  · subst h7; exact does_7 Z w db D A hM hr wh s n af bp zs bc K hO
  by_cases h8 : kd = 8
  · subst h8; exact does_8 Z w db D A hM hr wh s n af bp zs bc K hO
  by_cases h9 : kd = 9
  · subst h9; exact does_9 Z w db D A hM hr wh s n af bp zs bc K hO
  by_cases h10 : kd = 10
  · subst h10; exact does_10 Z w db D A hM hr wh s n af bp zs bc K hO
  by_cases h11 : kd = 11
  · subst h11; exact does_11 Z w db D A hM hr wh s n af bp zs bc K hO
  exact does_0 Z w db D A hM hr kd wh s n af bp zs bc K hO ⟨h1, h2, h3, h4, h5, h6, h7, h8, h9, h10, h11⟩
end Go.Proofs.YtkfcilandmhomaaDoor
