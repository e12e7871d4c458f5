import Derived.Test.YtoefbcagokgfcaaUdB
import Derived.Test.YtoefbcagokgfcaaUaD
namespace Go.Proofs.Ytoefbcagokgfcaa
open Go.RowKit
set_option maxRecDepth 8000
/-- one packet more -/
theorem RfI.add {w w1 w2 w3 : World} {Z : Nat → Prop} {rb : Nat} {m : Int} {v v' : Value} {P : List PK} {u : PK} (hI : RfI w Z rb m v P) (hZ : ∀ k, Z k → k < w.heap.size) (hB : Below w.heap.size w w2) (hu : u.out = false) (hun : u.y.n ≤ 32776)
    (hub : Byts w1 (fun k => w.heap.size ≤ k) u.y.p u.y.n u.y.c u.y.f) (h12 : Below w1.heap.size w1 w2)
    (ho : w3.ownsRow 0 90 4 v' (P.length + 1) (P.flatMap PK.cells ++ PK.cells u)) (hg : w2.grownBy w3 v.ownBlock) (hn : Near w2 v v') :
    ((∀ w4, But (fun k => k = rb) w3 w4 → Box w4 rb #[.int .i64 m, v', .int .i64 ((infl (P ++ [u])).length : Int)] 87 → RfI w4 Z rb m v' (P ++ [u]) ∧ Fr Z w w4) ∧ rb < w3.heap.size ∧ w3.cell? ⟨rb, 1, none⟩ = some v ∧ w3.frozen? ⟨rb, 1, none⟩ = false ∧ Box w3 rb #[.int .i64 m, v, .int .i64 ((infl P).length : Int)] 87) := by
  have hI2 : RfI w2 Z rb m v P := hI.but (But.ofBelow hB) (fun _ _ h => h)
  have hgb : ∀ k, k < w2.heap.size → v.ownBlock ≠ some k → w3.heap[k]? = w2.heap[k]? := fun k hk hne => hg.block k hk (fun e => hne e.symm)
  have hbx3 : Box w3 rb _ 87 := hI2.bx.kept (hgb rb hI2.bx.lt hI2.ne_row)
  have hbl := hI.bx.lt
  have hs2 := hB.size
  have hrl : ∀ g, v.ownBlock = some g → g < w.heap.size := fun g hg => (hI.row.lt g hg).2
  have hv'b : v'.ownBlock ≠ some rb := by
    intro e
    rcases hn with h1 | h1
    · exact hI2.ne_row (h1 ▸ e)
    · have := h1 rb e
      omega
  refine ⟨fun w4 hbt hbx4 => ⟨⟨hbx4, ?_, fun x hx => ?_, hI.zb, fun g hg' hz => ?_, fun x hx => ?_⟩, ?_⟩, hbx3.lt, ?_, hbx3.frozen 1, hbx3⟩
  · have e : (P ++ [u]).flatMap PK.cells = P.flatMap PK.cells ++ PK.cells u := by rw [List.flatMap_append]; simp
    rw [e, List.length_append]
    exact ownsRow_keep ho fun g hg' hl => hbt.block g hl (fun e => hv'b (by rw [← show g = rb from e]; exact hg'))
  · have key : ∀ y : BY, Byts w2 (fun k => (¬ Z k ∧ k ≠ rb ∧ v.ownBlock ≠ some k) ∧ k < w2.heap.size) y.p y.n y.c y.f → Byts w4 (fun k => ¬ Z k ∧ k ≠ rb ∧ v'.ownBlock ≠ some k) y.p y.n y.c y.f := by
      intro y hy
      refine (hy.kept (Nat.le_trans hg.size hbt.size) fun k hk hl => (hbt.block k (Nat.lt_of_lt_of_le hl hg.size) hk.1.2.1).trans (hgb k hl hk.1.2.2)).mono fun k hk _ => ⟨hk.1.1, hk.1.2.1, fun e => ?_⟩
      rcases hn with h1 | h1
      · exact hk.1.2.2 (h1 ▸ e)
      · have := h1 k e
        have := hk.2
        omega
    rcases List.mem_append.1 hx with hx | hx
    · exact key x.y ((hI2.dat x hx).mono fun k hk hl => ⟨hk, hl⟩)
    · obtain rfl : x = u := by simpa using hx
      refine key x.y (((hub.mono (S' := fun k => w.heap.size ≤ k ∧ k < w1.heap.size) fun k hk hl => ⟨hk, hl⟩).kept h12.size fun k hk hl => h12.block k hl).mono fun k hk hl => ⟨⟨fun hz => ?_, ?_, fun e => ?_⟩, hl⟩)
      · have := hZ k hz
        have := hk.1
        omega
      · have := hk.1
        omega
      · have := hrl k e
        have := hk.1
        omega
  · rcases hn with h1 | h1
    · exact hI.zr g (h1 ▸ hg') hz
    · have := h1 g hg'
      have := hZ g hz
      omega
  · rcases List.mem_append.1 hx with hx | hx
    · exact hI.sz x hx
    · obtain rfl : x = u := by simpa using hx
      exact hun
  · have h1 : But (fun k => ¬ Z k) w w2 := But.ofBelow hB
    have h2 : But (fun k => ¬ Z k) w w3 := h1.grown hg fun k hk _ => hI.zr k hk
    exact h2.trans (hbt.mono fun k _ e => by rw [show k = rb from e]; exact hI.zb)
  · have h := hbx3.cell 1
    simpa using h
def RLayQ (w : World) (Z : Nat → Prop) (rb : Nat) (m : Int) (A : List FA) (N : Nat) (a : FA) (e : Ending) (w' : World) : Prop := e = .returned (.tuple #[]) ∧ RfA w' Z rb m (A ++ [a]) (N + 1) ∧ Fr Z w w'
set_option maxHeartbeats 4000000 in
/-- lay -/
theorem rlay_any (w : World) (Z : Nat → Prop) (rb : Nat) (m : Int) (A : List FA) (N : Nat) (hA : RfA w Z rb m A N) (hZ : ∀ k, Z k → k < w.heap.size) (hN : (N + 1) * 48 ≤ 140737488355328) (hA2 : A.length ≤ 1000) (fr tt : Int) (y : BY) (S : Nat → Prop) (hy : Byts w S y.p y.n y.c y.f) (hy1 : y.n ≤ 32776) :
    Calls Try.prog 41 #[.pointer (some ⟨rb, 0, none⟩), .int .i64 fr, .int .i64 tt, .slice y.p y.n y.c] w fun e w' => RLayQ w Z rb m A N ⟨fr, tt, y.zs⟩ e w' := by
  obtain ⟨i0, Kd⟩ := kindPk
  obtain ⟨v, P, hI, hPA, hPN⟩ := hA
  obtain ⟨p0, c0, hv⟩ := ownsRow_slice hI.row
  subst hv
  have b1 := hI.bx.cell 1
  simp at b1
  have bl := hI.bx.lt
  have HKd := hid Kd
  have HI := hid hI
  have HZ := hid hZ
  have HPA := hid hPA
  have HPN := hid hPN
  have HFit := hid hy.fit
  have HFr := hid (fresh_any y.p y.n y.c y.f w.drew S ⟨hy.at_, hy.nc, hy.nn, hy.cc, hy.fit, hy.nil⟩)
  have HR : Hid (∀ wx, Below w.heap.size w wx → wx.ownsRow 0 90 4 (.slice p0 P.length c0) P.length (P.flatMap PK.cells)) := fun wx hx => ownsRow_keep hI.row fun g _ hl => hx.block g hl
  have hAl : (infl P).length ≤ 1000 := by rw [hPA]; exact hA2
  clear hI hZ hPA hy Kd
  go_enter Try.func41, Try.ntmps41
  go_upto_region 0 with fail
  refine wp_region_calmE 30 (fun wx => Below w.heap.size w wx) [(0, true), (1, true), (2, true), (3, true), (4, false), (5, true), (6, true), (7, true)] (.one 8 true [(9, true)] (.one 10 true [] (.one 11 false [(12, true), (13, true)] (.one 14 false [] .done)))) (by kernel_rfl) (by kernel_rfl) (Below.refl _ _).drew ?_
  refine wpPre_e rfl rfl (fun K1 hK1 => ?_)
  apply Exists.intro
  refine And.intro (fun wx hx => ?_) ?_
  · go_simp
    try rfl
  go_simp
  refine hK1 _ ?_
  clear hK1 K1
  refine wpPre_e rfl rfl (fun K1 hK1 => ?_)
  apply Exists.intro
  refine And.intro (fun wx hx => ?_) ?_
  · go_simp
    try rfl
  go_simp
  refine hK1 _ ?_
  clear hK1 K1
  refine wpPre_e rfl rfl (fun K1 hK1 => ?_)
  apply Exists.intro
  refine And.intro (fun wx hx => ?_) ?_
  · go_simp
    try rfl
  go_simp
  refine hK1 _ ?_
  clear hK1 K1
  refine wpPre_e rfl rfl (fun K1 hK1 => ?_)
  apply Exists.intro
  refine And.intro (fun wx hx => ?_) ?_
  · go_simp
    try rfl
  go_simp
  refine hK1 _ ?_
  clear hK1 K1
  refine wpPre_e rfl rfl (fun K1 hK1 => ?_)
  apply Exists.intro
  refine And.intro (fun wx hx => ?_) ?_
  · have e0 := below_fact hx rfl b1
    go_simp
    try rfl
  go_simp
  refine hK1 _ ?_
  clear hK1 K1
  refine wpPre_e rfl rfl (fun K1 hK1 => ?_)
  apply Exists.intro
  refine And.intro (fun wx hx => ?_) ?_
  · go_simp
    try rfl
  go_simp
  refine hK1 _ ?_
  clear hK1 K1
  refine wpPre_e rfl rfl (fun K1 hK1 => ?_)
  apply Exists.intro
  refine And.intro (fun wx hx => ?_) ?_
  · go_simp
    try rfl
  go_simp
  refine hK1 _ ?_
  clear hK1 K1
  refine wpPre_e rfl rfl (fun K1 hK1 => ?_)
  apply Exists.intro
  refine And.intro (fun wx hx => ?_) ?_
  · go_simp
    try rfl
  go_simp
  refine hK1 _ ?_
  clear hK1 K1
  refine wpPre_nil ?_
  refine wpTr_e rfl (fun K1 hK1 => ?_)
  refine step_call rfl 47 #[.tmp 15] _ rfl Try.f47 Try.func47 (by kernel_rfl) rfl #[.slice y.p y.n y.c] rfl _ HFr.out ?_
  rintro e1 w1 ⟨p1, c1, rfl, ho1, hb1⟩
  refine ⟨_, rfl, ?_⟩
  have HB1 : Hid (Below w.heap.size w w1) := ((Below.refl _ _).drew).trans hb1
  have HO1 := hid ho1
  clear ho1 hb1
  go_simp
  refine hK1 _ _ (fun _ => HB1.out) ?_
  clear hK1 K1
  refine wpPre_e rfl rfl (fun K1 hK1 => ?_)
  apply Exists.intro
  refine And.intro (fun wx hx => ?_) ?_
  · go_simp
    try rfl
  go_simp
  refine hK1 _ ?_
  clear hK1 K1
  refine wpPre_nil ?_
  refine wpTr_e rfl (fun K1 hK1 => ?_)
  go_simp
  refine hK1 _ _ (fun _ => HB1.out.alloc HB1.out.size _) ?_
  clear hK1 K1
  refine wpPre_nil ?_
  refine wpTr_e rfl (fun K1 hK1 => ?_)
  refine step_app rfl (.tmp 12) (.tmp 18) 85 90 i0 _ 4 48 HKd.out rfl 0 (.slice p0 P.length c0) P.length _ rfl (HR.out _ (HB1.out.alloc HB1.out.size _)) ⟨w1.heap.size, 0, none⟩ 1 1 (PK.cells ⟨fr, tt, ⟨p1, y.n, c1, y.f⟩, false⟩) rfl rfl ?_ (PK.one _) (by omega) (by omega) (Nat.zero_le _) ?_
  · intro j u hu
    rw [cell_new, ← hu]
    simp [PK.cells]
  intro v3 w3 ho hg hn
  obtain ⟨p3, c3, hv3⟩ := ownsRow_slice ho
  subst hv3
  have HA := hid (RfI.add (u := ⟨fr, tt, ⟨p1, y.n, c1, y.f⟩, false⟩) HI.out HZ.out ((HB1.out.alloc HB1.out.size _)) rfl hy1 (Byts.ofOwn HO1.out (show y.n ≤ 140737488355328 by omega) HFit.out) ((Below.refl _ _).alloc (Nat.le_refl _) _) ho hg hn)
  have e0 := HA.out.2.1
  have e1 := HA.out.2.2.1
  have e2 := HA.out.2.2.2.1
  clear ho hg hn
  go_simp
  refine hK1 _ _ (fun h => by cases h) ?_
  clear hK1 K1
  refine wpPre_e rfl rfl (fun K1 hK1 => ?_)
  apply Exists.intro
  refine And.intro (fun wx hx => ?_) ?_
  · go_simp
    try rfl
  go_simp
  refine hK1 _ ?_
  clear hK1 K1
  refine wpPre_e rfl rfl (fun K1 hK1 => ?_)
  apply Exists.intro
  refine And.intro (fun wx hx => ?_) ?_
  · go_simp
    try rfl
  go_simp
  refine hK1 _ ?_
  clear hK1 K1
  refine wpPre_nil ?_
  refine wpTr_e rfl (fun K1 hK1 => ?_)
  go_simp
  refine hK1 _ _ (fun h => by cases h) ?_
  clear hK1 K1
  refine wpPre_nil ?_
  refine wpTr_done ?_
  have hz : But (fun k => k = rb) w3 (w3.setCell ⟨rb, 1, none⟩ (.slice p3 (P.length + 1) c3)) := (But.one w3 rb).setAt 1 _
  have hbx4 : Box (w3.setCell ⟨rb, 1, none⟩ (.slice p3 (P.length + 1) c3)) rb #[.int .i64 m, .slice p3 (P.length + 1) c3, .int .i64 ((infl P).length : Int)] 87 := by
    have h := HA.out.2.2.2.2.set 1 (.slice p3 (P.length + 1) c3)
    simpa using h
  obtain ⟨T, hT⟩ : ∃ T, T = w3.setCell ⟨rb, 1, none⟩ (.slice p3 (P.length + 1) c3) := ⟨_, rfl⟩
  rw [← hT] at hz hbx4 ⊢
  have d2 := hbx4.cell 2
  have df := hbx4.frozen 2
  have dl := hbx4.lt
  simp at d2
  obtain ⟨L, hL⟩ : ∃ L, L = (infl P).length := ⟨_, rfl⟩
  rw [← hL] at d2 hAl
  have HLe := hid hL
  have HA1 := hid HA.out.1
  have HT := hid (And.intro hz hbx4)
  clear e0 e1 e2 HA hT hz hbx4 hL
  go_wp2
  have hb5 : But (fun k => k = rb) w3 (T.setCell ⟨rb, 2, none⟩ (.int .i64 ((L : Int) + 1))) := HT.out.1.trans ((But.one T rb).setAt 2 _)
  have hL2 : (infl (P ++ [(⟨fr, tt, ⟨p1, y.n, c1, y.f⟩, false⟩ : PK)])).length = L + 1 := by rw [infl_app, List.length_append, ← HLe.out]; rfl
  have hbx5 : Box (T.setCell ⟨rb, 2, none⟩ (.int .i64 ((L : Int) + 1))) rb #[.int .i64 m, .slice p3 (P.length + 1) c3, .int .i64 ((infl (P ++ [(⟨fr, tt, ⟨p1, y.n, c1, y.f⟩, false⟩ : PK)])).length : Int)] 87 := by
    have h := HT.out.2.set 2 (.int .i64 ((L : Int) + 1))
    rw [hL2]
    simpa using h
  have hF := HA1.out _ hb5 hbx5
  refine bodyPost_ret (v := .tuple #[]) (by simp [results, Try.results41, go_sem]) rfl ⟨rfl, ⟨_, _, hF.1, ?_, ?_⟩, hF.2⟩
  · rw [infl_app, HPA.out]
    rfl
  · rw [List.length_append]
    have := HPN.out
    simp
    omega
end Go.Proofs.Ytoefbcagokgfcaa

namespace Go.Proofs.Ytoefbcagokgfcaa
open Go.RowKit
set_option maxRecDepth 8000
def RSendQ (w : World) (Z : Nat → Prop) (rb : Nat) (m : Int) (A : List FA) (N : Nat) (a : FA) (e : Ending) (w' : World) : Prop :=
  e = .returned (.int .i64 (sendE m a.fr a.tt a.zs.length A.length)) ∧ (sendE m a.fr a.tt a.zs.length A.length = 0 → RfA w' Z rb m (A ++ [a]) (N + 1)) ∧ (sendE m a.fr a.tt a.zs.length A.length ≠ 0 → RfA w' Z rb m A (N + 1)) ∧ Fr Z w w'
theorem RfA.mono {w : World} {Z : Nat → Prop} {rb : Nat} {m : Int} {A : List FA} {N N' : Nat} (h : RfA w Z rb m A N) (hN : N ≤ N') : RfA w Z rb m A N' := by
  obtain ⟨v, P, hI, hA, hP⟩ := h
  exact ⟨v, P, hI, hA, Nat.le_trans hP hN⟩
theorem RSendQ.no {w : World} {Z : Nat → Prop} {rb : Nat} {m : Int} {A : List FA} {N : Nat} {a : FA} {x : Int} (hx : sendE m a.fr a.tt a.zs.length A.length = x) (h0 : x ≠ 0) (hA : RfA w Z rb m A N) : RSendQ w Z rb m A N a (.returned (.int .i64 x)) w := by
  subst hx
  exact ⟨rfl, fun h => absurd h h0, fun _ => hA.mono (Nat.le_succ _), Fr.refl _ _⟩
set_option maxHeartbeats 8000000 in
/-- the reference's Send -/
theorem rsend_any (w : World) (Z : Nat → Prop) (rb : Nat) (m : Int) (A : List FA) (N : Nat) (hA : RfA w Z rb m A N) (hZ : ∀ k, Z k → k < w.heap.size) (hN : (N + 1) * 48 ≤ 140737488355328) (hA2 : A.length ≤ 1000) (fr tt : Int) (y : BY) (S : Nat → Prop) (hy : Byts w S y.p y.n y.c y.f) :
    Calls Try.prog 33 #[.pointer (some ⟨rb, 0, none⟩), .int .i64 fr, .int .i64 tt, .slice y.p y.n y.c] w fun e w' => RSendQ w Z rb m A N ⟨fr, tt, y.zs⟩ e w' := by
  have HEA := hid hA
  have hyn : y.zs.length = y.n := BY.len y
  have hLy := rlay_any w Z rb m A N hA hZ hN hA2 fr tt y S hy
  obtain ⟨v, P, hI, hPA, _⟩ := hA
  have b0 := hI.bx.cell 0
  have b2 := hI.bx.cell 2
  simp [hPA] at b0 b2
  have bl := hI.bx.lt
  clear hI hPA hZ hy hN
  obtain ⟨L, hL⟩ : ∃ L, L = A.length := ⟨_, rfl⟩
  rw [← hL] at b2 hA2
  have HLe := hid hL
  have HX : Hid (sendE m fr tt y.zs.length A.length = if ¬ (0 ≤ fr ∧ fr < m) ∨ ¬ (0 ≤ tt ∧ tt < m) ∨ fr = tt then 221 else if 32776 < y.n then 222 else if 256 ≤ L then 223 else 0) := by show sendE _ _ _ _ _ = _; unfold sendE; rw [hyn, hL]
  clear hyn hL
  have NO : ∀ x, sendE m fr tt y.zs.length A.length = x → x ≠ 0 → RSendQ w Z rb m A N ⟨fr, tt, y.zs⟩ (.returned (.int .i64 x)) w := fun x h1 h2 => RSendQ.no h1 h2 HEA.out
  have HNO := hid NO
  clear NO
  by_cases h1 : fr < 0
  · have HE : Hid (sendE m fr tt y.zs.length A.length = 221) := by show _ = _; rw [HX.out, if_pos (.inl (by omega))]
    clear hLy
    go_enter Try.func33, Try.ntmps33
    go_wp2
    exact bodyPost_ret (v := .int .i64 221) (by simp [results, Try.results33, go_sem]) rfl (HNO.out 221 HE.out (by decide))
  by_cases h2 : tt < 0
  · have HE : Hid (sendE m fr tt y.zs.length A.length = 221) := by show _ = _; rw [HX.out, if_pos (.inr (.inl (by omega)))]
    clear hLy
    go_enter Try.func33, Try.ntmps33
    go_wp2
    exact bodyPost_ret (v := .int .i64 221) (by simp [results, Try.results33, go_sem]) rfl (HNO.out 221 HE.out (by decide))
  by_cases h3 : m ≤ fr
  · have HE : Hid (sendE m fr tt y.zs.length A.length = 221) := by show _ = _; rw [HX.out, if_pos (.inl (by omega))]
    clear hLy
    go_enter Try.func33, Try.ntmps33
    go_wp2
    exact bodyPost_ret (v := .int .i64 221) (by simp [results, Try.results33, go_sem]) rfl (HNO.out 221 HE.out (by decide))
  by_cases h4 : m ≤ tt
  · have HE : Hid (sendE m fr tt y.zs.length A.length = 221) := by show _ = _; rw [HX.out, if_pos (.inr (.inl (by omega)))]
    clear hLy
    go_enter Try.func33, Try.ntmps33
    go_wp2
    exact bodyPost_ret (v := .int .i64 221) (by simp [results, Try.results33, go_sem]) rfl (HNO.out 221 HE.out (by decide))
  by_cases h5 : fr = tt
  · have HE : Hid (sendE m fr tt y.zs.length A.length = 221) := by show _ = _; rw [HX.out, if_pos (.inr (.inr h5))]
    have h5' : (fr == tt) = true := by simpa using h5
    clear hLy h5
    go_enter Try.func33, Try.ntmps33
    go_wp2
    exact bodyPost_ret (v := .int .i64 221) (by simp [results, Try.results33, go_sem]) rfl (HNO.out 221 HE.out (by decide))
  have h5' : (fr == tt) = false := by simpa using h5
  have HN0 : Hid (¬ (¬ (0 ≤ fr ∧ fr < m) ∨ ¬ (0 ≤ tt ∧ tt < m) ∨ fr = tt)) := fun h => by
    rcases h with h | h | h
    · omega
    · omega
    · exact h5 h
  clear h5
  by_cases h6 : 32776 < y.n
  · have HE : Hid (sendE m fr tt y.zs.length A.length = 222) := by show _ = _; rw [HX.out, if_neg HN0.out, if_pos h6]
    have h6' : (32776 : Int) < (y.n : Int) := by omega
    clear hLy
    go_enter Try.func33, Try.ntmps33
    go_wp2
    exact bodyPost_ret (v := .int .i64 222) (by simp [results, Try.results33, go_sem]) rfl (HNO.out 222 HE.out (by decide))
  have h6' : ¬ (32776 : Int) < (y.n : Int) := by omega
  by_cases h7 : 256 ≤ L
  · have HE : Hid (sendE m fr tt y.zs.length A.length = 223) := by show _ = _; rw [HX.out, if_neg HN0.out, if_neg h6, if_pos h7]
    have h7' : (256 : Int) ≤ (L : Int) := by omega
    clear hLy
    go_enter Try.func33, Try.ntmps33
    go_wp2
    exact bodyPost_ret (v := .int .i64 223) (by simp [results, Try.results33, go_sem]) rfl (HNO.out 223 HE.out (by decide))
  have h7' : ¬ (256 : Int) ≤ (L : Int) := by omega
  have HE : Hid (sendE m fr tt y.zs.length A.length = 0) := by show _ = _; rw [HX.out, if_neg HN0.out, if_neg h6, if_neg h7]
  have HLy := hid (hLy (by omega))
  clear hLy
  go_enter Try.func33, Try.ntmps33
  go_wp2_with fail
  refine HLy.out.mono ?_
  rintro e w1 ⟨rfl, hR, hF⟩
  have H1 := hid (And.intro hR hF)
  clear hR hF HLy
  go_wp2
  exact bodyPost_ret (v := .int .i64 0) (by simp [results, Try.results33, go_sem]) rfl ⟨congrArg (fun z => Ending.returned (.int .i64 z)) HE.out.symm, fun _ => H1.out.1, fun h => absurd HE.out h, H1.out.2⟩
def RCopyQ (w : World) (Z : Nat → Prop) (rb : Nat) (m : Int) (A : List FA) (N : Nat) (i : Int) (e : Ending) (w' : World) : Prop :=
  e = .returned (.int .i64 (copyE i A.length)) ∧ (copyE i A.length = 0 → ∃ a, A[i.toNat]? = some a ∧ RfA w' Z rb m (A ++ [a]) (N + 1)) ∧ (copyE i A.length ≠ 0 → RfA w' Z rb m A (N + 1)) ∧ Fr Z w w'
set_option maxHeartbeats 8000000 in
/-- the reference's Copy -/
theorem rcopy_any (w : World) (Z : Nat → Prop) (rb : Nat) (m : Int) (A : List FA) (N : Nat) (hA : RfA w Z rb m A N) (hZ : ∀ k, Z k → k < w.heap.size) (hN : (N + 1) * 48 ≤ 140737488355328) (hA2 : A.length ≤ 1000) (i : Int) (hib : i ≤ 9223372036854775807) :
    Calls Try.prog 37 #[.pointer (some ⟨rb, 0, none⟩), .int .i64 i] w fun e w' => RCopyQ w Z rb m A N i e w' := by
  have HEA := hid hA
  have HZ := hid hZ
  obtain ⟨v, P, hI, hPA, hPN⟩ := hA
  have HP := hid (rplace_any w Z rb m v P hI (by omega) i hib)
  rw [hPA] at HP
  have b2 := hI.bx.cell 2
  simp [hPA] at b2
  have bl := hI.bx.lt
  obtain ⟨L, hL⟩ : ∃ L, L = A.length := ⟨_, rfl⟩
  rw [← hL] at b2
  have HLe := hid hL
  have HI := hid hI
  have HPA := hid hPA
  clear hI hPA hZ hL
  by_cases h1 : inA i A.length
  case neg =>
    have HE : Hid (copyE i A.length = 224) := by show _ = _; unfold copyE; rw [if_pos (show ¬ (0 ≤ i ∧ i < (A.length : Int)) from h1)]
    have HI1 := hid h1
    clear h1
    go_enter Try.func37, Try.ntmps37
    go_wp2_with fail
    refine HP.out.mono ?_
    rintro e w1 ⟨rfl, hq, _⟩
    obtain rfl := hq HI1.out
    clear hq HP
    go_wp2
    exact bodyPost_ret (v := .int .i64 224) (by simp [results, Try.results37, go_sem]) rfl ⟨by rw [HE.out], fun h => absurd (HE.out.symm.trans h) (by decide), fun _ => HEA.out.mono (Nat.le_succ _), Fr.refl _ _⟩
  case pos =>
    have HI1 := hid h1
    have HX : Hid (copyE i A.length = if 256 ≤ L then 223 else 0) := by show _ = _; unfold copyE; rw [if_neg (fun h : ¬ (0 ≤ i ∧ i < (A.length : Int)) => h h1), HLe.out]
    clear h1
    go_enter Try.func37, Try.ntmps37
    go_wp2_with fail
    refine HP.out.mono ?_
    rintro e w1 ⟨rfl, _, hq⟩
    obtain ⟨k, x, hPl, rfl⟩ := hq HI1.out
    have HPl := hid hPl
    clear hq HP hPl
    by_cases h7 : 256 ≤ L
    · have h7' : (256 : Int) ≤ (L : Int) := by omega
      have HE : Hid (copyE i A.length = 223) := by show _ = _; rw [HX.out, if_pos h7]
      go_wp2
      exact bodyPost_ret (v := .int .i64 223) (by simp [results, Try.results37, go_sem]) rfl ⟨by rw [HE.out], fun h => absurd (HE.out.symm.trans h) (by decide), fun _ => HEA.out.mono (Nat.le_succ _), Fr.refl _ _⟩
    · have h7' : ¬ (256 : Int) ≤ (L : Int) := by omega
      have HE : Hid (copyE i A.length = 0) := by show _ = _; rw [HX.out, if_neg h7]
      obtain ⟨g, cap, hv, hgl, c0, c1, c2, c3, _⟩ := HI.out.get HPl.out.at_
      have hkl : k < P.length := by
        rcases Nat.lt_or_ge k P.length with h | h
        · exact h
        · have := HPl.out.at_; rw [List.getElem?_eq_none h] at this; cases this
      have hkl' : (k : Int) < (P.length : Int) := by omega
      have b1 := HI.out.bx.cell 1
      simp [hv] at b1
      obtain ⟨V, hV⟩ : ∃ V, V = w1.alloc (.cells #[.int .i64 x.fr, .int .i64 x.tt, .slice x.y.p x.y.n x.y.c, .bool x.out] 90) := ⟨_, rfl⟩
      have hBV : Below w1.heap.size w1 V := by rw [hV]; exact (Below.refl _ _).alloc (Nat.le_refl _) _
      have hX : Box V w1.heap.size #[.int .i64 x.fr, .int .i64 x.tt, .slice x.y.p x.y.n x.y.c, .bool x.out] 90 := by rw [hV]; exact Box.new _ _ _
      have hmem := List.mem_of_getElem? HPl.out.at_
      have HLy := hid (rlay_any V Z rb m A N (HEA.out.below hBV (fun _ _ h => h)) (fun k hk => by have := HZ.out k hk; have := hBV.size; omega) hN hA2 x.fr x.tt x.y _ ((HI.out.dat x hmem).kept hBV.size fun k _ hl => hBV.block k hl) (HI.out.sz x hmem))
      have d0 := hX.cell 0
      have d1 := hX.cell 1
      have d2 := hX.cell 2
      simp at d0 d1 d2
      have dl := hX.lt
      have HV := hid hV
      have HBV := hid hBV
      clear hV hBV hX hmem hv
      go_upto_region 7 with fail
      rw [← HV.out]
      go_wp2_with fail
      refine HLy.out.mono ?_
      rintro e w2 ⟨rfl, hR, hF⟩
      have H2 := hid (And.intro hR hF)
      clear hR hF HLy
      go_wp2
      refine bodyPost_ret (v := .int .i64 0) (by simp [results, Try.results37, go_sem]) rfl ⟨by rw [HE.out], fun _ => ⟨x.a, ?_, H2.out.1⟩, fun h => absurd HE.out h, (Fr.below HBV.out).trans H2.out.2⟩
      rw [← HPA.out]
      exact HPl.out.get
end Go.Proofs.Ytoefbcagokgfcaa
