import Derived.Test.YtdncnnjhfipokaaKbM
namespace Go.Proofs.Ytdncnnjhfipokaa
open Go.RowKit
set_option maxRecDepth 8000
set_option maxHeartbeats 2000000 in
theorem index_any (N c : Nat) (hN : N ≤ 4) (w : World) (b : Nat) (K : Bk) (hI : BkI w b K) : Calls Try.prog 72 #[.slice (some ⟨b, 4, none⟩) N c, .int .i64 0] w fun e w' => w' = w ∧ ∃ r : Int, e = .returned (.int .i64 r) ∧ (0 ≤ r ↔ ∃ p, p < N ∧ K.st p = 0) := by
  have HI := hid hI
  clear hI
  go_enter Try.func72, Try.ntmps72
  go_wp2_with fail
  go_loopw [8] (fun x wr => wr = w ∧ ∃ k : Nat, k ≤ N ∧ x = .int .i64 (k : Int) ∧ ∀ p, p < k → K.st p ≠ 0) (fun x _ => N - (intOf x).toNat)
  case atStart => exact ⟨rfl, 0, Nat.zero_le _, rfl, fun p hp => absurd hp (by omega)⟩
  case round =>
    obtain ⟨rfl, k, hk, rfl, hok⟩ := hrel
    have HOk := hid hok
    clear hok
    by_cases hlt : k < N
    · have hlt' : (k : Int) < (N : Int) := by omega
      have cs := HI.out.cs (i := k) (by omega)
      by_cases hs : K.st k = 0
      · rw [hs] at cs
        go_wp2
        refine bodyPost_ret (v := .int .i64 (k : Int)) (by simp [results, Try.results72, go_sem]) rfl ⟨rfl, k, rfl, fun _ => ⟨k, hlt, hs⟩, fun _ => by omega⟩
      · have hs' : ((0 : Int) == K.st k) = false := by simp; exact fun e => hs e.symm
        go_wp2
        go_roundw
        case rel => exact ⟨trivial, k + 1, by omega, by go_num, fun p hp => by rcases Nat.lt_or_ge p k with h | h; exact HOk.out p h; rw [show p = k by omega]; exact hs⟩
        case measure => simp [intOf]; omega
    · have hlt' : ¬ (k : Int) < (N : Int) := by omega
      go_wp2
      refine bodyPost_ret (v := .int .i64 (-1)) (by simp [results, Try.results72, go_sem]) rfl ⟨rfl, -1, rfl, fun h => by omega, fun ⟨p, hp, h0⟩ => absurd h0 (HOk.out p (by omega))⟩
def Bk.opn (K : Bk) : Bool := (List.range K.ports.toNat).any fun p => K.st p == 0
theorem Bk.opn_iff (K : Bk) : K.opn = true ↔ ∃ p, p < K.ports.toNat ∧ K.st p = 0 := by
  unfold Bk.opn
  rw [List.any_eq_true]
  constructor
  · rintro ⟨p, hp, h⟩; exact ⟨p, List.mem_range.1 hp, by simpa using h⟩
  · rintro ⟨p, hp, h⟩; exact ⟨p, List.mem_range.2 hp, by simpa using h⟩
set_option maxHeartbeats 2000000 in
theorem contains_any (N c : Nat) (w : World) (b : Nat) (K : Bk) (hI : BkI w b K) (hN : K.ports = (N : Int)) : Calls Try.prog 59 #[.slice (some ⟨b, 4, none⟩) N c, .int .i64 0] w fun e w' => e = .returned (.bool K.opn) ∧ w' = w := by
  have hp := hI.p1
  have HX := hid (index_any N c (by omega) w b K hI)
  have hO := K.opn_iff
  rw [hN, show ((N : Int)).toNat = N by omega] at hO
  have HO := hid hO
  clear hI hO
  go_enter Try.func59, Try.ntmps59
  go_wp2_with fail
  refine HX.out.mono ?_
  rintro e w1 ⟨rfl, r, rfl, hr⟩
  have HR := hid hr
  clear hr HX
  by_cases h0 : 0 ≤ r
  · have hT : K.opn = true := HO.out.2 (HR.out.1 h0)
    go_wp2
    refine bodyPost_ret (v := .bool true) (by simp [results, Try.results59, go_sem]) rfl ⟨by rw [hT], rfl⟩
  · have hT : K.opn = false := by
      rcases h : K.opn with _ | _
      · rfl
      · exact absurd (HR.out.2 (HO.out.1 h)) h0
    go_wp2
    refine bodyPost_ret (v := .bool false) (by simp [results, Try.results59, go_sem]; omega) rfl ⟨by rw [hT], rfl⟩
end Go.Proofs.Ytdncnnjhfipokaa

namespace Go.Proofs.Ytdncnnjhfipokaa
open Go.RowKit
set_option maxRecDepth 8000
/-- a call in a drawn region, behind a guard that holds -/
theorem wp_callG {o : Oper} {a : Act} {w : World} {K : Act → World → Prop} {Q : Exit → Act → World → Prop}
    (f : Nat) (xs : Array Operand) (ts : Array TypeId) (hop : o.op = Op.call { callee := Callee.value (Operand.func f), args := xs, argTypes := ts })
    (F : Func) (hF : Try.prog.funcs[f]? = some F) (hN : (F.name == "runtime.NumGoroutine") = false) (hB : F.body.isNone = false) (vs : Array Value) (hvl : xs.toList.map a.eval = vs.toList) (R : Ending → World → Prop) (hC : Calls Try.prog f vs w R) (hK : ∀ e w', R e w' → ∃ v, e = .returned v ∧ K (a.put o.dst v) w') :
    Oper.wp Try.prog o a w K Q := by
  have hvs : xs.map a.eval = vs := by
    obtain ⟨xl⟩ := xs
    obtain ⟨vl⟩ := vs
    simp only at hvl
    rw [List.map_toArray, hvl]
  have hrun : (execOp a.eval o).run Try.prog w = .ok (.enter f vs) w := by
    have h1 : ¬ F.name = "runtime.NumGoroutine" := by simpa using hN
    have h2 : ¬ F.body = none := by intro h; rw [h] at hB; cases hB
    simp [execOp, hop, resolve, invoke, hvs, Deferred.ofValue, Act.eval, callFunc, Result.andThen, go_sem, hF, h1, h2]
  unfold Oper.wp
  rw [hrun, Oper.upon_enter]
  refine hC.mono fun e w' h => ?_
  obtain ⟨v, rfl, hk⟩ := hK e w' h
  exact hk
set_option maxHeartbeats 4000000 in
theorem done_any (w : World) (b : Nat) (K : Bk) (hI : BkI w b K) : Calls Try.prog 38 #[.pointer (some ⟨b, 0, none⟩)] w fun e w' => e = .returned (.bool (K.cp && !K.opn)) ∧ Below w.heap.size w w' := by
  obtain ⟨N, hN⟩ : ∃ N : Nat, K.ports = (N : Int) := ⟨K.ports.toNat, by have := hI.p0; omega⟩
  have HC := hid (contains_any N 4 w.drew b K (hI.below (Below.refl _ _).drew) hN)
  have c1 := hI.box.cell 1
  have c8 := hI.box.cell 8
  have hp := hI.p1
  have hN4 : (N : Int) ≤ 4 := by omega
  have hN4' : N ≤ 4 := by omega
  simp [Bk.arr] at c1 c8
  rw [hN] at c1
  clear hI
  rcases hc : K.cp with _ | _
  · rw [hc] at c8
    go_enter Try.func38, Try.ntmps38
    go_wp2_with fail
    refine wp_region_calmE 30 (fun wx => Below w.heap.size w wx) [(0, true), (1, true), (2, true), (3, true), (4, false), (5, true), (6, true), (7, true), (8, true), (9, true), (10, true), (11, true), (12, true), (13, false), (14, true)] (.one 15 false [(16, true), (17, true), (18, true)] .done) (by kernel_rfl) (by kernel_rfl) (Below.refl _ _).drew ?_
    refine wpPre_e rfl rfl (fun K1 hK1 => ?_)
    apply Exists.intro
    refine And.intro (fun wx hx => ?_) ?_
    · go_simp
      try rfl
    go_simp
    refine hK1 _ ?_
    clear hK1 K1
    refine wpPre_e rfl rfl (fun K1 hK1 => ?_)
    apply Exists.intro
    refine And.intro (fun wx hx => ?_) ?_
    · go_simp
      try rfl
    go_simp
    refine hK1 _ ?_
    clear hK1 K1
    refine wpPre_e rfl rfl (fun K1 hK1 => ?_)
    apply Exists.intro
    refine And.intro (fun wx hx => ?_) ?_
    · go_simp
      try rfl
    go_simp
    refine hK1 _ ?_
    clear hK1 K1
    refine wpPre_e rfl rfl (fun K1 hK1 => ?_)
    apply Exists.intro
    refine And.intro (fun wx hx => ?_) ?_
    · go_simp
      try rfl
    go_simp
    refine hK1 _ ?_
    clear hK1 K1
    refine wpPre_e rfl rfl (fun K1 hK1 => ?_)
    apply Exists.intro
    refine And.intro (fun wx hx => ?_) ?_
    · have e0 := below_fact hx rfl c1
      have e1 := below_fact hx rfl c8
      go_simp
      try rfl
    go_simp
    refine hK1 _ ?_
    clear hK1 K1
    refine wpPre_e rfl rfl (fun K1 hK1 => ?_)
    apply Exists.intro
    refine And.intro (fun wx hx => ?_) ?_
    · go_simp
      try rfl
    go_simp
    refine hK1 _ ?_
    clear hK1 K1
    refine wpPre_i rfl (fun K1 hK1 => ?_)
    rw [if_neg (by go_simp)]
    go_simp
    refine hK1 _ ?_
    clear hK1 K1
    refine wpPre_i rfl (fun K1 hK1 => ?_)
    rw [if_neg (by go_simp)]
    go_simp
    refine hK1 _ ?_
    clear hK1 K1
    refine wpPre_i rfl (fun K1 hK1 => ?_)
    rw [if_neg (by go_simp)]
    go_simp
    refine hK1 _ ?_
    clear hK1 K1
    refine wpPre_i rfl (fun K1 hK1 => ?_)
    rw [if_neg (by go_simp)]
    go_simp
    refine hK1 _ ?_
    clear hK1 K1
    refine wpPre_i rfl (fun K1 hK1 => ?_)
    rw [if_neg (by go_simp)]
    go_simp
    refine hK1 _ ?_
    clear hK1 K1
    refine wpPre_i rfl (fun K1 hK1 => ?_)
    rw [if_neg (by go_simp)]
    go_simp
    refine hK1 _ ?_
    clear hK1 K1
    refine wpPre_i rfl (fun K1 hK1 => ?_)
    rw [if_neg (by go_simp)]
    go_simp
    refine hK1 _ ?_
    clear hK1 K1
    refine wpPre_i rfl (fun K1 hK1 => ?_)
    rw [if_neg (by go_simp)]
    go_simp
    refine hK1 _ ?_
    clear hK1 K1
    refine wpPre_i rfl (fun K1 hK1 => ?_)
    rw [if_neg (by go_simp)]
    go_simp
    refine hK1 _ ?_
    clear hK1 K1
    refine wpPre_nil ?_
    refine wpTr_e rfl (fun K1 hK1 => ?_)
    rw [if_neg (by go_simp)]
    go_simp
    refine hK1 _ _ (fun h => by cases h) ?_
    clear hK1 K1
    refine wpPre_i rfl (fun K1 hK1 => ?_)
    rw [if_neg (by go_simp)]
    go_simp
    refine hK1 _ ?_
    clear hK1 K1
    refine wpPre_e rfl rfl (fun K1 hK1 => ?_)
    apply Exists.intro
    refine And.intro (fun wx hx => ?_) ?_
    · go_simp
      try rfl
    go_simp
    refine hK1 _ ?_
    clear hK1 K1
    refine wpPre_e rfl rfl (fun K1 hK1 => ?_)
    apply Exists.intro
    refine And.intro (fun wx hx => ?_) ?_
    · go_simp
      try rfl
    go_simp
    refine hK1 _ ?_
    clear hK1 K1
    refine wpPre_nil ?_
    refine wpTr_done ?_
    go_wp2
    refine bodyPost_ret (v := .bool false) (by simp [results, Try.results38, go_sem]) rfl ⟨rfl, (Below.refl _ _).drew⟩
  · rw [hc] at c8
    go_enter Try.func38, Try.ntmps38
    go_wp2_with fail
    refine wp_region_calmE 30 (fun wx => Below w.heap.size w wx) [(0, true), (1, true), (2, true), (3, true), (4, false), (5, true), (6, true), (7, true), (8, true), (9, true), (10, true), (11, true), (12, true), (13, false), (14, true)] (.one 15 false [(16, true), (17, true), (18, true)] .done) (by kernel_rfl) (by kernel_rfl) (Below.refl _ _).drew ?_
    refine wpPre_e rfl rfl (fun K1 hK1 => ?_)
    apply Exists.intro
    refine And.intro (fun wx hx => ?_) ?_
    · go_simp
      try rfl
    go_simp
    refine hK1 _ ?_
    clear hK1 K1
    refine wpPre_e rfl rfl (fun K1 hK1 => ?_)
    apply Exists.intro
    refine And.intro (fun wx hx => ?_) ?_
    · go_simp
      try rfl
    go_simp
    refine hK1 _ ?_
    clear hK1 K1
    refine wpPre_e rfl rfl (fun K1 hK1 => ?_)
    apply Exists.intro
    refine And.intro (fun wx hx => ?_) ?_
    · go_simp
      try rfl
    go_simp
    refine hK1 _ ?_
    clear hK1 K1
    refine wpPre_e rfl rfl (fun K1 hK1 => ?_)
    apply Exists.intro
    refine And.intro (fun wx hx => ?_) ?_
    · go_simp
      try rfl
    go_simp
    refine hK1 _ ?_
    clear hK1 K1
    refine wpPre_e rfl rfl (fun K1 hK1 => ?_)
    apply Exists.intro
    refine And.intro (fun wx hx => ?_) ?_
    · have e0 := below_fact hx rfl c1
      have e1 := below_fact hx rfl c8
      go_simp
      try rfl
    go_simp
    refine hK1 _ ?_
    clear hK1 K1
    refine wpPre_e rfl rfl (fun K1 hK1 => ?_)
    apply Exists.intro
    refine And.intro (fun wx hx => ?_) ?_
    · go_simp
      try rfl
    go_simp
    refine hK1 _ ?_
    clear hK1 K1
    refine wpPre_i rfl (fun K1 hK1 => ?_)
    rw [if_pos (by go_simp)]
    apply Exists.intro
    refine And.intro (fun wx hx => ?_) ?_
    · go_simp
      try rfl
    go_simp
    refine hK1 _ ?_
    clear hK1 K1
    refine wpPre_i rfl (fun K1 hK1 => ?_)
    rw [if_pos (by go_simp)]
    apply Exists.intro
    refine And.intro (fun wx hx => ?_) ?_
    · go_simp
      try rfl
    go_simp
    refine hK1 _ ?_
    clear hK1 K1
    refine wpPre_i rfl (fun K1 hK1 => ?_)
    rw [if_pos (by go_simp)]
    apply Exists.intro
    refine And.intro (fun wx hx => ?_) ?_
    · go_simp
      try rfl
    go_simp
    refine hK1 _ ?_
    clear hK1 K1
    refine wpPre_i rfl (fun K1 hK1 => ?_)
    rw [if_pos (by go_simp)]
    apply Exists.intro
    refine And.intro (fun wx hx => ?_) ?_
    · go_simp
      try rfl
    go_simp
    refine hK1 _ ?_
    clear hK1 K1
    refine wpPre_i rfl (fun K1 hK1 => ?_)
    rw [if_pos (by go_simp)]
    apply Exists.intro
    refine And.intro (fun wx hx => ?_) ?_
    · go_simp
      try rfl
    go_simp
    refine hK1 _ ?_
    clear hK1 K1
    refine wpPre_i rfl (fun K1 hK1 => ?_)
    rw [if_pos (by go_simp)]
    apply Exists.intro
    refine And.intro (fun wx hx => ?_) ?_
    · go_simp
      try rfl
    go_simp
    refine hK1 _ ?_
    clear hK1 K1
    refine wpPre_i rfl (fun K1 hK1 => ?_)
    rw [if_pos (by go_simp)]
    apply Exists.intro
    refine And.intro (fun wx hx => ?_) ?_
    · go_simp
      try rfl
    go_simp
    refine hK1 _ ?_
    clear hK1 K1
    refine wpPre_i rfl (fun K1 hK1 => ?_)
    rw [if_pos (by go_simp)]
    apply Exists.intro
    refine And.intro (fun wx hx => ?_) ?_
    · have e0 := below_fact hx rfl c1
      have e1 := below_fact hx rfl c8
      go_simp
      try rfl
    go_simp
    refine hK1 _ ?_
    clear hK1 K1
    refine wpPre_i rfl (fun K1 hK1 => ?_)
    rw [if_pos (by go_simp)]
    apply Exists.intro
    refine And.intro (fun wx hx => ?_) ?_
    · go_simp
      try rfl
    go_simp
    refine hK1 _ ?_
    clear hK1 K1
    refine wpPre_nil ?_
    refine wpTr_e rfl (fun K1 hK1 => ?_)
    rw [if_pos (by go_simp)]
    refine wp_callG 59 #[.tmp 17, .const (.int .i64 0)] _ rfl Try.f59 Try.func59 (by kernel_rfl) rfl #[.slice (some ⟨b, 4, none⟩) N 4, .int .i64 0] rfl _ HC.out (fun e w4 h4 => ?_)
    obtain ⟨rfl, rfl⟩ := h4
    refine ⟨_, rfl, ?_⟩
    go_simp
    refine hK1 _ _ (fun h => by cases h) ?_
    clear hK1 K1
    refine wpPre_i rfl (fun K1 hK1 => ?_)
    rw [if_pos (by go_simp)]
    apply Exists.intro
    refine And.intro (fun wx hx => ?_) ?_
    · go_simp
      try rfl
    go_simp
    refine hK1 _ ?_
    clear hK1 K1
    refine wpPre_e rfl rfl (fun K1 hK1 => ?_)
    apply Exists.intro
    refine And.intro (fun wx hx => ?_) ?_
    · go_simp
      try rfl
    go_simp
    refine hK1 _ ?_
    clear hK1 K1
    refine wpPre_e rfl rfl (fun K1 hK1 => ?_)
    apply Exists.intro
    refine And.intro (fun wx hx => ?_) ?_
    · go_simp
      try rfl
    go_simp
    refine hK1 _ ?_
    clear hK1 K1
    refine wpPre_nil ?_
    refine wpTr_done ?_
    go_wp2
    refine bodyPost_ret (v := .bool (!K.opn)) (by simp [results, Try.results38, go_sem]) rfl ⟨by simp, (Below.refl _ _).drew⟩
end Go.Proofs.Ytdncnnjhfipokaa

namespace Go.Proofs.Ytdncnnjhfipokaa
open Go.RowKit
set_option maxRecDepth 8000
theorem kindRss : ∃ i, Kind 47 37 i (.slice none 0 0) 1 24 := by
  obtain ⟨i0, hi, hz0, hz1, hz2⟩ := info_parts (show (Try.prog.info? 37).map (fun i => (i.zero, i.size, i.bytes)) = some (some (.slice none 0 0), 1, 24) by kernel_rfl)
  exact ⟨i0, Try.underlying47, hi, hz0, hz1, hz2, rfl, by decide⟩
def Bk.lvs (K : Bk) (N : Nat) : List Value := (List.range N).map fun i => K.lv i
set_option maxHeartbeats 2000000 in
theorem cloneL_any (N c : Nat) (hN : N ≤ 4) (w : World) (b : Nat) (K : Bk) (hI : BkI w b K) : Calls Try.prog 39 #[.slice (some ⟨b, 12, none⟩) N c] w fun e w' => ∃ p cc, e = .returned (.slice p N cc) ∧ w'.ownsRow w.heap.size 37 1 (.slice p N cc) N (K.lvs N) ∧ Below w.heap.size w w' := by
  obtain ⟨i0, Kd⟩ := kindRss
  have HKd := hid Kd
  have qT : ∀ (w : World) (a : Option Addr) (n c n' c' : Nat), (binOp .eql 47 (.slice a n c) (.slice none n' c')).run Try.prog w = .ok (.bool a.isNone) w := fun w a n c n' c' => Lib.run_eql_slice_nil w _ _ a n c n' c' Try.underlying47
  have hB : Below w.heap.size w (w.alloc (.cells #[] 37)) := (Below.refl _ _).alloc (Nat.le_refl _) _
  have hI2 := hI.below hB
  have HO : Hid ((w.alloc (.cells #[] 37)).ownsRow w.heap.size 37 1 (.slice (some ⟨w.heap.size, 0, none⟩) 0 0) 0 []) := World.ownsRow_made w #[] 0 (Nat.le_refl _) (Nat.zero_le _) rfl
  have HNew : Hid (∀ j u, (K.lvs N)[j]? = some u → (w.alloc (.cells #[] 37)).cell? ((⟨b, 12, none⟩ : Addr).add j) = some u) := fun j u hu => by
    rw [Go.WideShapes.add_plain]
    have hj : j < N := by
      rcases Nat.lt_or_ge j N with h | h
      · exact h
      · rw [List.getElem?_eq_none (by simp [Bk.lvs]; omega)] at hu; cases hu
    rw [hI2.cl_ (show j < 4 by omega)]
    simp [Bk.lvs, List.getElem?_range hj] at hu
    rw [← hu]; rfl
  have HB := hid hB
  clear hI hB hI2 Kd
  go_enter Try.func39, Try.ntmps39
  go_wp2_with (at_builtin; refine wpList_app rfl (.tmp 5) (.tmp 6) 47 37 i0 _ 1 24 HKd.out rfl w.heap.size (.slice (some ⟨w.heap.size, 0, none⟩) 0 0) 0 [] rfl HO.out ⟨b, 12, none⟩ N c (K.lvs N) rfl (by simp [Bk.lvs]) HNew.out (fun u hu => by simp [Bk.lvs] at hu; obtain ⟨i, _, rfl⟩ := hu; rfl) (by omega) (by omega) (by simp) ?_)
  intro v3 w3 ho3 hg3 hn3
  have ho3 : w3.ownsRow w.heap.size 37 1 v3 N (K.lvs N) := by simpa using ho3
  obtain ⟨p3, c3, rfl⟩ := ownsRow_slice ho3
  have HB3 : Hid (Below w.heap.size w w3) := HB.out.grown hg3 (by simp) (fun k hk => by cases hk; exact Nat.le_refl _)
  have HO3 := hid ho3
  clear ho3 hg3 hn3
  go_wp2
  exact bodyPost_ret (v := .slice p3 N c3) (by simp [results, Try.results39, go_sem]) rfl ⟨p3, c3, rfl, HO3.out, HB3.out⟩
def Bk.part (K : Bk) : Bk := { K with cp := false, num := 0, cl := nilL K.cl.item, pd := nilL K.pd.item, lg := fun i => nilL (K.lg i).item }
/-- what Part answers -/
structure PartQ (w : World) (b : Nat) (K : Bk) (e : Ending) (w' : World) (K' : Bk) : Prop where
  s : SetLog w b K w' K'
  but : But (fun k => k = b) w w'
  n : (K.cp && !K.opn) = false → K' = K ∧ e = .returned (.tuple #[.int .i64 0, .agg #[.int .i64 0, .slice none 0 0, .slice none 0 0, .slice none 0 0], .bool false])
  y : (K.cp && !K.opn) = true → K' = K.part ∧ ∃ p c, e = .returned (.tuple #[.int .i64 K.now, .agg #[.int .i64 K.num, .slice K.cl.p K.cl.n K.cl.c, .slice p K.ports.toNat c, .slice K.pd.p K.pd.n K.pd.c], .bool true]) ∧ w'.ownsRow w.heap.size 37 1 (.slice p K.ports.toNat c) K.ports.toNat (K.lvs K.ports.toNat)
theorem part_set (w5 : World) (b : Nat) (K : Bk) (hI5 : BkI w5 b K) : SetLog w5 b K ((((((((((((((w5.setCell ⟨b, 3, none⟩ (.int .i64 K.now)).setCell ⟨b, 4, none⟩ (.int .i64 (K.st 0))).setCell ⟨b, 5, none⟩ (.int .i64 (K.st 1))).setCell ⟨b, 6, none⟩ (.int .i64 (K.st 2))).setCell ⟨b, 7, none⟩ (.int .i64 (K.st 3))).setCell ⟨b, 8, none⟩ (.bool false)).setCell ⟨b, 9, none⟩ (.int .i64 0)).setCell ⟨b, 10, none⟩ (.slice none 0 0)).setCell ⟨b, 11, none⟩ (.slice none 0 0)).setCell ⟨b, 12, none⟩ (.slice none 0 0)).setCell ⟨b, 13, none⟩ (.slice none 0 0)).setCell ⟨b, 14, none⟩ (.slice none 0 0)).setCell ⟨b, 15, none⟩ (.slice none 0 0))) K.part ∧ But (fun k => k = b) w5 ((((((((((((((w5.setCell ⟨b, 3, none⟩ (.int .i64 K.now)).setCell ⟨b, 4, none⟩ (.int .i64 (K.st 0))).setCell ⟨b, 5, none⟩ (.int .i64 (K.st 1))).setCell ⟨b, 6, none⟩ (.int .i64 (K.st 2))).setCell ⟨b, 7, none⟩ (.int .i64 (K.st 3))).setCell ⟨b, 8, none⟩ (.bool false)).setCell ⟨b, 9, none⟩ (.int .i64 0)).setCell ⟨b, 10, none⟩ (.slice none 0 0)).setCell ⟨b, 11, none⟩ (.slice none 0 0)).setCell ⟨b, 12, none⟩ (.slice none 0 0)).setCell ⟨b, 13, none⟩ (.slice none 0 0)).setCell ⟨b, 14, none⟩ (.slice none 0 0)).setCell ⟨b, 15, none⟩ (.slice none 0 0))) := by
  have hb := (((((((((((((But.one w5 b).setAt 3 (.int .i64 K.now)).setAt 4 (.int .i64 (K.st 0))).setAt 5 (.int .i64 (K.st 1))).setAt 6 (.int .i64 (K.st 2))).setAt 7 (.int .i64 (K.st 3))).setAt 8 (.bool false)).setAt 9 (.int .i64 0)).setAt 10 (.slice none 0 0)).setAt 11 (.slice none 0 0)).setAt 12 (.slice none 0 0)).setAt 13 (.slice none 0 0)).setAt 14 (.slice none 0 0)).setAt 15 (.slice none 0 0)
  refine ⟨hI5.empty (fun i _ => ⟨rfl, rfl, rfl⟩) ?_ hb rfl rfl rfl hI5.n0 hI5.n1 hI5.s0, hb⟩
  have h := (((((((((((((hI5.box).set 3 (.int .i64 K.now)).set 4 (.int .i64 (K.st 0))).set 5 (.int .i64 (K.st 1))).set 6 (.int .i64 (K.st 2))).set 7 (.int .i64 (K.st 3))).set 8 (.bool false)).set 9 (.int .i64 0)).set 10 (.slice none 0 0)).set 11 (.slice none 0 0)).set 12 (.slice none 0 0)).set 13 (.slice none 0 0)).set 14 (.slice none 0 0)).set 15 (.slice none 0 0)
  have e : (((((((((((((K.arr).setIfInBounds 3 (.int .i64 K.now)).setIfInBounds 4 (.int .i64 (K.st 0))).setIfInBounds 5 (.int .i64 (K.st 1))).setIfInBounds 6 (.int .i64 (K.st 2))).setIfInBounds 7 (.int .i64 (K.st 3))).setIfInBounds 8 (.bool false)).setIfInBounds 9 (.int .i64 0)).setIfInBounds 10 (.slice none 0 0)).setIfInBounds 11 (.slice none 0 0)).setIfInBounds 12 (.slice none 0 0)).setIfInBounds 13 (.slice none 0 0)).setIfInBounds 14 (.slice none 0 0)).setIfInBounds 15 (.slice none 0 0) = K.part.arr := by simp [Bk.arr, Bk.part, nilL]
  rw [e] at h
  exact h
set_option maxHeartbeats 8000000 in
theorem part_any (w : World) (b : Nat) (K : Bk) (hI : BkI w b K) : Calls Try.prog 17 #[.pointer (some ⟨b, 0, none⟩)] w fun e w' => ∃ K', PartQ w b K e w' K' := by
  obtain ⟨W, hW⟩ : ∃ W, W = w.alloc (.cells #[.int .i64 0, .slice none 0 0, .slice none 0 0, .slice none 0 0] 49) := ⟨_, rfl⟩
  have hB : Below w.heap.size w W := by rw [hW]; exact (Below.refl _ _).alloc (Nat.le_refl _) _
  have hX : Box W w.heap.size #[.int .i64 0, .slice none 0 0, .slice none 0 0, .slice none 0 0] 49 := by rw [hW]; exact Box.new _ _ _
  have HB := hid hB
  have HX := hid hX
  have HI := hid hI
  have HIW := hid (hI.below hB)
  have HD := hid (done_any W b K HIW.out)
  have hbl := hI.box.lt
  obtain ⟨N, hN⟩ : ∃ N : Nat, K.ports = (N : Int) := ⟨K.ports.toNat, by have := hI.p0; omega⟩
  have hN4 : (N : Int) ≤ 4 := by have := hI.p1; omega
  have hN4' : N ≤ 4 := by omega
  have hNt : K.ports.toNat = N := by omega
  clear hI hB hX
  rcases hd : (K.cp && !K.opn) with _ | _
  · go_enter Try.func17, Try.ntmps17
    go_wp2_with fail
    rw [← hW]
    clear hW
    refine HD.out.mono ?_
    rintro e w1 ⟨rfl, hb1⟩
    rw [hd]
    have hX1 := HX.out.below hb1
    have hB1 := HB.out.trans (hb1.mono HB.out.size)
    have HB1 := hid hB1
    have hlt1 := hX1.lt
    have x0 := hX1.cell 0
    have f0 := hX1.frozen 0
    have x1 := hX1.cell 1
    have f1 := hX1.frozen 1
    have x2 := hX1.cell 2
    have f2 := hX1.frozen 2
    have x3 := hX1.cell 3
    have f3 := hX1.frozen 3
    simp at x0 x1 x2 x3
    clear hb1 hX1 hB1 HD
    go_wp2
    have hbt : Below w.heap.size w ((((w1.setCell ⟨w.heap.size, 0, none⟩ (.int .i64 0)).setCell ⟨w.heap.size, 1, none⟩ (.slice none 0 0)).setCell ⟨w.heap.size, 2, none⟩ (.slice none 0 0)).setCell ⟨w.heap.size, 3, none⟩ (.slice none 0 0)) :=
      (((HB1.out.setCell (p := ⟨w.heap.size, 0, none⟩) (Nat.le_refl _) _).setCell (p := ⟨w.heap.size, 1, none⟩) (Nat.le_refl _) _).setCell (p := ⟨w.heap.size, 2, none⟩) (Nat.le_refl _) _).setCell (p := ⟨w.heap.size, 3, none⟩) (Nat.le_refl _) _
    refine bodyPost_ret (v := .tuple #[.int .i64 0, .agg #[.int .i64 0, .slice none 0 0, .slice none 0 0, .slice none 0 0], .bool false]) (by simp [results, Try.results17, go_sem, x0, x1, x2, x3]) rfl ⟨K, SetLog.same HI.out hbt, But.ofBelow hbt, fun _ => ⟨rfl, rfl⟩, fun h => by rw [hd] at h; cases h⟩
  go_enter Try.func17, Try.ntmps17
  go_wp2_with fail
  rw [← hW]
  clear hW
  refine HD.out.mono ?_
  rintro e w1 ⟨rfl, hb1⟩
  rw [hd]
  have HX1 := hid (HX.out.below hb1)
  have HB1 := hid (HB.out.trans (hb1.mono HB.out.size))
  have hI1 := HIW.out.below hb1
  have HI1 := hid hI1
  have hlt1 := HX1.out.lt
  have hbl1 := hI1.box.lt
  have c1 := hI1.box.cell 1
  have c9 := hI1.box.cell 9
  have c10 := hI1.box.cell 10
  have c11 := hI1.box.cell 11
  simp [Bk.arr] at c1 c9 c10 c11
  rw [hN] at c1
  have HC : Hid (∀ V, Below w1.heap.size w1 V → Calls Try.prog 39 #[.slice (some ⟨b, 12, none⟩) N 4] V fun e w' => ∃ p cc, e = .returned (.slice p N cc) ∧ w'.ownsRow V.heap.size 37 1 (.slice p N cc) N (K.lvs N) ∧ Below V.heap.size V w') := fun V hV => cloneL_any N 4 hN4' V b K (HI1.out.below hV)
  clear hb1 hI1 HD HX
  go_wp2_with fail
  refine wp_region_calmE 30 (fun wx => Below w1.heap.size w1 wx) [(0, true), (1, true), (2, true), (3, true), (4, false), (5, true), (6, true), (7, true), (8, true), (9, true), (10, true), (11, true), (12, false), (13, true), (15, true), (16, true), (17, true), (18, true), (19, false)] (.one 14 true [(20, true)] (.one 21 false [] .done)) (by kernel_rfl) (by kernel_rfl) (Below.refl _ _).drew ?_
  refine wpPre_e rfl rfl (fun K1 hK1 => ?_)
  apply Exists.intro
  refine And.intro (fun wx hx => ?_) ?_
  · go_simp
    try rfl
  go_simp
  refine hK1 _ ?_
  clear hK1 K1
  refine wpPre_e rfl rfl (fun K1 hK1 => ?_)
  apply Exists.intro
  refine And.intro (fun wx hx => ?_) ?_
  · go_simp
    try rfl
  go_simp
  refine hK1 _ ?_
  clear hK1 K1
  refine wpPre_e rfl rfl (fun K1 hK1 => ?_)
  apply Exists.intro
  refine And.intro (fun wx hx => ?_) ?_
  · go_simp
    try rfl
  go_simp
  refine hK1 _ ?_
  clear hK1 K1
  refine wpPre_e rfl rfl (fun K1 hK1 => ?_)
  apply Exists.intro
  refine And.intro (fun wx hx => ?_) ?_
  · go_simp
    try rfl
  go_simp
  refine hK1 _ ?_
  clear hK1 K1
  refine wpPre_e rfl rfl (fun K1 hK1 => ?_)
  apply Exists.intro
  refine And.intro (fun wx hx => ?_) ?_
  · have e0 := below_fact hx rfl c1
    have e1 := below_fact hx rfl c9
    have e2 := below_fact hx rfl c10
    have e3 := below_fact hx rfl c11
    go_simp
    try rfl
  go_simp
  refine hK1 _ ?_
  clear hK1 K1
  refine wpPre_e rfl rfl (fun K1 hK1 => ?_)
  apply Exists.intro
  refine And.intro (fun wx hx => ?_) ?_
  · go_simp
    try rfl
  go_simp
  refine hK1 _ ?_
  clear hK1 K1
  refine wpPre_e rfl rfl (fun K1 hK1 => ?_)
  apply Exists.intro
  refine And.intro (fun wx hx => ?_) ?_
  · go_simp
    try rfl
  go_simp
  refine hK1 _ ?_
  clear hK1 K1
  refine wpPre_e rfl rfl (fun K1 hK1 => ?_)
  apply Exists.intro
  refine And.intro (fun wx hx => ?_) ?_
  · go_simp
    try rfl
  go_simp
  refine hK1 _ ?_
  clear hK1 K1
  refine wpPre_e rfl rfl (fun K1 hK1 => ?_)
  apply Exists.intro
  refine And.intro (fun wx hx => ?_) ?_
  · go_simp
    try rfl
  go_simp
  refine hK1 _ ?_
  clear hK1 K1
  refine wpPre_e rfl rfl (fun K1 hK1 => ?_)
  apply Exists.intro
  refine And.intro (fun wx hx => ?_) ?_
  · go_simp
    try rfl
  go_simp
  refine hK1 _ ?_
  clear hK1 K1
  refine wpPre_e rfl rfl (fun K1 hK1 => ?_)
  apply Exists.intro
  refine And.intro (fun wx hx => ?_) ?_
  · go_simp
    try rfl
  go_simp
  refine hK1 _ ?_
  clear hK1 K1
  refine wpPre_e rfl rfl (fun K1 hK1 => ?_)
  apply Exists.intro
  refine And.intro (fun wx hx => ?_) ?_
  · go_simp
    try rfl
  go_simp
  refine hK1 _ ?_
  clear hK1 K1
  refine wpPre_e rfl rfl (fun K1 hK1 => ?_)
  apply Exists.intro
  refine And.intro (fun wx hx => ?_) ?_
  · have e0 := below_fact hx rfl c1
    have e1 := below_fact hx rfl c9
    have e2 := below_fact hx rfl c10
    have e3 := below_fact hx rfl c11
    go_simp
    try rfl
  go_simp
  refine hK1 _ ?_
  clear hK1 K1
  refine wpPre_e rfl rfl (fun K1 hK1 => ?_)
  apply Exists.intro
  refine And.intro (fun wx hx => ?_) ?_
  · go_simp
    try rfl
  go_simp
  refine hK1 _ ?_
  clear hK1 K1
  refine wpPre_e rfl rfl (fun K1 hK1 => ?_)
  apply Exists.intro
  refine And.intro (fun wx hx => ?_) ?_
  · go_simp
    try rfl
  go_simp
  refine hK1 _ ?_
  clear hK1 K1
  refine wpPre_e rfl rfl (fun K1 hK1 => ?_)
  apply Exists.intro
  refine And.intro (fun wx hx => ?_) ?_
  · go_simp
    try rfl
  go_simp
  refine hK1 _ ?_
  clear hK1 K1
  refine wpPre_e rfl rfl (fun K1 hK1 => ?_)
  apply Exists.intro
  refine And.intro (fun wx hx => ?_) ?_
  · go_simp
    try rfl
  go_simp
  refine hK1 _ ?_
  clear hK1 K1
  refine wpPre_e rfl rfl (fun K1 hK1 => ?_)
  apply Exists.intro
  refine And.intro (fun wx hx => ?_) ?_
  · go_simp
    try rfl
  go_simp
  refine hK1 _ ?_
  clear hK1 K1
  refine wpPre_e rfl rfl (fun K1 hK1 => ?_)
  apply Exists.intro
  refine And.intro (fun wx hx => ?_) ?_
  · have e0 := below_fact hx rfl c1
    have e1 := below_fact hx rfl c9
    have e2 := below_fact hx rfl c10
    have e3 := below_fact hx rfl c11
    go_simp
    try rfl
  go_simp
  refine hK1 _ ?_
  clear hK1 K1
  refine wpPre_nil ?_
  refine wpTr_e rfl (fun K1 hK1 => ?_)
  refine step_call rfl 39 #[.tmp 22] _ rfl Try.f39 Try.func39 (by kernel_rfl) rfl #[.slice (some ⟨b, 12, none⟩) N 4] rfl _ (HC.out _ (Below.refl _ _).drew) (fun e w4 h4 => ?_)
  obtain ⟨pL, cL, rfl, hoL, hb4⟩ := h4
  refine ⟨_, rfl, ?_⟩
  have hb4' : Below w1.heap.size w1 w4 := (Below.refl w1.heap.size w1).drew.trans hb4
  have hoL : w4.ownsRow w1.heap.size 37 1 (.slice pL N cL) N (K.lvs N) := hoL
  have HOL := hid hoL
  have HB4 := hid (HB1.out.trans (hb4'.mono HB1.out.size))
  have HX4 := hid (HX1.out.below hb4')
  have HI4 := hid (HI1.out.below hb4')
  have hlt4 := HX4.out.lt
  have x0 := HX4.out.cell 0
  have f0 := HX4.out.frozen 0
  have x1 := HX4.out.cell 1
  have f1 := HX4.out.frozen 1
  have x2 := HX4.out.cell 2
  have f2 := HX4.out.frozen 2
  have x3 := HX4.out.cell 3
  have f3 := HX4.out.frozen 3
  simp at x0 x1 x2 x3
  clear hoL hb4
  go_simp
  refine hK1 _ _ (fun _ => hb4') ?_
  clear hK1 K1 hb4'
  refine wpPre_e rfl rfl (fun K1 hK1 => ?_)
  apply Exists.intro
  refine And.intro (fun wx hx => ?_) ?_
  · go_simp
    try rfl
  go_simp
  refine hK1 _ ?_
  clear hK1 K1
  refine wpPre_nil ?_
  refine wpTr_e rfl (fun K1 hK1 => ?_)
  go_simp
  refine hK1 _ _ (fun h => by cases h) ?_
  clear hK1 K1
  refine wpPre_nil ?_
  refine wpTr_done ?_
  obtain ⟨w5, hw5⟩ : ∃ w5, w5 = ((((w4.setCell ⟨w.heap.size, 0, none⟩ (.int .i64 K.num)).setCell ⟨w.heap.size, 1, none⟩ (.slice K.cl.p K.cl.n K.cl.c)).setCell ⟨w.heap.size, 2, none⟩ (.slice pL N cL)).setCell ⟨w.heap.size, 3, none⟩ (.slice K.pd.p K.pd.n K.pd.c)) := ⟨_, rfl⟩
  rw [← hw5]
  have hp5 : But (fun k => k = w.heap.size) w4 w5 := by rw [hw5]; exact ((((But.one w4 w.heap.size).setAt 0 (.int .i64 K.num)).setAt 1 (.slice K.cl.p K.cl.n K.cl.c)).setAt 2 (.slice pL N cL)).setAt 3 (.slice K.pd.p K.pd.n K.pd.c)
  have HX5 : Hid (Box w5 w.heap.size #[.int .i64 K.num, .slice K.cl.p K.cl.n K.cl.c, .slice pL N cL, .slice K.pd.p K.pd.n K.pd.c] 49) := by
    unfold Hid
    rw [hw5]
    have h := ((((HX4.out).set 0 (.int .i64 K.num)).set 1 (.slice K.cl.p K.cl.n K.cl.c)).set 2 (.slice pL N cL)).set 3 (.slice K.pd.p K.pd.n K.pd.c)
    simpa using h
  have HB5 : Hid (Below w.heap.size w w5) := HB4.out.trans (hp5.below (by omega) (fun k hk => by omega))
  have hI5 := HI.out.below HB5.out
  have HI5 := hid hI5
  have hL1 : w.heap.size + 1 ≤ w1.heap.size := hlt1
  have HOL5 : Hid (w5.ownsRow (w.heap.size + 1) 37 1 (.slice pL N cL) N (K.lvs N)) := by
    have h := HOL.out
    have h2 : w4.ownsRow (w.heap.size + 1) 37 1 (.slice pL N cL) N (K.lvs N) := by
      obtain ⟨h1, h3 | ⟨g, cap, cur, e1, e2, e3⟩⟩ := h
      · exact ⟨h1, .inl h3⟩
      · exact ⟨h1, .inr ⟨g, cap, cur, e1, by omega, e3⟩⟩
    exact ownsRow_keep h2 fun k hk hl => hp5.block k hl (fun e => by have := (h2.lt k hk).1; omega)
  have hlt5 := HX5.out.lt
  have d3 := hI5.box.cell 3
  have g3 := hI5.box.frozen 3
  have d4 := hI5.box.cell 4
  have g4 := hI5.box.frozen 4
  have d5 := hI5.box.cell 5
  have g5 := hI5.box.frozen 5
  have d6 := hI5.box.cell 6
  have g6 := hI5.box.frozen 6
  have d7 := hI5.box.cell 7
  have g7 := hI5.box.frozen 7
  have d8 := hI5.box.cell 8
  have g8 := hI5.box.frozen 8
  have d9 := hI5.box.cell 9
  have g9 := hI5.box.frozen 9
  have d10 := hI5.box.cell 10
  have g10 := hI5.box.frozen 10
  have d11 := hI5.box.cell 11
  have g11 := hI5.box.frozen 11
  have d12 := hI5.box.cell 12
  have g12 := hI5.box.frozen 12
  have d13 := hI5.box.cell 13
  have g13 := hI5.box.frozen 13
  have d14 := hI5.box.cell 14
  have g14 := hI5.box.frozen 14
  have d15 := hI5.box.cell 15
  have g15 := hI5.box.frozen 15
  simp [Bk.arr] at d3 d4 d5 d6 d7 d8 d9 d10 d11 d12 d13 d14 d15
  have hbl5 := hI5.box.lt
  clear hp5 hw5 hI5 x0 x1 x2 x3 f0 f1 f2 f3 c1 c9 c10 c11 HOL HC
  go_wp2_with fail
  refine wp_region_calmE 30 (fun wx => Below w5.heap.size w5 wx) [(0, true), (1, true), (2, true), (3, true), (4, true), (5, false), (6, true), (7, true), (8, true), (9, true), (10, false), (11, true), (12, true), (13, true)] (.one 14 false [] .done) (by kernel_rfl) (by kernel_rfl) (Below.refl _ _).drew ?_
  refine wpPre_e rfl rfl (fun K1 hK1 => ?_)
  apply Exists.intro
  refine And.intro (fun wx hx => ?_) ?_
  · go_simp
    try rfl
  go_simp
  refine hK1 _ ?_
  clear hK1 K1
  refine wpPre_e rfl rfl (fun K1 hK1 => ?_)
  apply Exists.intro
  refine And.intro (fun wx hx => ?_) ?_
  · go_simp
    try rfl
  go_simp
  refine hK1 _ ?_
  clear hK1 K1
  refine wpPre_e rfl rfl (fun K1 hK1 => ?_)
  apply Exists.intro
  refine And.intro (fun wx hx => ?_) ?_
  · go_simp
    try rfl
  go_simp
  refine hK1 _ ?_
  clear hK1 K1
  refine wpPre_e rfl rfl (fun K1 hK1 => ?_)
  apply Exists.intro
  refine And.intro (fun wx hx => ?_) ?_
  · go_simp
    try rfl
  go_simp
  refine hK1 _ ?_
  clear hK1 K1
  refine wpPre_e rfl rfl (fun K1 hK1 => ?_)
  apply Exists.intro
  refine And.intro (fun wx hx => ?_) ?_
  · go_simp
    try rfl
  go_simp
  refine hK1 _ ?_
  clear hK1 K1
  refine wpPre_e rfl rfl (fun K1 hK1 => ?_)
  apply Exists.intro
  refine And.intro (fun wx hx => ?_) ?_
  · have e0 := below_fact hx rfl d3
    have e1 := below_fact hx rfl d4
    have e2 := below_fact hx rfl d5
    have e3 := below_fact hx rfl d6
    have e4 := below_fact hx rfl d7
    go_simp
    try rfl
  go_simp
  refine hK1 _ ?_
  clear hK1 K1
  refine wpPre_e rfl rfl (fun K1 hK1 => ?_)
  apply Exists.intro
  refine And.intro (fun wx hx => ?_) ?_
  · go_simp
    try rfl
  go_simp
  refine hK1 _ ?_
  clear hK1 K1
  refine wpPre_e rfl rfl (fun K1 hK1 => ?_)
  apply Exists.intro
  refine And.intro (fun wx hx => ?_) ?_
  · go_simp
    try rfl
  go_simp
  refine hK1 _ ?_
  clear hK1 K1
  refine wpPre_e rfl rfl (fun K1 hK1 => ?_)
  apply Exists.intro
  refine And.intro (fun wx hx => ?_) ?_
  · go_simp
    try rfl
  go_simp
  refine hK1 _ ?_
  clear hK1 K1
  refine wpPre_e rfl rfl (fun K1 hK1 => ?_)
  apply Exists.intro
  refine And.intro (fun wx hx => ?_) ?_
  · go_simp
    try rfl
  go_simp
  refine hK1 _ ?_
  clear hK1 K1
  refine wpPre_e rfl rfl (fun K1 hK1 => ?_)
  apply Exists.intro
  refine And.intro (fun wx hx => ?_) ?_
  · have e0 := below_fact hx rfl d3
    have e1 := below_fact hx rfl d4
    have e2 := below_fact hx rfl d5
    have e3 := below_fact hx rfl d6
    have e4 := below_fact hx rfl d7
    go_simp
    try rfl
  go_simp
  refine hK1 _ ?_
  clear hK1 K1
  refine wpPre_e rfl rfl (fun K1 hK1 => ?_)
  apply Exists.intro
  refine And.intro (fun wx hx => ?_) ?_
  · go_simp
    try rfl
  go_simp
  refine hK1 _ ?_
  clear hK1 K1
  refine wpPre_e rfl rfl (fun K1 hK1 => ?_)
  apply Exists.intro
  refine And.intro (fun wx hx => ?_) ?_
  · go_simp
    try rfl
  go_simp
  refine hK1 _ ?_
  clear hK1 K1
  refine wpPre_e rfl rfl (fun K1 hK1 => ?_)
  apply Exists.intro
  refine And.intro (fun wx hx => ?_) ?_
  · go_simp
    try rfl
  go_simp
  refine hK1 _ ?_
  clear hK1 K1
  refine wpPre_nil ?_
  refine wpTr_e rfl (fun K1 hK1 => ?_)
  go_simp
  refine hK1 _ _ (fun h => by cases h) ?_
  clear hK1 K1
  refine wpPre_nil ?_
  refine wpTr_done ?_
  obtain ⟨w6, hw6⟩ : ∃ w6, w6 = ((((((((((((((w5.setCell ⟨b, 3, none⟩ (.int .i64 K.now)).setCell ⟨b, 4, none⟩ (.int .i64 (K.st 0))).setCell ⟨b, 5, none⟩ (.int .i64 (K.st 1))).setCell ⟨b, 6, none⟩ (.int .i64 (K.st 2))).setCell ⟨b, 7, none⟩ (.int .i64 (K.st 3))).setCell ⟨b, 8, none⟩ (.bool false)).setCell ⟨b, 9, none⟩ (.int .i64 0)).setCell ⟨b, 10, none⟩ (.slice none 0 0)).setCell ⟨b, 11, none⟩ (.slice none 0 0)).setCell ⟨b, 12, none⟩ (.slice none 0 0)).setCell ⟨b, 13, none⟩ (.slice none 0 0)).setCell ⟨b, 14, none⟩ (.slice none 0 0)).setCell ⟨b, 15, none⟩ (.slice none 0 0))).drew := ⟨_, rfl⟩
  rw [← hw6]
  have HS6 : Hid (SetLog w b K w6 K.part ∧ But (fun k => k = b) w w6) := by
    have h := part_set w5 b K HI5.out
    rw [hw6]
    exact ⟨((SetLog.same HI.out HB5.out).trans h.1).drew, ((But.ofBelow HB5.out).trans h.2).drew⟩
  have hp6 : But (fun k => k = b) w5 w6 := by
    have h := part_set w5 b K HI5.out
    rw [hw6]
    exact h.2.drew
  have HX6 : Hid (Box w6 w.heap.size #[.int .i64 K.num, .slice K.cl.p K.cl.n K.cl.c, .slice pL N cL, .slice K.pd.p K.pd.n K.pd.c] 49) := HX5.out.but hp6 (by show ¬ w.heap.size = b; omega)
  have HOL6 : Hid (w6.ownsRow (w.heap.size + 1) 37 1 (.slice pL N cL) N (K.lvs N)) := ownsRow_keep HOL5.out fun k hk hl => hp6.block k hl (fun e => by have := (HOL5.out.lt k hk).1; omega)
  have h3 := HS6.out.1.inv.box.cell 3
  have hbl6 := HS6.out.1.inv.box.lt
  simp [Bk.arr, Bk.part] at h3
  have q0 := HX6.out.cell 0
  have j0 := HX6.out.frozen 0
  have q1 := HX6.out.cell 1
  have j1 := HX6.out.frozen 1
  have q2 := HX6.out.cell 2
  have j2 := HX6.out.frozen 2
  have q3 := HX6.out.cell 3
  have j3 := HX6.out.frozen 3
  simp at q0 q1 q2 q3
  have hlt6 := HX6.out.lt
  clear hp6 hw6 d3 g3 d4 g4 d5 g5 d6 g6 d7 g7 d8 g8 d9 g9 d10 g10 d11 g11 d12 g12 d13 g13 d14 g14 d15 g15 HX5 HOL5
  go_wp2_with fail
  refine wp_region_calmE 30 (fun wx => Below w6.heap.size w6 wx) [(0, true), (1, true), (2, true), (3, true), (4, false), (5, false), (6, true)] (.one 7 false [(8, true)] .done) (by kernel_rfl) (by kernel_rfl) (Below.refl _ _).drew ?_
  refine wpPre_e rfl rfl (fun K1 hK1 => ?_)
  apply Exists.intro
  refine And.intro (fun wx hx => ?_) ?_
  · go_simp
    try rfl
  go_simp
  refine hK1 _ ?_
  clear hK1 K1
  refine wpPre_e rfl rfl (fun K1 hK1 => ?_)
  apply Exists.intro
  refine And.intro (fun wx hx => ?_) ?_
  · go_simp
    try rfl
  go_simp
  refine hK1 _ ?_
  clear hK1 K1
  refine wpPre_e rfl rfl (fun K1 hK1 => ?_)
  apply Exists.intro
  refine And.intro (fun wx hx => ?_) ?_
  · go_simp
    try rfl
  go_simp
  refine hK1 _ ?_
  clear hK1 K1
  refine wpPre_e rfl rfl (fun K1 hK1 => ?_)
  apply Exists.intro
  refine And.intro (fun wx hx => ?_) ?_
  · go_simp
    try rfl
  go_simp
  refine hK1 _ ?_
  clear hK1 K1
  refine wpPre_e rfl rfl (fun K1 hK1 => ?_)
  apply Exists.intro
  refine And.intro (fun wx hx => ?_) ?_
  · have e0 := below_fact hx rfl h3
    have e1 := below_fact hx rfl q0
    have e2 := below_fact hx rfl q1
    have e3 := below_fact hx rfl q2
    have e4 := below_fact hx rfl q3
    go_simp
    try rfl
  go_simp
  refine hK1 _ ?_
  clear hK1 K1
  refine wpPre_e rfl rfl (fun K1 hK1 => ?_)
  apply Exists.intro
  refine And.intro (fun wx hx => ?_) ?_
  · have e0 := below_fact hx rfl h3
    have e1 := below_fact hx rfl q0
    have e2 := below_fact hx rfl q1
    have e3 := below_fact hx rfl q2
    have e4 := below_fact hx rfl q3
    go_simp
    try rfl
  go_simp
  refine hK1 _ ?_
  clear hK1 K1
  refine wpPre_e rfl rfl (fun K1 hK1 => ?_)
  apply Exists.intro
  refine And.intro (fun wx hx => ?_) ?_
  · go_simp
    try rfl
  go_simp
  refine hK1 _ ?_
  clear hK1 K1
  refine wpPre_nil ?_
  refine wpTr_e rfl (fun K1 hK1 => ?_)
  go_simp
  refine hK1 _ _ (fun h => by cases h) ?_
  clear hK1 K1
  refine wpPre_e rfl rfl (fun K1 hK1 => ?_)
  apply Exists.intro
  refine And.intro (fun wx hx => ?_) ?_
  · go_simp
    try rfl
  go_simp
  refine hK1 _ ?_
  clear hK1 K1
  refine wpPre_nil ?_
  refine wpTr_done ?_
  obtain ⟨w7, hw7⟩ : ∃ w7, w7 = (((((w6.setCell ⟨w.heap.size, 0, none⟩ (.int .i64 K.num)).setCell ⟨w.heap.size, 1, none⟩ (.slice K.cl.p K.cl.n K.cl.c)).setCell ⟨w.heap.size, 2, none⟩ (.slice pL N cL)).setCell ⟨w.heap.size, 3, none⟩ (.slice K.pd.p K.pd.n K.pd.c))).drew := ⟨_, rfl⟩
  rw [← hw7]
  have hp7 : But (fun k => k = w.heap.size) w6 w7 := by rw [hw7]; exact (((((But.one w6 w.heap.size).setAt 0 (.int .i64 K.num)).setAt 1 (.slice K.cl.p K.cl.n K.cl.c)).setAt 2 (.slice pL N cL)).setAt 3 (.slice K.pd.p K.pd.n K.pd.c)).drew
  have HX7 : Hid (Box w7 w.heap.size #[.int .i64 K.num, .slice K.cl.p K.cl.n K.cl.c, .slice pL N cL, .slice K.pd.p K.pd.n K.pd.c] 49) := by
    unfold Hid
    rw [hw7]
    have h := ((((HX6.out).set 0 (.int .i64 K.num)).set 1 (.slice K.cl.p K.cl.n K.cl.c)).set 2 (.slice pL N cL)).set 3 (.slice K.pd.p K.pd.n K.pd.c)
    simp at h
    exact h.below (Below.refl _ _).drew
  have HI7 : Hid (SetLog w b K w7 K.part ∧ But (fun k => k = b) w w7) := by
    have hk : ∀ k, k < w6.heap.size → k ≠ w.heap.size → w7.heap[k]? = w6.heap[k]? := fun k hk hne => hp7.block k hk hne
    refine ⟨⟨HS6.out.1.inv.kept (fun k hc hl => hk k hl (fun e => ?_)), ⟨hp7.os.trans HS6.out.1.but.os, hp7.tape.trans HS6.out.1.but.tape, hp7.output.trans HS6.out.1.but.output, Nat.le_trans HS6.out.1.but.size hp7.size, fun k hl hc => (hk k (by have := HS6.out.1.but.size; omega) (by omega)).trans (HS6.out.1.but.block k hl hc)⟩, HS6.out.1.cs⟩, ⟨hp7.os.trans HS6.out.1.but.os, hp7.tape.trans HS6.out.1.but.tape, hp7.output.trans HS6.out.1.but.output, Nat.le_trans HS6.out.1.but.size hp7.size, fun k hl hc => (hk k (by have := HS6.out.1.but.size; omega) (by omega)).trans (HS6.out.2.block k hl hc)⟩⟩
    rcases hc with rfl | ⟨i, hi, e2⟩
    · omega
    · cases e2
  have HOL7 : Hid (w7.ownsRow (w.heap.size + 1) 37 1 (.slice pL N cL) N (K.lvs N)) := ownsRow_keep HOL6.out fun k hk hl => hp7.block k hl (fun e => by have := (HOL6.out.lt k hk).1; omega)
  have r0 := HX7.out.cell 0
  have r1 := HX7.out.cell 1
  have r2 := HX7.out.cell 2
  have r3 := HX7.out.cell 3
  simp at r0 r1 r2 r3
  clear hp7 hw7 q0 q1 q2 q3 j0 j1 j2 j3 h3 HX7 HX6 HOL6
  go_wp2
  refine bodyPost_ret (v := .tuple #[.int .i64 K.now, .agg #[.int .i64 K.num, .slice K.cl.p K.cl.n K.cl.c, .slice pL N cL, .slice K.pd.p K.pd.n K.pd.c], .bool true]) (by simp [results, Try.results17, go_sem, r0, r1, r2, r3]) rfl ⟨K.part, HI7.out.1, HI7.out.2, fun h => (by rw [hd] at h; cases h), fun _ => ⟨rfl, pL, cL, by rw [hNt], ?_⟩⟩
  rw [hNt]
  obtain ⟨h1, h3 | ⟨g, cap, cur, e1, e2, e3⟩⟩ := HOL7.out
  · exact ⟨h1, .inl h3⟩
  · exact ⟨h1, .inr ⟨g, cap, cur, e1, by omega, e3⟩⟩
end Go.Proofs.Ytdncnnjhfipokaa
