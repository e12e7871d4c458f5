import Derived.Test.YtgnamngnmbaeeaaDoorPack15
import Derived.Test.YtgnamngnmbaeeaaDoorLkF
namespace Go.Proofs.YtgnamngnmbaeeaaDoor
open Go.RowKit
set_option maxRecDepth 8000
theorem zeroTB (w : World) : (zeroValue 36).run Tryd.prog w = .ok (.slice none 0 0) w := by
  obtain ⟨i, K⟩ := kindBB
  have h := K.hi
  have hz := K.hz
  simp [zeroValue, typeInfo, h, hz, Result.andThen]
theorem wpList_clear {ops : Array Oper} {rest : List Oper} {o : Oper} {a : Act} {w : World} {Q : Exit → Act → World → Prop} (hg : o.guard = none) (x : Operand) (hop : o.op = Op.call { callee := Callee.builtin Builtin.clear, args := #[x], argTypes := #[29] })
    (g off n c : Nat) (hx : a.eval x = .slice (some ⟨g, off, none⟩) n c) (hn : 0 < n) (hc : ∀ j, j < n → (w.cell? ⟨g, off + j, none⟩).isSome = true) (hf : ∀ j, j < n → w.frozen? ⟨g, off + j, none⟩ = false)
    (h : wpList Tryd.prog ops Q rest (a.put o.dst (.tuple #[])) (w.setCells g off (List.replicate n (.slice none 0 0)))) : wpList Tryd.prog ops Q (o :: rest) a w := by
  refine wpList_plain hg fun K hK => ?_
  have hr := Go.Lib.run_clear_slice (P := Tryd.prog) w 29 36 o.type (.slice none 0 0) Tryd.underlying29 zeroTB rfl rfl g off n c hn hc hf
  unfold Oper.wp
  simp [execOp, hop, resolve, invoke, builtin, hx, hr, Result.andThen]
  exact hK _ _ h
theorem wpList_clear0 {ops : Array Oper} {rest : List Oper} {o : Oper} {a : Act} {w : World} {Q : Exit → Act → World → Prop} (hg : o.guard = none) (x : Operand) (hop : o.op = Op.call { callee := Callee.builtin Builtin.clear, args := #[x], argTypes := #[29] })
    (p : Option Addr) (c : Nat) (hx : a.eval x = .slice p 0 c)
    (h : wpList Tryd.prog ops Q rest (a.put o.dst (.tuple #[])) w) : wpList Tryd.prog ops Q (o :: rest) a w := by
  refine wpList_plain hg fun K hK => ?_
  have hr : (Builtin.clear_ #[29] o.type #[.slice p 0 c]).run Tryd.prog w = .ok (.tuple #[]) w := by
    cases p <;> simp [Builtin.clear_, run_underlying Tryd.underlying29]
  unfold Oper.wp
  simp [execOp, hop, resolve, invoke, builtin, hx, hr, Result.andThen]
  exact hK _ _ h
def WoQ (w : World) (Z : Nat → Prop) (v : Value) (L : List BS) (n : Nat) (e : Ending) (w' : World) : Prop :=
  ∃ v', e = .returned v' ∧ Rw w' Z v' (L.drop n) ∧ But (fun k => v.ownBlock = some k) w w' ∧ v'.ownBlock = v.ownBlock
set_option maxHeartbeats 4000000 in
theorem without_any (w : World) (Z : Nat → Prop) (v : Value) (L : List BS) (h : Rw w Z v L) (n : Nat) (hn : n ≤ L.length) :
    Calls Tryd.prog 56 #[v, .int .i64 (n : Int)] w fun e w' => WoQ w Z v L n e w' := by
  obtain ⟨m, hm⟩ : ∃ m, m = L.length := ⟨_, rfl⟩
  have H := hid h
  have HM := hid hm
  rw [← hm] at hn
  have hrow := h.row
  rcases hrow with ⟨hv, h0⟩ | ⟨g, o, cap, cur, hv, hX, h1, h2, h3, h4⟩
  · subst hv
    have hm0 : m = 0 := by rw [hm]; simpa using h0
    obtain rfl : n = 0 := by omega
    clear hm h h0 hm0 hn
    go_enter Tryd.func56, Tryd.ntmps56
    go_wp2_with (refine wpList_clear0 rfl (.tmp 7) rfl none 0 rfl ?_)
    exact bodyPost_ret (v := .slice none 0 0) (by simp [results, Tryd.results56, go_sem]) rfl ⟨_, rfl, by rw [List.drop_zero]; exact H.out, But.refl _ _, rfl⟩
  · rw [List.length_map] at hv h1
    rw [← hm] at hv h1
    subst hv
    have HXg := hid hX
    have HC := hid (fun (o' : Nat) ho => RowQ.cut hX (by rw [List.length_map, ← hm]; exact h1) h2 h3 (by exact h4) (k := n) (by rw [List.length_map, ← hm]; exact hn) o' ho)
    have hn' : (n : Int) ≤ (m : Int) := by omega
    have h3' : m ≤ 9223372036854775807 := by unfold maxLen at h3; omega
    clear h hm hX h4
    have hfin : Hid (∀ (w2 : World) (o' : Nat), (o' = o + n ∨ (o' = o ∧ cap - n = 0)) → w2 = w.setCells g o (List.replicate n (.slice none 0 0)) → Rw w2 Z (.slice (some ⟨g, o', none⟩) (m - n) (cap - n)) (L.drop n) ∧ But (fun k => (Value.slice (some ⟨g, o, none⟩) m cap).ownBlock = some k) w w2) := by
      intro w2 o' ho hw2
      have hb := but_cells g (List.replicate n (.slice none 0 0)) o w
      rw [← hw2] at hb
      refine ⟨⟨?_, fun x hx => ?_, fun q hq => H.out.z q (by rw [← hq]; rfl)⟩, hb.mono fun k _ e => by rw [show k = g from e]; rfl⟩
      · have hc := HC.out o' ho
        rw [List.length_map, ← HM.out, ← hw2] at hc
        rw [List.map_drop]
        exact hc
      · have hx2 := H.out.it x (List.mem_of_mem_drop hx)
        exact hx2.kept hb.size fun k hk hl => hb.block k hl fun e => hk.2 (by rw [show k = g from e]; rfl)
    by_cases hn0 : n = 0
    · subst hn0
      have HF0 := hfin
      clear hfin HC
      go_enter Tryd.func56, Tryd.ntmps56
      go_wp2_with (refine wpList_clear0 rfl (.tmp 7) rfl (some ⟨g, o, none⟩) cap rfl ?_)
      have HQ := hid (HF0.out w o (.inl (by omega)) rfl)
      clear HF0
      exact bodyPost_ret (v := .slice (some ⟨g, o, none⟩) m cap) (by simp [results, Tryd.results56, go_sem]) rfl ⟨_, rfl, HQ.out.1, HQ.out.2, rfl⟩
    · have hcl : ∀ j, j < n → (w.cell? ⟨g, o + j, none⟩).isSome = true := fun j hj => by
        rw [HXg.out.cell, Array.getElem?_eq_getElem (by omega)]; rfl
      have hfz : ∀ j, j < n → w.frozen? ⟨g, o + j, none⟩ = false := fun j _ => HXg.out.frozen _
      have HCl := hid hcl
      have HFz := hid hfz
      have hnp : 0 < n := by omega
      clear hcl hfz
      go_enter Tryd.func56, Tryd.ntmps56
      go_wp2_with (refine wpList_clear rfl (.tmp 7) rfl g o n cap rfl hnp HCl.out HFz.out ?_)
      all_goals obtain ⟨W2, hW2⟩ : ∃ V, V = w.setCells g o (List.replicate n (.slice none 0 0)) := ⟨_, rfl⟩
      all_goals rw [← hW2]
      · have HQ := hid (hfin.out W2 o (.inr ⟨rfl, by omega⟩) hW2)
        rw [show cap - n = 0 by omega] at HQ
        clear hW2
        exact bodyPost_ret (v := .slice (some ⟨g, o, none⟩) (m - n) 0) (by simp [results, Tryd.results56, go_sem]) rfl ⟨_, rfl, HQ.out.1, HQ.out.2, rfl⟩
      · have HQ := hid (hfin.out W2 (o + n) (.inl rfl) hW2)
        clear hW2
        exact bodyPost_ret (v := .slice (some ⟨g, o + n, none⟩) (m - n) (cap - n)) (by simp [results, Tryd.results56, go_sem]) rfl ⟨_, rfl, HQ.out.1, HQ.out.2, rfl⟩
end Go.Proofs.YtgnamngnmbaeeaaDoor

namespace Go.Proofs.YtgnamngnmbaeeaaDoor
open Go.RowKit
set_option maxRecDepth 8000
theorem numG_le (bound : Nat) : ∀ (k i u : Nat) (L : List Int) (m : Nat) (R : List Int), numG bound k i u L = .ok (m, R) → m ≤ bound := by
  intro k
  induction k with
  | zero => intro i u L m R h; cases h
  | succ k ih =>
    intro i u L m R h
    cases L with
    | nil => rw [numG_nil] at h; cases h
    | cons c R0 =>
      simp only [numG, bindS, takeS, List.length_cons] at h
      rw [if_pos (by omega)] at h
      simp only at h
      split at h
      · split at h
        · cases h
        · split at h
          · cases h
          · simp only [retS, Except.ok.injEq, Prod.mk.injEq] at h
            omega
      · exact ih _ _ _ _ _ h
theorem numS_le {bound : Nat} {L : List Int} {m : Nat} {R : List Int} (h : numS bound L = .ok (m, R)) : m ≤ bound := numG_le bound 5 0 0 L m R h
theorem restS_ok : ∀ (ps : List (Nat × Nat)) (mm : Nat) (acc : List Nat) (R : List Int) (acc' : List Nat) (R' : List Int), restS ps mm acc R = some (acc', R') → ∃ ns : List Nat, acc' = acc ++ ns ∧ ns.length = ps.length ∧ R'.length ≤ mm ∧ ∀ (i : Nat) p n, ps[i]? = some p → ns[i]? = some n → p.1 ≤ n ∧ n ≤ p.2
  | [], mm, acc, R, acc', R', h => by
    unfold restS at h
    split at h
    · cases h
    · rename_i hm
      cases h
      exact ⟨[], by simp, rfl, by omega, fun i p n hp => by simp at hp⟩
  | q :: ps, mm, acc, R, acc', R', h => by
    unfold restS at h
    cases hn : numS q.2 R with
    | error e => rw [hn] at h; cases h
    | ok y =>
      obtain ⟨n, R1⟩ := y
      rw [hn] at h
      simp only at h
      split at h
      · cases h
      · rename_i hlo
        obtain ⟨ns, h1, h2, h3, h4⟩ := restS_ok ps mm _ _ _ _ h
        refine ⟨n :: ns, by rw [h1]; simp, by simp [h2], h3, fun i p m hp hm => ?_⟩
        cases i with
        | zero =>
          simp only [List.getElem?_cons_zero, Option.some.injEq] at hp hm
          subst hp hm
          exact ⟨by omega, numS_le hn⟩
        | succ i =>
          simp only [List.getElem?_cons_succ] at hp hm
          exact h4 i p m hp hm
/-- what is read lies within its bounds -/
structure Let.Ok (l : Let) : Prop where
  ln : l.ln ≤ 23
  nu : l.nu ≤ 1073741825
  n68 : l.kd = 68 → 1 ≤ l.nu ∧ l.nu ≤ 1073741824
  wd : l.wd ≤ 1073741824
  ms : l.ms.length ≤ 4096
theorem readP_ok {zs : List Int} {l : Let} (h : readP zs = some l) : l.Ok := by
  unfold readP at h
  cases hB : (exa zs).2 with
  | nil => rw [hB] at h; cases h
  | cons k R =>
    rw [hB] at h
    unfold readS at h
    simp only at h
    by_cases h1 : k = 68
    · rw [if_pos h1] at h
      obtain ⟨y, hy, rfl⟩ := Option.map_eq_some_iff.1 h
      obtain ⟨acc, R'⟩ := y
      obtain ⟨ns, e1, e2, e3, e4⟩ := restS_ok _ _ _ _ _ _ hy
      simp only [List.nil_append] at e1
      subst e1
      match acc, e2 with
      | [a, c], _ =>
        have f0 := e4 0 _ _ rfl rfl
        have f1 := e4 1 _ _ rfl rfl
        exact ⟨f0.2, by have := f1.2; show c ≤ _; omega, fun _ => f1, by show (0 : Nat) ≤ _; omega, e3⟩
    · rw [if_neg h1] at h
      by_cases h2 : k = 65
      · rw [if_pos h2] at h
        obtain ⟨y, hy, rfl⟩ := Option.map_eq_some_iff.1 h
        obtain ⟨acc, R'⟩ := y
        obtain ⟨ns, e1, e2, e3, e4⟩ := restS_ok _ _ _ _ _ _ hy
        simp only [List.nil_append] at e1
        subst e1
        match acc, e2 with
        | [a, c, d], _ =>
          have f0 := e4 0 _ _ rfl rfl
          have f1 := e4 1 _ _ rfl rfl
          have f2 := e4 2 _ _ rfl rfl
          exact ⟨f0.2, f1.2, (fun h => by cases h), f2.2, by show R'.length ≤ _; omega⟩
      · rw [if_neg h2] at h; cases h
/-- the numbers that were laid are read -/
theorem num_back {bound m : Nat} (h : m ≤ bound) (hm : m < 34359738368) (R : List Int) : numS bound (grpB m ++ R) = .ok (m, R) := by
  obtain ⟨y, h1, h2⟩ := (back_num h hm).whole R
  rw [h1, h2]
theorem bodyB_len {kd : Int} {nums : List Nat} {ms : List Int} (hn : ∀ u ∈ nums, u < 34359738368) (hl : nums.length ≤ 3) (hm : ms.length ≤ 4096) : (bodyB kd nums ms).length ≤ 32768 := by
  have h1 := numsB_len nums hn
  unfold bodyB
  rw [List.length_cons, List.length_append]
  omega
theorem read_data {ln nu : Nat} {ms : List Int} (h1 : ln ≤ 23) (h2 : 1 ≤ nu ∧ nu ≤ 1073741824) (h3 : ms.length ≤ 4096) : readP (frameOf (bodyB 68 [ln, nu] ms)) = some ⟨68, ln, nu, 0, ms⟩ := by
  unfold readP
  rw [exa_frame _ (bodyB_len (by intro u hu; simp at hu; omega) (by simp) h3)]
  unfold bodyB readS numsB
  simp only [if_pos, List.flatMap_cons, List.flatMap_nil, List.append_nil, List.append_assoc]
  unfold ps0 restS
  rw [num_back h1 (by omega)]
  simp only
  rw [if_neg (by omega)]
  unfold restS
  rw [num_back h2.2 (by omega)]
  simp only
  rw [if_neg (by omega)]
  unfold restS
  rw [if_neg (by omega)]
  rfl
theorem read_ans {ln nu wd : Nat} (h1 : ln ≤ 23) (h2 : nu ≤ 1073741825) (h3 : wd ≤ 1073741824) : readP (frameOf (bodyB 65 [ln, nu, wd] [])) = some ⟨65, ln, nu, wd, []⟩ := by
  unfold readP
  rw [exa_frame _ (bodyB_len (by intro u hu; simp at hu; omega) (by simp) (by simp))]
  unfold bodyB readS numsB
  simp only [List.flatMap_cons, List.flatMap_nil, List.append_nil]
  rw [if_neg (by decide), if_pos trivial]
  unfold ps1 restS
  rw [num_back h1 (by omega)]
  simp only
  rw [if_neg (by omega)]
  unfold restS
  rw [num_back h2 (by omega)]
  simp only
  rw [if_neg (by omega)]
  unfold restS
  have := num_back h3 (by omega) []
  rw [List.append_nil] at this
  rw [this]
  simp only
  rw [if_neg (by omega)]
  unfold restS
  rw [if_neg (by simp)]
  rfl
end Go.Proofs.YtgnamngnmbaeeaaDoor
