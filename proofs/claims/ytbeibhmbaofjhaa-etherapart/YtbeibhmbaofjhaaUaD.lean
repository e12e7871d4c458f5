import Derived.Test.YtbeibhmbaofjhaaUaC
namespace Go.Proofs.Ytbeibhmbaofjhaa
open Go.RowKit
set_option maxRecDepth 8000
/-- what Send answers -/
def sendE (m fr tt : Int) (n k : Nat) : Int := if ¬ (0 ≤ fr ∧ fr < m) ∨ ¬ (0 ≤ tt ∧ tt < m) ∨ fr = tt then 221 else if 32776 < n then 222 else if 256 ≤ k then 223 else 0
def SendQ (w : World) (Z : Nat → Prop) (b : Nat) (m : Int) (A : List FA) (a : FA) (e : Ending) (w' : World) : Prop :=
  e = .returned (.int .i64 (sendE m a.fr a.tt a.zs.length A.length)) ∧ (sendE m a.fr a.tt a.zs.length A.length = 0 → EtA w' Z b m (A ++ [a])) ∧ (sendE m a.fr a.tt a.zs.length A.length ≠ 0 → EtA w' Z b m A) ∧ Fr Z w w'
theorem SendQ.no {w : World} {Z : Nat → Prop} {b : Nat} {m : Int} {A : List FA} {a : FA} {x : Int} (hx : sendE m a.fr a.tt a.zs.length A.length = x) (h0 : x ≠ 0) (hA : EtA w Z b m A) : SendQ w Z b m A a (.returned (.int .i64 x)) w := by
  subst hx
  exact ⟨rfl, fun h => absurd h h0, fun _ => hA, Fr.refl _ _⟩
set_option maxHeartbeats 4000000 in
/-- Send -/
theorem send_any (w : World) (Z : Nat → Prop) (b : Nat) (m : Int) (A : List FA) (hA : EtA w Z b m A) (hZ : ∀ k, Z k → k < w.heap.size) (fr tt : Int) (p : Option Addr) (c : Nat) (zs : List Int) (hs : Src w p zs.length c 1 (zs.map (.int .u8))) (hby : ∀ z ∈ zs, 0 ≤ z ∧ z < 256) :
    Calls Try.prog 16 #[.pointer (some ⟨b, 0, none⟩), .int .i64 fr, .int .i64 tt, .slice p zs.length c] w fun e w' => SendQ w Z b m A ⟨fr, tt, zs⟩ e w' := by
  have HEA := hid hA
  obtain ⟨v, L, hI, hAL⟩ := hA
  have b0 := hI.bx.cell 0
  simp at b0
  have HM1 := hid (isM_any w b m b0 fr)
  have HM2 := hid (isM_any w b m b0 tt)
  by_cases h1 : 0 ≤ fr ∧ fr < m
  case neg =>
    have HX : Hid (sendE m fr tt zs.length A.length = 221) := by show sendE _ _ _ _ _ = _; unfold sendE; rw [if_pos (.inl h1)]
    rw [decide_eq_false h1] at HM1
    clear hI hAL hZ hs hby h1 HM2
    go_enter Try.func16, Try.ntmps16
    go_wp2_with fail
    refine HM1.out.mono ?_
    rintro e w1 ⟨rfl, hw⟩
    subst w1
    go_wp2
    exact bodyPost_ret (v := .int .i64 221) (by simp [results, Try.results16, go_sem]) rfl (SendQ.no (a := ⟨fr, tt, zs⟩) HX.out (by decide) HEA.out)
  case pos =>
    by_cases h2 : 0 ≤ tt ∧ tt < m
    case neg =>
      have HX : Hid (sendE m fr tt zs.length A.length = 221) := by show sendE _ _ _ _ _ = _; unfold sendE; rw [if_pos (.inr (.inl h2))]
      rw [decide_eq_true h1] at HM1
      rw [decide_eq_false h2] at HM2
      clear hI hAL hZ hs hby h1 h2
      go_enter Try.func16, Try.ntmps16
      go_wp2_with fail
      refine HM1.out.mono ?_
      rintro e w1 ⟨rfl, hw⟩
      subst w1
      go_wp2_with fail
      refine HM2.out.mono ?_
      rintro e w1 ⟨rfl, hw⟩
      subst w1
      go_wp2
      exact bodyPost_ret (v := .int .i64 221) (by simp [results, Try.results16, go_sem]) rfl (SendQ.no (a := ⟨fr, tt, zs⟩) HX.out (by decide) HEA.out)
    case pos =>
      rw [decide_eq_true h1] at HM1
      rw [decide_eq_true h2] at HM2
      by_cases h3 : fr = tt
      case pos =>
        have HX : Hid (sendE m fr tt zs.length A.length = 221) := by show sendE _ _ _ _ _ = _; unfold sendE; rw [if_pos (.inr (.inr h3))]
        have h3' : (fr == tt) = true := by simpa using h3
        clear hI hAL hZ hs hby h1 h2 h3
        go_enter Try.func16, Try.ntmps16
        go_wp2_with fail
        refine HM1.out.mono ?_
        rintro e w1 ⟨rfl, hw⟩
        subst w1
        go_wp2_with fail
        refine HM2.out.mono ?_
        rintro e w1 ⟨rfl, hw⟩
        subst w1
        go_wp2
        exact bodyPost_ret (v := .int .i64 221) (by simp [results, Try.results16, go_sem]) rfl (SendQ.no (a := ⟨fr, tt, zs⟩) HX.out (by decide) HEA.out)
      case neg =>
        have h3' : (fr == tt) = false := by simpa using h3
        have HN : Hid (¬ (¬ (0 ≤ fr ∧ fr < m) ∨ ¬ (0 ≤ tt ∧ tt < m) ∨ fr = tt)) := fun h => by
          rcases h with h | h | h
          · exact h h1
          · exact h h2
          · exact h3 h
        by_cases h4 : 32776 < zs.length
        case pos =>
          have HX : Hid (sendE m fr tt zs.length A.length = 222) := by show sendE _ _ _ _ _ = _; unfold sendE; rw [if_neg HN.out, if_pos h4]
          have h4' : (32776 : Int) < (zs.length : Int) := by omega
          clear hI hAL hZ hs hby h1 h2 h3
          go_enter Try.func16, Try.ntmps16
          go_wp2_with fail
          refine HM1.out.mono ?_
          rintro e w1 ⟨rfl, hw⟩
          subst w1
          go_wp2_with fail
          refine HM2.out.mono ?_
          rintro e w1 ⟨rfl, hw⟩
          subst w1
          go_wp2
          exact bodyPost_ret (v := .int .i64 222) (by simp [results, Try.results16, go_sem]) rfl (SendQ.no (a := ⟨fr, tt, zs⟩) HX.out (by decide) HEA.out)
        case neg =>
          have HX : Hid (sendE m fr tt zs.length A.length = if 256 ≤ A.length then 223 else 0) := by show sendE _ _ _ _ _ = _; unfold sendE; rw [if_neg HN.out, if_neg h4]
          have h4' : ¬ (32776 : Int) < (zs.length : Int) := by omega
          have HLy := hid (lay_any w Z b m v L hI hZ fr tt p c zs hs (by omega) hby)
          rw [hAL] at HLy
          clear hI hAL hZ hs hby h1 h2 h3
          go_enter Try.func16, Try.ntmps16
          go_wp2_with fail
          refine HM1.out.mono ?_
          rintro e w1 ⟨rfl, hw⟩
          subst w1
          go_wp2_with fail
          refine HM2.out.mono ?_
          rintro e w1 ⟨rfl, hw⟩
          subst w1
          go_wp2_with fail
          refine HLy.out.mono ?_
          intro e w1 hq
          by_cases h5 : 256 ≤ A.length
          · obtain ⟨rfl, hE, hF⟩ := hq.1 h5
            have HE := hid (And.intro hE hF)
            have HX5 : Hid (sendE m fr tt zs.length A.length = 223) := by show sendE _ _ _ _ _ = _; rw [HX.out, if_pos h5]
            clear hq hE hF h5
            go_wp2
            exact bodyPost_ret (v := .int .i64 223) (by simp [results, Try.results16, go_sem]) rfl ⟨by rw [HX5.out], fun h => absurd (HX5.out.symm.trans h) (by decide), fun _ => HE.out.1, HE.out.2⟩
          · obtain ⟨rfl, hE, hF⟩ := hq.2 (by omega)
            have HE := hid (And.intro hE hF)
            have HX5 : Hid (sendE m fr tt zs.length A.length = 0) := by show sendE _ _ _ _ _ = _; rw [HX.out, if_neg h5]
            clear hq hE hF h5
            go_wp2
            exact bodyPost_ret (v := .int .i64 0) (by simp [results, Try.results16, go_sem]) rfl ⟨by rw [HX5.out], fun _ => HE.out.1, fun h => absurd HX5.out h, HE.out.2⟩
/-- what Copy answers -/
def copyE (i : Int) (k : Nat) : Int := if ¬ (0 ≤ i ∧ i < (k : Int)) then 224 else if 256 ≤ k then 223 else 0
def CopyQ (w : World) (Z : Nat → Prop) (b : Nat) (m : Int) (A : List FA) (i : Int) (e : Ending) (w' : World) : Prop :=
  e = .returned (.int .i64 (copyE i A.length)) ∧ (copyE i A.length = 0 → ∃ a, A[i.toNat]? = some a ∧ EtA w' Z b m (A ++ [a])) ∧ (copyE i A.length ≠ 0 → EtA w' Z b m A) ∧ Fr Z w w'
theorem EtI.get {w : World} {Z : Nat → Prop} {b : Nat} {m : Int} {v : Value} {L : List FL} (h : EtI w Z b m v L) {j : Nat} {x : FL} (hx : L[j]? = some x) : ∃ g cap, v = .slice (some ⟨g, 0, none⟩) L.length cap ∧ L.length ≤ cap ∧ g < w.heap.size ∧ w.cell? ⟨g, j * 3, none⟩ = some (.int .i64 x.fr) ∧ w.cell? ⟨g, j * 3 + 1, none⟩ = some (.int .i64 x.tt) ∧ w.cell? ⟨g, j * 3 + 2, none⟩ = some (.slice (some ⟨x.d, 0, none⟩) x.zs.length x.zs.length) ∧ (∀ o, w.frozen? ⟨g, o, none⟩ = false) := by
  have hj : j < L.length := by
    rcases Nat.lt_or_ge j L.length with h1 | h1
    · exact h1
    · rw [List.getElem?_eq_none h1] at hx; cases hx
  obtain ⟨g, cap, hv, hc, hl, hcell, hf⟩ := h.row.cells (by omega)
  exact ⟨g, cap, hv, hc, hl, hcell (j * 3 + 0) _ (by rw [flat3 L j 0 x hx (by omega)]; rfl), hcell (j * 3 + 1) _ (by rw [flat3 L j 1 x hx (by omega)]; rfl), hcell (j * 3 + 2) _ (by rw [flat3 L j 2 x hx (by omega)]; rfl), hf⟩
theorem EtI.src {w : World} {Z : Nat → Prop} {b : Nat} {m : Int} {v : Value} {L : List FL} (h : EtI w Z b m v L) {x : FL} (hx : x ∈ L) : Src w (some ⟨x.d, 0, none⟩) x.zs.length x.zs.length 1 (x.zs.map (.int .u8)) := by
  refine .inr ⟨_, rfl, by simp, fun j u hu => ?_⟩
  rw [Go.WideShapes.add_plain, (h.dat x hx).cell, ← hu]
  simp [bys]
set_option maxHeartbeats 4000000 in
/-- Copy -/
theorem copy_any (w : World) (Z : Nat → Prop) (b : Nat) (m : Int) (A : List FA) (hA : EtA w Z b m A) (hZ : ∀ k, Z k → k < w.heap.size) (i : Int) :
    Calls Try.prog 6 #[.pointer (some ⟨b, 0, none⟩), .int .i64 i] w fun e w' => CopyQ w Z b m A i e w' := by
  have HEA := hid hA
  obtain ⟨v, L, hI, hAL⟩ := hA
  have hln : L.length = A.length := by rw [← hAL]; simp
  have HH := hid (has_any w Z b m v L hI i)
  by_cases h1 : 0 ≤ i ∧ i < (L.length : Int)
  case neg =>
    have HX : Hid (copyE i A.length = 224) := by show copyE _ _ = _; unfold copyE; rw [← hln, if_pos h1]
    rw [decide_eq_false h1] at HH
    clear hI hAL hZ h1 hln
    go_enter Try.func6, Try.ntmps6
    go_wp2_with fail
    refine HH.out.mono ?_
    rintro e w1 ⟨rfl, hw⟩
    subst w1
    go_wp2
    exact bodyPost_ret (v := .int .i64 224) (by simp [results, Try.results6, go_sem]) rfl ⟨by rw [HX.out], fun h => absurd (HX.out.symm.trans h) (by decide), fun _ => HEA.out, Fr.refl _ _⟩
  case pos =>
    rw [decide_eq_true h1] at HH
    obtain ⟨j, hj⟩ : ∃ j : Nat, i = (j : Int) := ⟨i.toNat, by omega⟩
    subst hj
    have hjl : j < L.length := by omega
    obtain ⟨x, hx⟩ : ∃ x, L[j]? = some x := ⟨_, List.getElem?_eq_getElem hjl⟩
    have hmem : x ∈ L := List.mem_of_getElem? hx
    have HX : Hid (copyE (j : Int) A.length = if 256 ≤ A.length then 223 else 0) := by show copyE _ _ = _; unfold copyE; rw [← hln, if_neg (fun h => h h1)]
    have HAx : Hid (A[(j : Int).toNat]? = some x.a) := by show A[_]? = _; rw [← hAL]; simp [hx]
    have HLy := hid (lay_any w Z b m v L hI hZ x.fr x.tt _ _ x.zs (hI.src hmem) (hI.sz x hmem) (hI.by_ x hmem))
    rw [hAL] at HLy
    obtain ⟨g, cap, hv, hcap, hgl, c0, c1, c2, _⟩ := hI.get hx
    have b1 := hI.bx.cell 1
    simp [hv] at b1
    have bl := hI.bx.lt
    have hj1 : (j : Int) < (L.length : Int) := h1.2
    clear hI hAL hZ h1 hln hx hmem hv
    go_enter Try.func6, Try.ntmps6
    go_wp2_with fail
    refine HH.out.mono ?_
    rintro e w1 ⟨rfl, hw⟩
    subst w1
    go_wp2_with fail
    refine HLy.out.mono ?_
    intro e w1 hq
    by_cases h5 : 256 ≤ A.length
    · obtain ⟨rfl, hE, hF⟩ := hq.1 h5
      have HE := hid (And.intro hE hF)
      have HX5 : Hid (copyE (j : Int) A.length = 223) := by show copyE _ _ = _; rw [HX.out, if_pos h5]
      clear hq hE hF h5
      go_wp2
      exact bodyPost_ret (v := .int .i64 223) (by simp [results, Try.results6, go_sem]) rfl ⟨by rw [HX5.out], fun h => absurd (HX5.out.symm.trans h) (by decide), fun _ => HE.out.1, HE.out.2⟩
    · obtain ⟨rfl, hE, hF⟩ := hq.2 (by omega)
      have HE := hid (And.intro hE hF)
      have HX5 : Hid (copyE (j : Int) A.length = 0) := by show copyE _ _ = _; rw [HX.out, if_neg h5]
      clear hq hE hF h5
      go_wp2
      exact bodyPost_ret (v := .int .i64 0) (by simp [results, Try.results6, go_sem]) rfl ⟨by rw [HX5.out], fun _ => ⟨x.a, HAx.out, HE.out.1⟩, fun h => absurd HX5.out h, HE.out.2⟩
end Go.Proofs.Ytbeibhmbaofjhaa
