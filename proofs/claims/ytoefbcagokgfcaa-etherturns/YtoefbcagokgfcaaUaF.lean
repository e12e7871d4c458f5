import Derived.Test.YtoefbcagokgfcaaUaE
namespace Go.Proofs.Ytoefbcagokgfcaa
open Go.RowKit
set_option maxRecDepth 8000
/-- is there a packet of this number? -/
def inA (i : Int) (k : Nat) : Prop := 0 ≤ i ∧ i < (k : Int)
def DropQ (w : World) (Z : Nat → Prop) (b : Nat) (m : Int) (A : List FA) (i : Int) (e : Ending) (w' : World) : Prop :=
  (¬ inA i A.length → e = .returned (.bool false) ∧ EtA w' Z b m A ∧ Fr Z w w') ∧ (inA i A.length → e = .returned (.bool true) ∧ EtA w' Z b m (A.eraseIdx i.toNat) ∧ Fr Z w w')
set_option maxHeartbeats 4000000 in
/-- Drop -/
theorem drop_any (w : World) (Z : Nat → Prop) (b : Nat) (m : Int) (A : List FA) (hA : EtA w Z b m A) (hZ : ∀ k, Z k → k < w.heap.size) (i : Int) :
    Calls Try.prog 23 #[.pointer (some ⟨b, 0, none⟩), .int .i64 i] w fun e w' => DropQ w Z b m A i e w' := by
  have HEA := hid hA
  have HZ := hid hZ
  obtain ⟨v, L, hI, hAL⟩ := hA
  have hln : L.length = A.length := by rw [← hAL]; simp
  have HH := hid (has_any w Z b m v L hI i)
  rw [hln] at HH
  clear hI hAL hln hZ
  by_cases h1 : 0 ≤ i ∧ i < (A.length : Int)
  case neg =>
    rw [decide_eq_false h1] at HH
    have HP := hid h1
    clear h1
    go_enter Try.func23, Try.ntmps23
    go_wp2_with fail
    refine HH.out.mono ?_
    rintro e w1 ⟨rfl, hw⟩
    subst w1
    go_wp2
    exact bodyPost_ret (v := .bool false) (by simp [results, Try.results23, go_sem]) rfl ⟨fun _ => ⟨rfl, HEA.out, Fr.refl _ _⟩, fun h => absurd h HP.out⟩
  case pos =>
    rw [decide_eq_true h1] at HH
    have HP := hid h1
    obtain ⟨j, hj⟩ : ∃ j : Nat, i = (j : Int) := ⟨i.toNat, by omega⟩
    subst hj
    have HC := hid (cut_any w Z b m A HEA.out HZ.out j (by omega))
    clear h1
    go_enter Try.func23, Try.ntmps23
    go_wp2_with fail
    refine HH.out.mono ?_
    rintro e w1 ⟨rfl, hw⟩
    subst w1
    go_wp2_with fail
    refine HC.out.mono ?_
    rintro e w1 ⟨rfl, hE, hF⟩
    have HE := hid (And.intro hE hF)
    clear hE hF HC HH
    go_wp2
    exact bodyPost_ret (v := .bool true) (by simp [results, Try.results23, go_sem]) rfl ⟨fun h => absurd HP.out h, fun _ => ⟨rfl, HE.out.1, HE.out.2⟩⟩
def DlvQ (w : World) (Z : Nat → Prop) (b : Nat) (m : Int) (A : List FA) (i : Int) (e : Ending) (w' : World) : Prop :=
  (¬ inA i A.length → e = .returned (.tuple #[.agg #[.int .i64 0, .int .i64 0, .slice none 0 0], .bool false]) ∧ EtA w' Z b m A ∧ Fr Z w w') ∧
  (inA i A.length → ∃ (a : FA) (d : Nat), A[i.toNat]? = some a ∧ e = .returned (.tuple #[.agg #[.int .i64 a.fr, .int .i64 a.tt, .slice (some ⟨d, 0, none⟩) a.zs.length a.zs.length], .bool true]) ∧ w.heap.size ≤ d ∧ Box w' d (bys a.zs) 5 ∧ EtA w' (fun k => Z k ∨ k = d) b m (A.eraseIdx i.toNat) ∧ Fr Z w w')
set_option maxHeartbeats 4000000 in
/-- Deliver -/
theorem deliver_any (w : World) (Z : Nat → Prop) (b : Nat) (m : Int) (A : List FA) (hA : EtA w Z b m A) (hZ : ∀ k, Z k → k < w.heap.size) (i : Int) :
    Calls Try.prog 11 #[.pointer (some ⟨b, 0, none⟩), .int .i64 i] w fun e w' => DlvQ w Z b m A i e w' := by
  obtain ⟨W, hW⟩ : ∃ W, W = w.alloc (.cells #[.int .i64 0, .int .i64 0, .slice none 0 0] 32) := ⟨_, rfl⟩
  have hBW : Below w.heap.size w W := by rw [hW]; exact (Below.refl _ _).alloc (Nat.le_refl _) _
  have hX : Box W w.heap.size #[.int .i64 0, .int .i64 0, .slice none 0 0] 32 := by rw [hW]; exact Box.new w _ _
  have HA0 := hid hA
  have hAW : EtA W Z b m A := hA.below hBW (fun _ _ h => h)
  have HAW := hid hAW
  have HZ := hid hZ
  have HBW := hid hBW
  have HW := hid hW
  have HXW := hid hX
  obtain ⟨v, L, hI, hAL⟩ := hAW
  have hln : L.length = A.length := by rw [← hAL]; simp
  have HH := hid (has_any W Z b m v L hI i)
  rw [hln] at HH
  by_cases h1 : 0 ≤ i ∧ i < (A.length : Int)
  case neg =>
    rw [decide_eq_false h1] at HH
    have HP := hid h1
    have c0 := hX.cell 0
    have c1 := hX.cell 1
    have c2 := hX.cell 2
    have g0 := hX.frozen 0
    have g1 := hX.frozen 1
    have g2 := hX.frozen 2
    have cl := hX.lt
    simp at c0 c1 c2
    clear h1 hI hAL hln hZ hA hX hBW hW
    go_enter Try.func11, Try.ntmps11
    go_upto_region 1 with fail
    rw [← HW.out]
    go_wp2_with fail
    refine HH.out.mono ?_
    rintro e w1 ⟨rfl, hw⟩
    subst w1
    go_wp2
    have hb3 := but3 W w.heap.size (.int .i64 0) (.int .i64 0) (.slice none 0 0)
    refine bodyPost_ret (v := .tuple #[.agg #[.int .i64 0, .int .i64 0, .slice none 0 0], .bool false]) (by simp [results, Try.results11, go_sem, c0, c1, c2]) rfl ⟨fun _ => ⟨rfl, ?_, ?_⟩, fun h => absurd h HP.out⟩
    · have hAZ : EtA W (fun k => Z k ∨ k = w.heap.size) b m A := HA0.out.below HBW.out (fun k hk h => h.resolve_right (by omega))
      exact hAZ.but (hb3.mono fun k _ e => .inr e) (fun k _ h => .inl h)
    · exact (Fr.below HBW.out).trans (hb3.mono fun k _ e hz => by have := HZ.out k hz; omega)
  case pos =>
    rw [decide_eq_true h1] at HH
    have HP := hid h1
    obtain ⟨j, hj⟩ : ∃ j : Nat, i = (j : Int) := ⟨i.toNat, by omega⟩
    subst hj
    have hjl : j < L.length := by omega
    obtain ⟨x, hx⟩ : ∃ x, L[j]? = some x := ⟨_, List.getElem?_eq_getElem hjl⟩
    have hmem : x ∈ L := List.mem_of_getElem? hx
    have HAx : Hid (A[(j : Int).toNat]? = some x.a) := by show A[_]? = _; rw [← hAL]; simp [hx]
    have HCp := hid (copied_any x.fr x.tt _ _ x.zs W (hI.src hmem) (by have := hI.sz x hmem; omega))
    obtain ⟨g, cap, hv, hcap, hgl, c0, c1, c2, _⟩ := hI.get hx
    have b1 := hI.bx.cell 1
    simp [hv] at b1
    have bl := hI.bx.lt
    have hj1 : (j : Int) < (L.length : Int) := by omega
    have hjA : j < A.length := by omega
    have HJA := hid hjA
    clear h1 hI hAL hln hZ hA hX hBW hW hx hmem hv hjA
    go_enter Try.func11, Try.ntmps11
    go_upto_region 1 with fail
    rw [← HW.out]
    go_wp2_with fail
    refine HH.out.mono ?_
    rintro e w1 ⟨rfl, hw⟩
    subst w1
    go_wp2_with fail
    refine HCp.out.mono ?_
    rintro e w1 ⟨d, rfl, hd, hbd, hb1⟩
    obtain ⟨V, hV⟩ : ∃ V, V = w1.alloc (.cells #[.int .i64 x.fr, .int .i64 x.tt, .slice (some ⟨d, 0, none⟩) x.zs.length x.zs.length] 32) := ⟨_, rfl⟩
    have hBV : Below w1.heap.size w1 V := by rw [hV]; exact (Below.refl _ _).alloc (Nat.le_refl _) _
    have hO : Box V w1.heap.size #[.int .i64 x.fr, .int .i64 x.tt, .slice (some ⟨d, 0, none⟩) x.zs.length x.zs.length] 32 := by rw [hV]; exact Box.new _ _ _
    have hwV : Below w.heap.size w V := (HBW.out.trans (hb1.mono HBW.out.size)).trans (hBV.mono (Nat.le_trans HBW.out.size hb1.size))
    have hWs : w.heap.size < W.heap.size := HXW.out.lt
    have hw1s := hb1.size
    have hdl := hbd.lt
    have hXV : Box V w.heap.size #[.int .i64 0, .int .i64 0, .slice none 0 0] 32 := (HXW.out.below hb1).below hBV
    have hDV := hbd.below hBV
    have hZ2 : ∀ k, (Z k ∨ k = w.heap.size ∨ k = d ∨ k = w1.heap.size) → k < V.heap.size := by
      have := hO.lt
      rintro k (h | h | h | h)
      · have := HZ.out k h; omega
      · omega
      · omega
      · omega
    have hE2 : EtA V (fun k => Z k ∨ k = w.heap.size ∨ k = d ∨ k = w1.heap.size) b m A := HA0.out.below hwV (fun k hk h => h.resolve_right (by omega))
    have HC := hid (cut_any V _ b m A hE2 hZ2 j HJA.out)
    have HV := hid hV
    have HO := hid hO
    have HX := hid hXV
    have HD := hid hDV
    have HWV := hid hwV
    have HDd := hid (show w.heap.size < d by omega)
    have HW1 := hid (show w.heap.size < w1.heap.size by omega)
    have HN1 := hid (show d < w1.heap.size from hdl)
    clear hV hBV hO hwV hXV hDV hZ2 hE2 hd hbd hb1 HH HCp c0 c1 c2 hw1s hdl
    go_upto_region 4 with fail
    rw [← HV.out]
    go_wp2_with fail
    refine HC.out.mono ?_
    rintro e w3 ⟨rfl, hE, hF⟩
    have hO3 := HO.out.but hF (by simp)
    have hX3 := HX.out.but hF (by simp)
    have hD3 := HD.out.but hF (by simp)
    have o0 := hO3.cell 0
    have o1 := hO3.cell 1
    have o2 := hO3.cell 2
    simp at o0 o1 o2
    have q0 := hX3.cell 0
    have q1 := hX3.cell 1
    have q2 := hX3.cell 2
    simp at q0 q1 q2
    have g0 := hX3.frozen 0
    have g1 := hX3.frozen 1
    have g2 := hX3.frozen 2
    have cl := hX3.lt
    have ol := hO3.lt
    have HE := hid (And.intro hE (And.intro hF hD3))
    clear hE hF hO3 hX3 hD3 HC
    go_wp2
    have hb3 := but3 w3 w.heap.size (.int .i64 x.fr) (.int .i64 x.tt) (.slice (some ⟨d, 0, none⟩) x.zs.length x.zs.length)
    refine bodyPost_ret (v := .tuple #[.agg #[.int .i64 x.fr, .int .i64 x.tt, .slice (some ⟨d, 0, none⟩) x.zs.length x.zs.length], .bool true]) (by simp [results, Try.results11, go_sem, q0, q1, q2]) rfl ⟨fun h => absurd HP.out h, fun _ => ⟨x.a, d, HAx.out, rfl, Nat.le_of_lt HDd.out, ?_, ?_, ?_⟩⟩
    · exact HE.out.2.2.but hb3 (by have := HDd.out; omega)
    · refine HE.out.1.but (hb3.mono fun k _ e => .inr (.inl e)) (fun k _ h => ?_)
      rcases h with h | h
      · exact .inl h
      · exact .inr (.inr (.inl h))
    · refine (Fr.below HWV.out).trans (Fr.trans (HE.out.2.1.mono fun k _ h hz => h (.inl hz)) (hb3.mono fun k _ e hz => by have := HZ.out k hz; omega))
end Go.Proofs.Ytoefbcagokgfcaa
