import Derived.Test.YtbeibhmbaofjhaaUaE
namespace Go.Proofs.Ytbeibhmbaofjhaa
open Go.RowKit
set_option maxRecDepth 8000
/-- is there a packet of this number? -/
def inA (i : Int) (k : Nat) : Prop := 0 ≤ i ∧ i < (k : Int)
def DropQ (w : World) (Z : Nat → Prop) (b : Nat) (m : Int) (A : List FA) (i : Int) (e : Ending) (w' : World) : Prop :=
  (¬ inA i A.length → e = .returned (.bool false) ∧ EtA w' Z b m A ∧ Fr Z w w') ∧ (inA i A.length → e = .returned (.bool true) ∧ EtA w' Z b m (A.eraseIdx i.toNat) ∧ Fr Z w w')
set_option maxHeartbeats 4000000 in
/-- Drop -/
def DlvQ (w : World) (Z : Nat → Prop) (b : Nat) (m : Int) (A : List FA) (i : Int) (e : Ending) (w' : World) : Prop :=
  (¬ inA i A.length → e = .returned (.tuple #[.agg #[.int .i64 0, .int .i64 0, .slice none 0 0], .bool false]) ∧ EtA w' Z b m A ∧ Fr Z w w') ∧
  (inA i A.length → ∃ (a : FA) (d : Nat), A[i.toNat]? = some a ∧ e = .returned (.tuple #[.agg #[.int .i64 a.fr, .int .i64 a.tt, .slice (some ⟨d, 0, none⟩) a.zs.length a.zs.length], .bool true]) ∧ w.heap.size ≤ d ∧ Box w' d (bys a.zs) 5 ∧ EtA w' (fun k => Z k ∨ k = d) b m (A.eraseIdx i.toNat) ∧ Fr Z w w')
set_option maxHeartbeats 4000000 in
/-- Deliver -/
theorem deliver_any (w : World) (Z : Nat → Prop) (b : Nat) (m : Int) (A : List FA) (hA : EtA w Z b m A) (hZ : ∀ k, Z k → k < w.heap.size) (i : Int) :
    Calls Try.prog 13 #[.pointer (some ⟨b, 0, none⟩), .int .i64 i] w fun e w' => DlvQ w Z b m A i e w' := by
  obtain ⟨W, hW⟩ : ∃ W, W = w.alloc (.cells #[.int .i64 0, .int .i64 0, .slice none 0 0] 53) := ⟨_, rfl⟩
  have hBW : Below w.heap.size w W := by rw [hW]; exact (Below.refl _ _).alloc (Nat.le_refl _) _
  have hX : Box W w.heap.size #[.int .i64 0, .int .i64 0, .slice none 0 0] 53 := by rw [hW]; exact Box.new w _ _
  have HA0 := hid hA
  have hAW : EtA W Z b m A := hA.below hBW (fun _ _ h => h)
  have HAW := hid hAW
  have HZ := hid hZ
  have HBW := hid hBW
  have HW := hid hW
  have HXW := hid hX
  obtain ⟨v, L, hI, hAL⟩ := hAW
  have hln : L.length = A.length := by rw [← hAL]; simp
  have HH := hid (has_any W Z b m v L hI i)
  rw [hln] at HH
  by_cases h1 : 0 ≤ i ∧ i < (A.length : Int)
  case neg =>
    rw [decide_eq_false h1] at HH
    have HP := hid h1
    have c0 := hX.cell 0
    have c1 := hX.cell 1
    have c2 := hX.cell 2
    have g0 := hX.frozen 0
    have g1 := hX.frozen 1
    have g2 := hX.frozen 2
    have cl := hX.lt
    simp at c0 c1 c2
    clear h1 hI hAL hln hZ hA hX hBW hW
    go_enter Try.func13, Try.ntmps13
    go_upto_region 1 with fail
    rw [← HW.out]
    go_wp2_with fail
    refine HH.out.mono ?_
    rintro e w1 ⟨rfl, hw⟩
    subst w1
    go_wp2
    have hb3 := but3 W w.heap.size (.int .i64 0) (.int .i64 0) (.slice none 0 0)
    refine bodyPost_ret (v := .tuple #[.agg #[.int .i64 0, .int .i64 0, .slice none 0 0], .bool false]) (by simp [results, Try.results13, go_sem, c0, c1, c2]) rfl ⟨fun _ => ⟨rfl, ?_, ?_⟩, fun h => absurd h HP.out⟩
    · have hAZ : EtA W (fun k => Z k ∨ k = w.heap.size) b m A := HA0.out.below HBW.out (fun k hk h => h.resolve_right (by omega))
      exact hAZ.but (hb3.mono fun k _ e => .inr e) (fun k _ h => .inl h)
    · exact (Fr.below HBW.out).trans (hb3.mono fun k _ e hz => by have := HZ.out k hz; omega)
  case pos =>
    rw [decide_eq_true h1] at HH
    have HP := hid h1
    obtain ⟨j, hj⟩ : ∃ j : Nat, i = (j : Int) := ⟨i.toNat, by omega⟩
    subst hj
    have hjl : j < L.length := by omega
    obtain ⟨x, hx⟩ : ∃ x, L[j]? = some x := ⟨_, List.getElem?_eq_getElem hjl⟩
    have hmem : x ∈ L := List.mem_of_getElem? hx
    have HAx : Hid (A[(j : Int).toNat]? = some x.a) := by show A[_]? = _; rw [← hAL]; simp [hx]
    have HCp := hid (copied_any x.fr x.tt _ _ x.zs W (hI.src hmem) (by have := hI.sz x hmem; omega))
    obtain ⟨g, cap, hv, hcap, hgl, c0, c1, c2, _⟩ := hI.get hx
    have b1 := hI.bx.cell 1
    simp [hv] at b1
    have bl := hI.bx.lt
    have hj1 : (j : Int) < (L.length : Int) := by omega
    have hjA : j < A.length := by omega
    have HJA := hid hjA
    clear h1 hI hAL hln hZ hA hX hBW hW hx hmem hv hjA
    go_enter Try.func13, Try.ntmps13
    go_upto_region 1 with fail
    rw [← HW.out]
    go_wp2_with fail
    refine HH.out.mono ?_
    rintro e w1 ⟨rfl, hw⟩
    subst w1
    go_wp2_with fail
    refine HCp.out.mono ?_
    rintro e w1 ⟨d, rfl, hd, hbd, hb1⟩
    obtain ⟨V, hV⟩ : ∃ V, V = w1.alloc (.cells #[.int .i64 x.fr, .int .i64 x.tt, .slice (some ⟨d, 0, none⟩) x.zs.length x.zs.length] 53) := ⟨_, rfl⟩
    have hBV : Below w1.heap.size w1 V := by rw [hV]; exact (Below.refl _ _).alloc (Nat.le_refl _) _
    have hO : Box V w1.heap.size #[.int .i64 x.fr, .int .i64 x.tt, .slice (some ⟨d, 0, none⟩) x.zs.length x.zs.length] 53 := by rw [hV]; exact Box.new _ _ _
    have hwV : Below w.heap.size w V := (HBW.out.trans (hb1.mono HBW.out.size)).trans (hBV.mono (Nat.le_trans HBW.out.size hb1.size))
    have hWs : w.heap.size < W.heap.size := HXW.out.lt
    have hw1s := hb1.size
    have hdl := hbd.lt
    have hXV : Box V w.heap.size #[.int .i64 0, .int .i64 0, .slice none 0 0] 53 := (HXW.out.below hb1).below hBV
    have hDV := hbd.below hBV
    have hZ2 : ∀ k, (Z k ∨ k = w.heap.size ∨ k = d ∨ k = w1.heap.size) → k < V.heap.size := by
      have := hO.lt
      rintro k (h | h | h | h)
      · have := HZ.out k h; omega
      · omega
      · omega
      · omega
    have hE2 : EtA V (fun k => Z k ∨ k = w.heap.size ∨ k = d ∨ k = w1.heap.size) b m A := HA0.out.below hwV (fun k hk h => h.resolve_right (by omega))
    have HC := hid (cut_any V _ b m A hE2 hZ2 j HJA.out)
    have HV := hid hV
    have HO := hid hO
    have HX := hid hXV
    have HD := hid hDV
    have HWV := hid hwV
    have HDd := hid (show w.heap.size < d by omega)
    have HW1 := hid (show w.heap.size < w1.heap.size by omega)
    have HN1 := hid (show d < w1.heap.size from hdl)
    clear hV hBV hO hwV hXV hDV hZ2 hE2 hd hbd hb1 HH HCp c0 c1 c2 hw1s hdl
    go_upto_region 4 with fail
    rw [← HV.out]
    go_wp2_with fail
    refine HC.out.mono ?_
    rintro e w3 ⟨rfl, hE, hF⟩
    have hO3 := HO.out.but hF (by simp)
    have hX3 := HX.out.but hF (by simp)
    have hD3 := HD.out.but hF (by simp)
    have o0 := hO3.cell 0
    have o1 := hO3.cell 1
    have o2 := hO3.cell 2
    simp at o0 o1 o2
    have q0 := hX3.cell 0
    have q1 := hX3.cell 1
    have q2 := hX3.cell 2
    simp at q0 q1 q2
    have g0 := hX3.frozen 0
    have g1 := hX3.frozen 1
    have g2 := hX3.frozen 2
    have cl := hX3.lt
    have ol := hO3.lt
    have HE := hid (And.intro hE (And.intro hF hD3))
    clear hE hF hO3 hX3 hD3 HC
    go_wp2
    have hb3 := but3 w3 w.heap.size (.int .i64 x.fr) (.int .i64 x.tt) (.slice (some ⟨d, 0, none⟩) x.zs.length x.zs.length)
    refine bodyPost_ret (v := .tuple #[.agg #[.int .i64 x.fr, .int .i64 x.tt, .slice (some ⟨d, 0, none⟩) x.zs.length x.zs.length], .bool true]) (by simp [results, Try.results13, go_sem, q0, q1, q2]) rfl ⟨fun h => absurd HP.out h, fun _ => ⟨x.a, d, HAx.out, rfl, Nat.le_of_lt HDd.out, ?_, ?_, ?_⟩⟩
    · exact HE.out.2.2.but hb3 (by have := HDd.out; omega)
    · refine HE.out.1.but (hb3.mono fun k _ e => .inr (.inl e)) (fun k _ h => ?_)
      rcases h with h | h
      · exact .inl h
      · exact .inr (.inr (.inl h))
    · refine (Fr.below HWV.out).trans (Fr.trans (HE.out.2.1.mono fun k _ h hz => h (.inl hz)) (hb3.mono fun k _ e hz => by have := HZ.out k hz; omega))
end Go.Proofs.Ytbeibhmbaofjhaa

namespace Go.Proofs.Ytbeibhmbaofjhaa
open Go.RowKit
set_option maxRecDepth 8000
/-- one bit of a byte turned -/
def flipB (z : Int) (k : Nat) : Int := ((z.toNat ^^^ (1 <<< k) : Nat) : Int)
/-- one bit of a packet turned -/
def flipZ (zs : List Int) (bit : Nat) : List Int := zs.set (bit / 8) (flipB (zs.getD (bit / 8) 0) (bit % 8))
def FA.flip (a : FA) (bit : Nat) : FA := ⟨a.fr, a.tt, flipZ a.zs bit⟩
theorem wrap_u8 (n : Int) : IntKind.u8.wrap n = n % 256 := by simp [IntKind.wrap, IntKind.bits, IntKind.signed]
theorem bits_xor_u8_nat (a b : Nat) (ha : a < 256) (hb : b < 256) : bits BinOp.xor IntKind.u8 (a : Int) (b : Int) = ((a ^^^ b : Nat) : Int) := by
  have hx : a ^^^ b < 2 ^ 8 := Nat.xor_lt_two_pow (by omega) (by omega)
  have h1 : (BitVec.ofInt 8 (a : Int)).toNat = a := by
    rw [BitVec.ofInt_natCast, BitVec.toNat_ofNat]; exact Nat.mod_eq_of_lt (by omega)
  have h2 : (BitVec.ofInt 8 (b : Int)).toNat = b := by
    rw [BitVec.ofInt_natCast, BitVec.toNat_ofNat]; exact Nat.mod_eq_of_lt (by omega)
  show IntKind.u8.wrap ((BitVec.ofInt 8 (a : Int) ^^^ BitVec.ofInt 8 (b : Int)).toNat : Int) = _
  rw [BitVec.toNat_xor, h1, h2, wrap_u8]
  omega
theorem flipB_eq {z : Int} {k : Nat} (h : 0 ≤ z ∧ z < 256) (hk : k < 8) : bits BinOp.xor IntKind.u8 z (IntKind.u8.wrap (2 ^ k)) = flipB z k := by
  obtain ⟨n, rfl⟩ : ∃ n : Nat, z = (n : Int) := ⟨z.toNat, by omega⟩
  have h2 : (2 : Nat) ^ k < 2 ^ 8 := Nat.pow_lt_pow_right (by omega) hk
  have hw : IntKind.u8.wrap ((2 : Int) ^ k) = ((2 ^ k : Nat) : Int) := by
    have e : ((2 : Int) ^ k) = ((2 ^ k : Nat) : Int) := by push_cast; rfl
    rw [e, wrap_u8]
    have h3 : (2 : Nat) ^ k < 256 := h2
    generalize (2 : Nat) ^ k = y at h3
    omega
  rw [hw, bits_xor_u8_nat n (2 ^ k) (by omega) h2]
  unfold flipB
  rw [Nat.one_shiftLeft]
  simp
theorem flipB_lt {z : Int} {k : Nat} (h : 0 ≤ z ∧ z < 256) (hk : k < 8) : 0 ≤ flipB z k ∧ flipB z k < 256 := by
  unfold flipB
  refine ⟨Int.natCast_nonneg _, ?_⟩
  have h1 : z.toNat < 2 ^ 8 := by omega
  have h2 : 1 <<< k < 2 ^ 8 := by
    rw [Nat.one_shiftLeft]
    exact Nat.pow_lt_pow_right (by omega) hk
  have := Nat.xor_lt_two_pow h1 h2
  omega
/-- a byte of one packet is another now -/
theorem EtI.turn {w : World} {Z : Nat → Prop} {b : Nat} {m : Int} {v : Value} {L : List FL} (hI : EtI w Z b m v L) {i : Nat} {x : FL} (hx : L[i]? = some x) {j : Nat} {y : Int} (hy : 0 ≤ y ∧ y < 256) :
    EtI (w.setCell ⟨x.d, j, none⟩ (.int .u8 y)) Z b m v (L.set i ⟨x.fr, x.tt, x.d, x.zs.set j y⟩) ∧ Fr Z w (w.setCell ⟨x.d, j, none⟩ (.int .u8 y)) := by
  have hmem : x ∈ L := List.mem_of_getElem? hx
  have hi : i < L.length := by
    rcases Nat.lt_or_ge i L.length with h1 | h1
    · exact h1
    · rw [List.getElem?_eq_none h1] at hx; cases hx
  have hne := hI.ne_dat hmem
  have hd : ∀ k, k ≠ x.d → (w.setCell ⟨x.d, j, none⟩ (.int .u8 y)).heap[k]? = w.heap[k]? := fun k hk => Below.heap_setCell _ _ _ _ (by simpa using hk)
  have hcells : (L.set i ⟨x.fr, x.tt, x.d, x.zs.set j y⟩).flatMap FL.cells = L.flatMap FL.cells := by
    have h1 : ∀ (L : List FL) (i : Nat), L[i]? = some x → (L.set i ⟨x.fr, x.tt, x.d, x.zs.set j y⟩).flatMap FL.cells = L.flatMap FL.cells := by
      intro L
      induction L with
      | nil => intro i h; simp at h
      | cons z L ih =>
        intro i h
        cases i with
        | zero =>
          simp at h
          subst h
          simp [FL.cells]
        | succ i =>
          have := ih i (by simpa using h)
          simp [List.flatMap_cons] at this ⊢
          exact this
    exact h1 L i hx
  have hds : (L.set i ⟨x.fr, x.tt, x.d, x.zs.set j y⟩).map FL.d = L.map FL.d := by
    rw [List.map_set]
    apply List.ext_getElem?
    intro q
    by_cases hq : q = i
    · subst hq
      rw [List.getElem?_set_self (by simpa using hi)]
      simp [hx]
    · rw [List.getElem?_set_ne (fun e => hq e.symm)]
  have hpw : (L.set i ⟨x.fr, x.tt, x.d, x.zs.set j y⟩).Pairwise (fun x y => x.d ≠ y.d) := by
    have h2 := hI.pw
    rw [← List.pairwise_map] at h2 ⊢
    rw [hds]
    exact h2
  have hother : ∀ q ∈ L.set i ⟨x.fr, x.tt, x.d, x.zs.set j y⟩, q = ⟨x.fr, x.tt, x.d, x.zs.set j y⟩ ∨ (q ∈ L ∧ q.d ≠ x.d) := by
    intro q hq
    obtain ⟨r, hr⟩ := List.mem_iff_getElem?.1 hq
    by_cases hri : r = i
    · subst hri
      rw [List.getElem?_set_self hi] at hr
      exact .inl (Option.some.inj hr).symm
    · rw [List.getElem?_set_ne (fun e => hri e.symm)] at hr
      refine .inr ⟨List.mem_of_getElem? hr, ?_⟩
      have hrl : r < L.length := by
        rcases Nat.lt_or_ge r L.length with h1 | h1
        · exact h1
        · rw [List.getElem?_eq_none h1] at hr; cases hr
      have e1 : L[r] = q := by rw [List.getElem?_eq_getElem hrl] at hr; exact Option.some.inj hr
      have e2 : L[i] = x := by rw [List.getElem?_eq_getElem hi] at hx; exact Option.some.inj hx
      have hp := List.pairwise_iff_getElem.1 hI.pw
      rcases Nat.lt_or_ge r i with h1 | h1
      · have := hp r i hrl hi h1
        rw [e1, e2] at this
        exact this
      · have := hp i r hi hrl (by omega)
        rw [e1, e2] at this
        exact fun e => this e.symm
  refine ⟨⟨hI.bx.kept (hd b (fun e => hne.1 e.symm)), ?_, ?_, hpw, ?_, by rw [List.length_set]; exact hI.len, ?_, ?_⟩, ?_⟩
  · rw [hcells, List.length_set]
    exact hI.row.kept fun g hg _ => hd g (fun e => hne.2 (by rw [← e]; exact hg))
  · intro q hq
    rcases hother q hq with rfl | ⟨hq, hqd⟩
    · have h := (hI.dat x hmem).set j (.int .u8 y)
      have e : (bys x.zs).setIfInBounds j (.int .u8 y) = bys (x.zs.set j y) := by
        simp [bys, List.map_set]
      rw [e] at h
      exact h
    · exact (hI.dat q hq).kept (hd _ hqd)
  · rintro k (rfl | hk | ⟨q, hq, rfl⟩)
    · exact hI.z _ (.inl rfl)
    · exact hI.z _ (.inr (.inl hk))
    · rcases hother q hq with rfl | ⟨hq, _⟩
      · exact hI.z _ (.inr (.inr ⟨x, hmem, rfl⟩))
      · exact hI.z _ (.inr (.inr ⟨q, hq, rfl⟩))
  · intro q hq
    rcases hother q hq with rfl | ⟨hq, _⟩
    · show (x.zs.set j y).length ≤ _
      rw [List.length_set]
      exact hI.sz x hmem
    · exact hI.sz q hq
  · intro q hq
    rcases hother q hq with rfl | ⟨hq, _⟩
    · intro z hz
      rcases List.mem_or_eq_of_mem_set hz with h1 | h1
      · exact hI.by_ x hmem z h1
      · rw [h1]; exact hy
    · exact hI.by_ q hq
  · exact (But.refl _ w).setCell (p := ⟨x.d, j, none⟩) (fun _ => hI.z _ (.inr (.inr ⟨x, hmem, rfl⟩))) _
/-- can this bit be turned? -/
def canF (A : List FA) (i bit : Int) : Prop := inA i A.length ∧ 0 ≤ bit ∧ ∀ a, A[i.toNat]? = some a → bit / 8 < (a.zs.length : Int)
def FlipQ (w : World) (Z : Nat → Prop) (b : Nat) (m : Int) (A : List FA) (i bit : Int) (e : Ending) (w' : World) : Prop :=
  (¬ canF A i bit → e = .returned (.bool false) ∧ EtA w' Z b m A ∧ Fr Z w w') ∧ (canF A i bit → e = .returned (.bool true) ∧ (∃ a, A[i.toNat]? = some a ∧ EtA w' Z b m (A.set i.toNat (a.flip bit.toNat))) ∧ Fr Z w w')
end Go.Proofs.Ytbeibhmbaofjhaa

namespace Go.Proofs.Ytbeibhmbaofjhaa
open Go.RowKit
set_option maxRecDepth 8000
theorem set3_take (cs : Array Value) (n k : Nat) (hs : cs.size = n * 3) (hk : k < n) (a0 a1 a2 : Value) :
    (((cs.setIfInBounds (k * 3) a0).setIfInBounds (k * 3 + 1) a1).setIfInBounds (k * 3 + 2) a2).toList.take ((k + 1) * 3) = cs.toList.take (k * 3) ++ [a0, a1, a2] := by
  apply List.ext_getElem?
  intro j
  rw [List.getElem?_take]
  by_cases hj : j < k * 3
  · rw [if_pos (by omega), List.getElem?_append_left (by simp; omega), List.getElem?_take, if_pos hj]
    simp only [Array.toList_setIfInBounds]
    rw [List.getElem?_set_ne (by omega), List.getElem?_set_ne (by omega), List.getElem?_set_ne (by omega)]
  · rw [List.getElem?_append_right (by simp; omega)]
    have hl : (cs.toList.take (k * 3)).length = k * 3 := by simp; omega
    rw [hl]
    simp only [Array.toList_setIfInBounds]
    by_cases h0 : j = k * 3
    · subst h0
      rw [if_pos (by omega), List.getElem?_set_ne (by omega), List.getElem?_set_ne (by omega), List.getElem?_set_self (by simp; omega)]
      simp
    · by_cases h1 : j = k * 3 + 1
      · subst h1
        rw [if_pos (by omega), List.getElem?_set_ne (by omega), List.getElem?_set_self (by simp; omega)]
        simp
      · by_cases h2 : j = k * 3 + 2
        · subst h2
          rw [if_pos (by omega), List.getElem?_set_self (by simp; omega)]
          simp
        · rw [if_neg (by omega), List.getElem?_eq_none (by simp; omega)]
/-- flights in memory, as they are answered -/
structure LsI (w : World) (base g : Nat) (U : List FL) : Prop where
  bx : Box w g (U.flatMap FL.cells).toArray 53
  dat : ∀ x ∈ U, Box w x.d (bys x.zs) 5
  new : base ≤ g ∧ ∀ x ∈ U, base ≤ x.d
  pw : U.Pairwise (fun x y => x.d ≠ y.d)
/-- the answer while it is filled -/
structure LsR (w0 wr : World) (n k : Nat) (A : List FA) (U : List FL) (cs : Array Value) : Prop where
  bx : Box wr w0.heap.size cs 53
  sz : cs.size = n * 3
  tk : cs.toList.take (k * 3) = U.flatMap FL.cells
  al : U.map FL.a = A.take k
  dat : ∀ x ∈ U, Box wr x.d (bys x.zs) 5
  new : ∀ x ∈ U, w0.heap.size ≤ x.d
  pw : U.Pairwise (fun x y => x.d ≠ y.d)
  bel : Below w0.heap.size w0 wr
def ListQ (w : World) (A : List FA) (e : Ending) (w' : World) : Prop :=
  ∃ (g : Nat) (U : List FL), e = .returned (.slice (some ⟨g, 0, none⟩) A.length A.length) ∧ U.map FL.a = A ∧ LsI w' w.heap.size g U ∧ Below w.heap.size w w'
set_option maxHeartbeats 4000000 in
/-- List -/
theorem list_any (w : World) (Z : Nat → Prop) (b : Nat) (m : Int) (A : List FA) (hA : EtA w Z b m A) :
    Calls Try.prog 8 #[.pointer (some ⟨b, 0, none⟩)] w fun e w' => ListQ w A e w' := by
  obtain ⟨i0, Kd⟩ := kindFl
  obtain ⟨v, L, hI, hAL⟩ := hA
  obtain ⟨n, hn⟩ : ∃ n, n = L.length := ⟨_, rfl⟩
  have hlen := hI.len
  rw [← hn] at hlen
  obtain ⟨M, hM⟩ : ∃ M, M = madeCells (Value.agg #[.int .i64 0, .int .i64 0, .slice none 0 0]).cells (((n : Nat) : Int).toNat * i0.size) := ⟨_, rfl⟩
  have hMs : M.size = n * 3 := by rw [hM, size_madeCells, Kd.hsize]; simp
  have hmk : ∀ W : World, (Instr.makeSlice 29 (.int .i64 (n : Int)) (.int .i64 (n : Int))).run Try.prog W = .ok (.slice (some ⟨W.heap.size, 0, none⟩) n n) (W.alloc (.cells M 53)) := fun W => by
    have h := run_make (P := Try.prog) W 29 53 i0 _ Kd.ht Kd.hi Kd.hz .i64 .i64 (n : Int) (n : Int) (by omega) (by omega) (by rw [Kd.hby]; omega) (by omega)
    rw [← hM] at h
    simpa using h
  obtain ⟨p0, c0, hv⟩ := hI.row.slice
  rw [← hn] at hv
  have b1 := hI.bx.cell 1
  simp [hv] at b1
  have bl := hI.bx.lt
  have hB0 : Below w.heap.size w (w.alloc (.cells M 53)) := (Below.refl _ _).alloc (Nat.le_refl _) _
  have b1' : (w.alloc (.cells M 53)).cell? ⟨b, 1, none⟩ = some (.slice p0 n c0) := (World.cell?_of_block (a := ⟨b, 1, none⟩) (hB0.block b bl)).trans b1
  have H0 : Hid (LsR w (w.alloc (.cells M 53)) n 0 A [] M) := ⟨Box.new w M 53, hMs, by simp, by simp, fun x hx => (by cases hx), fun x hx => (by cases hx), .nil, hB0⟩
  have hnA : A.length = n := by rw [hn, ← hAL]; simp
  have HI := hid hI
  have HAL := hid hAL
  have HN := hid hn
  have HV := hid hv
  have HNA := hid hnA
  clear hI hAL hn hv hM hMs Kd hB0 hnA
  go_enter Try.func8, Try.ntmps8
  go_wp2_with fail
  go_loopw [17] (fun x wr => ∃ (k : Nat) (U : List FL) (cs : Array Value), k ≤ n ∧ x = .int .i64 (k : Int) ∧ LsR w wr n k A U cs) (fun x _ => n - (intOf x).toNat)
  case atStart => exact ⟨0, [], M, Nat.zero_le _, rfl, H0.out⟩
  case round =>
    obtain ⟨k, U, cs, hk, rfl, hR⟩ := hrel
    have HR := hid hR
    clear hR H0 hmk b1 b1'
    by_cases hlt : k < n
    · have hlt' : (k : Int) < (n : Int) := by omega
      obtain ⟨x, hx⟩ : ∃ x, L[k]? = some x := ⟨_, List.getElem?_eq_getElem (by rw [← HN.out]; exact hlt)⟩
      have hmem : x ∈ L := List.mem_of_getElem? hx
      have hIr := HI.out.below HR.out.bel
      obtain ⟨g, cap, hv, hcap, hgl, c0, c1, c2, _⟩ := hIr.get hx
      have hp0 : p0 = some ⟨g, 0, none⟩ := by
        have h1 := HV.out
        rw [hv] at h1
        cases h1
        rfl
      rw [hp0]
      obtain ⟨V, hV⟩ : ∃ V, V = wr.alloc (.cells #[.int .i64 x.fr, .int .i64 x.tt, .slice (some ⟨x.d, 0, none⟩) x.zs.length x.zs.length] 53) := ⟨_, rfl⟩
      have hBV : Below wr.heap.size wr V := by rw [hV]; exact (Below.refl _ _).alloc (Nat.le_refl _) _
      have hX : Box V wr.heap.size #[.int .i64 x.fr, .int .i64 x.tt, .slice (some ⟨x.d, 0, none⟩) x.zs.length x.zs.length] 53 := by rw [hV]; exact Box.new _ _ _
      have HCp := hid (copied_any x.fr x.tt _ _ x.zs V ((hIr.below hBV).src hmem) (by have := hIr.sz x hmem; omega))
      have y0 := hX.cell 0
      have y1 := hX.cell 1
      have y2 := hX.cell 2
      simp at y0 y1 y2
      have yl := hX.lt
      have HV := hid hV
      have HBV := hid hBV
      have HX := hid hx
      clear hV hBV hX hx hmem hIr hv hp0
      go_upto_region 5 with fail
      rw [← HV.out]
      go_wp2_with fail
      refine HCp.out.mono ?_
      rintro e w2 ⟨d, rfl, hd, hbd, hb2⟩
      have hB2 : Below wr.heap.size wr w2 := HBV.out.trans (hb2.mono HBV.out.size)
      have hbx2 := HR.out.bx.below hB2
      have hsz := HR.out.sz
      have q0 := hbx2.cell (k * 3)
      have q1 := hbx2.cell (k * 3 + 1)
      have q2 := hbx2.cell (k * 3 + 2)
      rw [Array.getElem?_eq_getElem (by omega)] at q0 q1 q2
      obtain ⟨r0, hr0⟩ : ∃ r, r = cs[k * 3]'(by omega) := ⟨_, rfl⟩
      obtain ⟨r1, hr1⟩ : ∃ r, r = cs[k * 3 + 1]'(by omega) := ⟨_, rfl⟩
      obtain ⟨r2, hr2⟩ : ∃ r, r = cs[k * 3 + 2]'(by omega) := ⟨_, rfl⟩
      rw [← hr0] at q0
      rw [← hr1] at q1
      rw [← hr2] at q2
      have f0 := hbx2.frozen (k * 3)
      have f1 := hbx2.frozen (k * 3 + 1)
      have f2 := hbx2.frozen (k * 3 + 2)
      have gl := hbx2.lt
      have HN2 : Hid (LsR w (((w2.setCell ⟨w.heap.size, k * 3, none⟩ (.int .i64 x.fr)).setCell ⟨w.heap.size, k * 3 + 1, none⟩ (.int .i64 x.tt)).setCell ⟨w.heap.size, k * 3 + 2, none⟩ (.slice (some ⟨d, 0, none⟩) x.zs.length x.zs.length)) n (k + 1) A (U ++ [⟨x.fr, x.tt, d, x.zs⟩]) (((cs.setIfInBounds (k * 3) (.int .i64 x.fr)).setIfInBounds (k * 3 + 1) (.int .i64 x.tt)).setIfInBounds (k * 3 + 2) (.slice (some ⟨d, 0, none⟩) x.zs.length x.zs.length))) := by
        have hbt : But (fun q => q = w.heap.size) w2 (((w2.setCell ⟨w.heap.size, k * 3, none⟩ (.int .i64 x.fr)).setCell ⟨w.heap.size, k * 3 + 1, none⟩ (.int .i64 x.tt)).setCell ⟨w.heap.size, k * 3 + 2, none⟩ (.slice (some ⟨d, 0, none⟩) x.zs.length x.zs.length)) := (((But.one w2 w.heap.size).setAt _ _).setAt _ _).setAt _ _
        have hwl : w.heap.size < wr.heap.size := HR.out.bx.lt
        have hVl := HBV.out.size
        refine ⟨((hbx2.set _ _).set _ _).set _ _, by simp [hsz], ?_, ?_, ?_, ?_, ?_, ?_⟩
        · rw [set3_take cs n k hsz hlt, HR.out.tk, List.flatMap_append]
          simp [FL.cells]
        · rw [List.map_append, HR.out.al, List.take_add_one]
          congr 1
          rw [← HAL.out]
          simp [HX.out, FL.a]
        · intro y hy
          rcases List.mem_append.1 hy with hy | hy
          · have h1 := HR.out.dat y hy
            refine (h1.below hB2).but hbt fun e => ?_
            have e' : y.d = w.heap.size := e
            rw [e'] at h1
            have := box_ty h1 HR.out.bx
            cases this
          · obtain rfl : y = ⟨x.fr, x.tt, d, x.zs⟩ := by simpa using hy
            exact hbd.but hbt (show ¬ d = w.heap.size by omega)
        · intro y hy
          rcases List.mem_append.1 hy with hy | hy
          · exact HR.out.new y hy
          · obtain rfl : y = ⟨x.fr, x.tt, d, x.zs⟩ := by simpa using hy
            show w.heap.size ≤ d
            omega
        · rw [List.pairwise_append]
          refine ⟨HR.out.pw, by simp, fun y hy q hq => ?_⟩
          obtain rfl : q = ⟨x.fr, x.tt, d, x.zs⟩ := by simpa using hq
          have := (HR.out.dat y hy).lt
          show y.d ≠ d
          omega
        · exact (HR.out.bel.trans (hB2.mono HR.out.bel.size)).trans (hbt.below (by have := hB2.size; omega) fun q hq e => by have e' : q = w.heap.size := e; omega)
      clear hB2 hbx2 hd hbd hb2 hr0 hr1 hr2 HCp y0 y1 y2 c0 c1 c2
      go_wp2
      go_roundw
      case rel => exact ⟨k + 1, _, _, by omega, by go_num, HN2.out⟩
      case measure => simp [intOf]; omega
    · obtain rfl : k = n := by omega
      go_wp2
      refine bodyPost_ret (v := .slice (some ⟨w.heap.size, 0, none⟩) k k) (by simp [results, Try.results8, go_sem]) rfl ⟨w.heap.size, U, by rw [HNA.out], ?_, ⟨?_, HR.out.dat, ⟨Nat.le_refl _, HR.out.new⟩, HR.out.pw⟩, HR.out.bel⟩
      · rw [HR.out.al, List.take_of_length_le (by rw [HNA.out]; exact Nat.le_refl _)]
      · have h1 := HR.out.tk
        rw [List.take_of_length_le (by simp [HR.out.sz])] at h1
        rw [← h1]
        exact HR.out.bx
end Go.Proofs.Ytbeibhmbaofjhaa
