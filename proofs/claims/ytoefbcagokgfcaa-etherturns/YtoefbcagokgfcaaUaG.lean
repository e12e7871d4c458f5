import Derived.Test.YtoefbcagokgfcaaUaF
namespace Go.Proofs.Ytoefbcagokgfcaa
open Go.RowKit
set_option maxRecDepth 8000
/-- one bit of a byte turned -/
def flipB (z : Int) (k : Nat) : Int := ((z.toNat ^^^ (1 <<< k) : Nat) : Int)
/-- one bit of a packet turned -/
def flipZ (zs : List Int) (bit : Nat) : List Int := zs.set (bit / 8) (flipB (zs.getD (bit / 8) 0) (bit % 8))
def FA.flip (a : FA) (bit : Nat) : FA := ⟨a.fr, a.tt, flipZ a.zs bit⟩
theorem wrap_u8 (n : Int) : IntKind.u8.wrap n = n % 256 := by simp [IntKind.wrap, IntKind.bits, IntKind.signed]
theorem bits_xor_u8_nat (a b : Nat) (ha : a < 256) (hb : b < 256) : bits BinOp.xor IntKind.u8 (a : Int) (b : Int) = ((a ^^^ b : Nat) : Int) := by
  have hx : a ^^^ b < 2 ^ 8 := Nat.xor_lt_two_pow (by omega) (by omega)
  have h1 : (BitVec.ofInt 8 (a : Int)).toNat = a := by
    rw [BitVec.ofInt_natCast, BitVec.toNat_ofNat]; exact Nat.mod_eq_of_lt (by omega)
  have h2 : (BitVec.ofInt 8 (b : Int)).toNat = b := by
    rw [BitVec.ofInt_natCast, BitVec.toNat_ofNat]; exact Nat.mod_eq_of_lt (by omega)
  show IntKind.u8.wrap ((BitVec.ofInt 8 (a : Int) ^^^ BitVec.ofInt 8 (b : Int)).toNat : Int) = _
  rw [BitVec.toNat_xor, h1, h2, wrap_u8]
  omega
theorem flipB_eq {z : Int} {k : Nat} (h : 0 ≤ z ∧ z < 256) (hk : k < 8) : bits BinOp.xor IntKind.u8 z (IntKind.u8.wrap (2 ^ k)) = flipB z k := by
  obtain ⟨n, rfl⟩ : ∃ n : Nat, z = (n : Int) := ⟨z.toNat, by omega⟩
  have h2 : (2 : Nat) ^ k < 2 ^ 8 := Nat.pow_lt_pow_right (by omega) hk
  have hw : IntKind.u8.wrap ((2 : Int) ^ k) = ((2 ^ k : Nat) : Int) := by
    have e : ((2 : Int) ^ k) = ((2 ^ k : Nat) : Int) := by push_cast; rfl
    rw [e, wrap_u8]
    have h3 : (2 : Nat) ^ k < 256 := h2
    generalize (2 : Nat) ^ k = y at h3
    omega
  rw [hw, bits_xor_u8_nat n (2 ^ k) (by omega) h2]
  unfold flipB
  rw [Nat.one_shiftLeft]
  simp
theorem flipB_lt {z : Int} {k : Nat} (h : 0 ≤ z ∧ z < 256) (hk : k < 8) : 0 ≤ flipB z k ∧ flipB z k < 256 := by
  unfold flipB
  refine ⟨Int.natCast_nonneg _, ?_⟩
  have h1 : z.toNat < 2 ^ 8 := by omega
  have h2 : 1 <<< k < 2 ^ 8 := by
    rw [Nat.one_shiftLeft]
    exact Nat.pow_lt_pow_right (by omega) hk
  have := Nat.xor_lt_two_pow h1 h2
  omega
/-- a byte of one packet is another now -/
theorem EtI.turn {w : World} {Z : Nat → Prop} {b : Nat} {m : Int} {v : Value} {L : List FL} (hI : EtI w Z b m v L) {i : Nat} {x : FL} (hx : L[i]? = some x) {j : Nat} {y : Int} (hy : 0 ≤ y ∧ y < 256) :
    EtI (w.setCell ⟨x.d, j, none⟩ (.int .u8 y)) Z b m v (L.set i ⟨x.fr, x.tt, x.d, x.zs.set j y⟩) ∧ Fr Z w (w.setCell ⟨x.d, j, none⟩ (.int .u8 y)) := by
  have hmem : x ∈ L := List.mem_of_getElem? hx
  have hi : i < L.length := by
    rcases Nat.lt_or_ge i L.length with h1 | h1
    · exact h1
    · rw [List.getElem?_eq_none h1] at hx; cases hx
  have hne := hI.ne_dat hmem
  have hd : ∀ k, k ≠ x.d → (w.setCell ⟨x.d, j, none⟩ (.int .u8 y)).heap[k]? = w.heap[k]? := fun k hk => Below.heap_setCell _ _ _ _ (by simpa using hk)
  have hcells : (L.set i ⟨x.fr, x.tt, x.d, x.zs.set j y⟩).flatMap FL.cells = L.flatMap FL.cells := by
    have h1 : ∀ (L : List FL) (i : Nat), L[i]? = some x → (L.set i ⟨x.fr, x.tt, x.d, x.zs.set j y⟩).flatMap FL.cells = L.flatMap FL.cells := by
      intro L
      induction L with
      | nil => intro i h; simp at h
      | cons z L ih =>
        intro i h
        cases i with
        | zero =>
          simp at h
          subst h
          simp [FL.cells]
        | succ i =>
          have := ih i (by simpa using h)
          simp [List.flatMap_cons] at this ⊢
          exact this
    exact h1 L i hx
  have hds : (L.set i ⟨x.fr, x.tt, x.d, x.zs.set j y⟩).map FL.d = L.map FL.d := by
    rw [List.map_set]
    apply List.ext_getElem?
    intro q
    by_cases hq : q = i
    · subst hq
      rw [List.getElem?_set_self (by simpa using hi)]
      simp [hx]
    · rw [List.getElem?_set_ne (fun e => hq e.symm)]
  have hpw : (L.set i ⟨x.fr, x.tt, x.d, x.zs.set j y⟩).Pairwise (fun x y => x.d ≠ y.d) := by
    have h2 := hI.pw
    rw [← List.pairwise_map] at h2 ⊢
    rw [hds]
    exact h2
  have hother : ∀ q ∈ L.set i ⟨x.fr, x.tt, x.d, x.zs.set j y⟩, q = ⟨x.fr, x.tt, x.d, x.zs.set j y⟩ ∨ (q ∈ L ∧ q.d ≠ x.d) := by
    intro q hq
    obtain ⟨r, hr⟩ := List.mem_iff_getElem?.1 hq
    by_cases hri : r = i
    · subst hri
      rw [List.getElem?_set_self hi] at hr
      exact .inl (Option.some.inj hr).symm
    · rw [List.getElem?_set_ne (fun e => hri e.symm)] at hr
      refine .inr ⟨List.mem_of_getElem? hr, ?_⟩
      have hrl : r < L.length := by
        rcases Nat.lt_or_ge r L.length with h1 | h1
        · exact h1
        · rw [List.getElem?_eq_none h1] at hr; cases hr
      have e1 : L[r] = q := by rw [List.getElem?_eq_getElem hrl] at hr; exact Option.some.inj hr
      have e2 : L[i] = x := by rw [List.getElem?_eq_getElem hi] at hx; exact Option.some.inj hx
      have hp := List.pairwise_iff_getElem.1 hI.pw
      rcases Nat.lt_or_ge r i with h1 | h1
      · have := hp r i hrl hi h1
        rw [e1, e2] at this
        exact this
      · have := hp i r hi hrl (by omega)
        rw [e1, e2] at this
        exact fun e => this e.symm
  refine ⟨⟨hI.bx.kept (hd b (fun e => hne.1 e.symm)), ?_, ?_, hpw, ?_, by rw [List.length_set]; exact hI.len, ?_, ?_⟩, ?_⟩
  · rw [hcells, List.length_set]
    exact hI.row.kept fun g hg _ => hd g (fun e => hne.2 (by rw [← e]; exact hg))
  · intro q hq
    rcases hother q hq with rfl | ⟨hq, hqd⟩
    · have h := (hI.dat x hmem).set j (.int .u8 y)
      have e : (bys x.zs).setIfInBounds j (.int .u8 y) = bys (x.zs.set j y) := by
        simp [bys, List.map_set]
      rw [e] at h
      exact h
    · exact (hI.dat q hq).kept (hd _ hqd)
  · rintro k (rfl | hk | ⟨q, hq, rfl⟩)
    · exact hI.z _ (.inl rfl)
    · exact hI.z _ (.inr (.inl hk))
    · rcases hother q hq with rfl | ⟨hq, _⟩
      · exact hI.z _ (.inr (.inr ⟨x, hmem, rfl⟩))
      · exact hI.z _ (.inr (.inr ⟨q, hq, rfl⟩))
  · intro q hq
    rcases hother q hq with rfl | ⟨hq, _⟩
    · show (x.zs.set j y).length ≤ _
      rw [List.length_set]
      exact hI.sz x hmem
    · exact hI.sz q hq
  · intro q hq
    rcases hother q hq with rfl | ⟨hq, _⟩
    · intro z hz
      rcases List.mem_or_eq_of_mem_set hz with h1 | h1
      · exact hI.by_ x hmem z h1
      · rw [h1]; exact hy
    · exact hI.by_ q hq
  · exact (But.refl _ w).setCell (p := ⟨x.d, j, none⟩) (fun _ => hI.z _ (.inr (.inr ⟨x, hmem, rfl⟩))) _
/-- can this bit be turned? -/
def canF (A : List FA) (i bit : Int) : Prop := inA i A.length ∧ 0 ≤ bit ∧ ∀ a, A[i.toNat]? = some a → bit / 8 < (a.zs.length : Int)
def FlipQ (w : World) (Z : Nat → Prop) (b : Nat) (m : Int) (A : List FA) (i bit : Int) (e : Ending) (w' : World) : Prop :=
  (¬ canF A i bit → e = .returned (.bool false) ∧ EtA w' Z b m A ∧ Fr Z w w') ∧ (canF A i bit → e = .returned (.bool true) ∧ (∃ a, A[i.toNat]? = some a ∧ EtA w' Z b m (A.set i.toNat (a.flip bit.toNat))) ∧ Fr Z w w')
set_option maxHeartbeats 4000000 in
/-- Flip -/
theorem flip_any (w : World) (Z : Nat → Prop) (b : Nat) (m : Int) (A : List FA) (hA : EtA w Z b m A) (i bit : Int) (hb : bit ≤ 9223372036854775807) :
    Calls Try.prog 19 #[.pointer (some ⟨b, 0, none⟩), .int .i64 i, .int .i64 bit] w fun e w' => FlipQ w Z b m A i bit e w' := by
  have HEA := hid hA
  obtain ⟨v, L, hI, hAL⟩ := hA
  have hln : L.length = A.length := by rw [← hAL]; simp
  have HH := hid (has_any w Z b m v L hI i)
  rw [hln] at HH
  by_cases h1 : 0 ≤ i ∧ i < (A.length : Int)
  case neg =>
    rw [decide_eq_false h1] at HH
    have HP := hid h1
    clear h1 hI hAL hln hb
    go_enter Try.func19, Try.ntmps19
    go_wp2_with fail
    refine HH.out.mono ?_
    rintro e w1 ⟨rfl, hw⟩
    subst w1
    go_wp2
    exact bodyPost_ret (v := .bool false) (by simp [results, Try.results19, go_sem]) rfl ⟨fun _ => ⟨rfl, HEA.out, Fr.refl _ _⟩, fun h => absurd h.1 HP.out⟩
  case pos =>
    rw [decide_eq_true h1] at HH
    obtain ⟨j, hj⟩ : ∃ j : Nat, i = (j : Int) := ⟨i.toNat, by omega⟩
    subst hj
    have hjl : j < L.length := by omega
    obtain ⟨x, hx⟩ : ∃ x, L[j]? = some x := ⟨_, List.getElem?_eq_getElem hjl⟩
    have hmem : x ∈ L := List.mem_of_getElem? hx
    have hAx : A[(j : Int).toNat]? = some x.a := by rw [← hAL]; simp [hx]
    have HIn : Hid (inA (j : Int) A.length) := h1
    have HAx := hid hAx
    obtain ⟨g, cap, hv, hcap, hgl, c0, c1, c2, _⟩ := hI.get hx
    have b1 := hI.bx.cell 1
    simp [hv] at b1
    have bl := hI.bx.lt
    have hj1 : (j : Int) < (L.length : Int) := by omega
    by_cases h2 : bit < 0
    case pos =>
      have HP : Hid (¬ canF A (j : Int) bit) := fun h => by have := h.2.1; omega
      clear h1 hI hAL hln hx hmem hAx hv hb
      go_enter Try.func19, Try.ntmps19
      go_wp2_with fail
      refine HH.out.mono ?_
      rintro e w1 ⟨rfl, hw⟩
      subst w1
      go_wp2
      exact bodyPost_ret (v := .bool false) (by simp [results, Try.results19, go_sem]) rfl ⟨fun _ => ⟨rfl, HEA.out, Fr.refl _ _⟩, fun h => absurd h HP.out⟩
    case neg =>
      obtain ⟨t, ht⟩ : ∃ t : Nat, bit = (t : Int) := ⟨bit.toNat, by omega⟩
      subst ht
      obtain ⟨q, hq⟩ : ∃ q : Nat, q = t / 8 := ⟨_, rfl⟩
      obtain ⟨r, hr⟩ : ∃ r : Nat, r = t % 8 := ⟨_, rfl⟩
      have hqi : (t : Int) / 8 = (q : Int) := by omega
      have hri : (t : Int) % 8 = (r : Int) := by omega
      have hwq : (q : Int) ≤ 9223372036854775807 := by omega
      have hqi' : (t : Int).tdiv 8 = (q : Int) := by rw [Int.tdiv_eq_ediv_of_nonneg (by omega)]; exact hqi
      have hri' : (t : Int).tmod 8 = (r : Int) := by rw [Int.tmod_eq_emod_of_nonneg (by omega)]; exact hri
      have ht0 : ¬ (t : Int) < 0 := by omega
      have hr8 : r < 8 := by omega
      have HQf := hid (And.intro hqi (And.intro hri (And.intro hwq (And.intro hqi' hri'))))
      clear hqi hri hwq hqi' hri'
      have HWq : Hid (IntKind.i64.wrap (q : Int) = (q : Int)) := by show _ = _; rw [IntKind.wrap_i64]; omega
      have HQ := hid hq
      have HR := hid hr
      clear hq hr
      by_cases h3 : q < x.zs.length
      case neg =>
        have HP : Hid (¬ canF A (j : Int) (t : Int)) := fun h => by
          have := h.2.2 _ HAx.out
          have e : x.a.zs.length = x.zs.length := rfl
          rw [e] at this
          have := HQ.out
          omega
        have h3' : (x.zs.length : Int) ≤ ((q : Nat) : Int) := by omega
        clear h1 hI hAL hln hx hmem hAx hv hb
        obtain ⟨hqi, hri, hwq, hqi', hri'⟩ := HQf.out
        go_enter Try.func19, Try.ntmps19
        go_wp2_with fail
        refine HH.out.mono ?_
        rintro e w1 ⟨rfl, hw⟩
        subst w1
        go_wp2
        exact bodyPost_ret (v := .bool false) (by simp [results, Try.results19, go_sem]) rfl ⟨fun _ => ⟨rfl, HEA.out, Fr.refl _ _⟩, fun h => absurd h HP.out⟩
      case pos =>
        have HP : Hid (canF A (j : Int) (t : Int)) := ⟨HIn.out, by omega, fun a ha => by
          rw [HAx.out] at ha
          cases ha
          show _ < (x.zs.length : Int)
          have := HQ.out
          omega⟩
        have h3' : ¬ (x.zs.length : Int) ≤ ((q : Nat) : Int) := by omega
        have HI := hid hI
        have HX := hid hx
        have HAL := hid hAL
        obtain ⟨z, hz⟩ : ∃ z, x.zs[q]? = some z := ⟨_, List.getElem?_eq_getElem h3⟩
        have z0 : w.cell? ⟨x.d, q, none⟩ = some (.int .u8 z) := by rw [(hI.dat x hmem).cell]; simp [bys, hz]
        have zf := (hI.dat x hmem).frozen (q)
        have zl := (hI.dat x hmem).lt
        have hzb := hI.by_ x hmem z (List.mem_of_getElem? hz)
        have HZz := hid hz
        clear h1 hI hAL hln hx hmem hAx hv hb hz
        obtain ⟨hqi, hri, hwq, hqi', hri'⟩ := HQf.out
        go_enter Try.func19, Try.ntmps19
        go_wp2_with fail
        refine HH.out.mono ?_
        rintro e w1 ⟨rfl, hw⟩
        subst w1
        go_upto_region 3 with fail
        refine wp_region_calmE 30 (fun wx => Below w.heap.size w wx) [(0, true), (1, true), (2, true), (3, false), (4, true), (5, true), (6, true), (7, false), (8, true), (9, true), (10, true), (11, false), (12, true), (13, true), (14, true), (15, true), (16, true)] (.one 17 false [] .done) (by kernel_rfl) (by kernel_rfl) (Below.refl _ _).drew ?_
        refine wpPre_e rfl rfl (fun K1 hK1 => ?_)
        apply Exists.intro
        refine And.intro (fun wx hx => ?_) ?_
        · go_simp
          try rfl
        go_simp
        refine hK1 _ ?_
        clear hK1 K1
        refine wpPre_e rfl rfl (fun K1 hK1 => ?_)
        apply Exists.intro
        refine And.intro (fun wx hx => ?_) ?_
        · go_simp
          try rfl
        go_simp
        refine hK1 _ ?_
        clear hK1 K1
        refine wpPre_e rfl rfl (fun K1 hK1 => ?_)
        apply Exists.intro
        refine And.intro (fun wx hx => ?_) ?_
        · go_simp
          try rfl
        go_simp
        refine hK1 _ ?_
        clear hK1 K1
        refine wpPre_e rfl rfl (fun K1 hK1 => ?_)
        apply Exists.intro
        refine And.intro (fun wx hx => ?_) ?_
        · have e0 := below_fact hx rfl b1
          have e1 := below_fact hx rfl c2
          have e2 := below_fact hx rfl z0
          go_simp
          try rfl
        go_simp
        refine hK1 _ ?_
        clear hK1 K1
        refine wpPre_e rfl rfl (fun K1 hK1 => ?_)
        apply Exists.intro
        refine And.intro (fun wx hx => ?_) ?_
        · go_simp
          try rfl
        go_simp
        refine hK1 _ ?_
        clear hK1 K1
        refine wpPre_e rfl rfl (fun K1 hK1 => ?_)
        apply Exists.intro
        refine And.intro (fun wx hx => ?_) ?_
        · go_simp
          try rfl
        go_simp
        refine hK1 _ ?_
        clear hK1 K1
        refine wpPre_e rfl rfl (fun K1 hK1 => ?_)
        apply Exists.intro
        refine And.intro (fun wx hx => ?_) ?_
        · go_simp
          try rfl
        go_simp
        refine hK1 _ ?_
        clear hK1 K1
        refine wpPre_e rfl rfl (fun K1 hK1 => ?_)
        apply Exists.intro
        refine And.intro (fun wx hx => ?_) ?_
        · have e0 := below_fact hx rfl b1
          have e1 := below_fact hx rfl c2
          have e2 := below_fact hx rfl z0
          go_simp
          try rfl
        go_simp
        refine hK1 _ ?_
        clear hK1 K1
        refine wpPre_e rfl rfl (fun K1 hK1 => ?_)
        apply Exists.intro
        refine And.intro (fun wx hx => ?_) ?_
        · go_simp
          try rfl
        go_simp
        refine hK1 _ ?_
        clear hK1 K1
        refine wpPre_e rfl rfl (fun K1 hK1 => ?_)
        apply Exists.intro
        refine And.intro (fun wx hx => ?_) ?_
        · go_simp
          try rfl
        go_simp
        refine hK1 _ ?_
        clear hK1 K1
        rw [HWq.out]
        refine wpPre_e rfl rfl (fun K1 hK1 => ?_)
        apply Exists.intro
        refine And.intro (fun wx hx => ?_) ?_
        · go_simp
          try rfl
        go_simp
        refine hK1 _ ?_
        clear hK1 K1
        refine wpPre_e rfl rfl (fun K1 hK1 => ?_)
        apply Exists.intro
        refine And.intro (fun wx hx => ?_) ?_
        · have e0 := below_fact hx rfl b1
          have e1 := below_fact hx rfl c2
          have e2 := below_fact hx rfl z0
          go_simp
          try rfl
        go_simp
        refine hK1 _ ?_
        clear hK1 K1
        refine wpPre_e rfl rfl (fun K1 hK1 => ?_)
        apply Exists.intro
        refine And.intro (fun wx hx => ?_) ?_
        · go_simp
          try rfl
        go_simp
        refine hK1 _ ?_
        clear hK1 K1
        refine wpPre_e rfl rfl (fun K1 hK1 => ?_)
        apply Exists.intro
        refine And.intro (fun wx hx => ?_) ?_
        · go_simp
          try rfl
        go_simp
        refine hK1 _ ?_
        clear hK1 K1
        refine wpPre_e rfl rfl (fun K1 hK1 => ?_)
        apply Exists.intro
        refine And.intro (fun wx hx => ?_) ?_
        · go_simp
          try rfl
        go_simp
        refine hK1 _ ?_
        clear hK1 K1
        refine wpPre_e rfl rfl (fun K1 hK1 => ?_)
        apply Exists.intro
        refine And.intro (fun wx hx => ?_) ?_
        · go_simp
          try rfl
        go_simp
        refine hK1 _ ?_
        clear hK1 K1
        refine wpPre_e rfl rfl (fun K1 hK1 => ?_)
        apply Exists.intro
        refine And.intro (fun wx hx => ?_) ?_
        · go_simp
          try rfl
        go_simp
        refine hK1 _ ?_
        clear hK1 K1
        refine wpPre_nil ?_
        refine wpTr_e rfl (fun K1 hK1 => ?_)
        go_simp
        refine hK1 _ _ (fun h => by cases h) ?_
        clear hK1 K1
        refine wpPre_nil ?_
        refine wpTr_done ?_
        go_wp2
        have HT := HI.out.turn HX.out (j := q) (y := flipB z r) (flipB_lt hzb hr8)
        rw [flipB_eq hzb hr8]
        refine bodyPost_ret (v := .bool true) (by simp [results, Try.results19, go_sem]) rfl ⟨fun h => absurd HP.out h, fun _ => ⟨rfl, ⟨x.a, HAx.out, ?_⟩, But.drew HT.2⟩⟩
        refine ⟨_, _, HT.1.kept (fun _ _ => rfl) HT.1.z, ?_⟩
        rw [List.map_set, HAL.out]
        show A.set j _ = A.set (j : Int).toNat _
        congr 1
        show (⟨x.fr, x.tt, x.zs.set q (flipB z r)⟩ : FA) = ⟨x.fr, x.tt, flipZ x.zs t⟩
        congr 1
        unfold flipZ
        rw [← HQ.out, ← HR.out, List.getD_eq_getElem?_getD, HZz.out]
        rfl
end Go.Proofs.Ytoefbcagokgfcaa
