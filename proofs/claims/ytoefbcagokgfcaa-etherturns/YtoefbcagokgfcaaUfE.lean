import Derived.Test.YtoefbcagokgfcaaUfC
import Derived.Test.YtoefbcagokgfcaaRgQ
namespace Go.Proofs.Ytoefbcagokgfcaa
open Go.RowKit
set_option maxRecDepth 8000
open Go.BigFrame
theorem FlsR.item {w : World} {g : Nat} {A : List FA} (h : FlsR w (some ⟨g, 0, none⟩) A) {j : Nat} {x : FA} (hx : A[j]? = some x) : g < w.heap.size ∧ ∃ q c, w.cell? ⟨g, j * 3, none⟩ = some (.int .i64 x.fr) ∧ w.cell? ⟨g, j * 3 + 1, none⟩ = some (.int .i64 x.tt) ∧ w.cell? ⟨g, j * 3 + 2, none⟩ = some (.slice q x.zs.length c) ∧ Src w q x.zs.length c 1 (x.zs.map (.int .u8)) := by
  have hn : 0 < A.length := by
    rcases Nat.lt_or_ge j A.length with h1 | h1
    · omega
    · rw [List.getElem?_eq_none h1] at hx; cases hx
  obtain ⟨b, o, hp, hb, hat⟩ := h.at_ hn
  cases hp
  obtain ⟨q, c, h0, h1, h2, h3⟩ := hat j x hx
  simp only [Nat.zero_add] at h0 h1 h2
  exact ⟨hb, q, c, h0, h1, h2, h3⟩
theorem set_same {α : Type} {l : List α} {k : Nat} {x : α} (h : l[k]? = some x) : l.set k x = l := by
  apply List.ext_getElem?
  intro j
  by_cases hj : j = k
  · subst hj
    rw [h, List.getElem?_set_self]
    rcases Nat.lt_or_ge j l.length with h1 | h1
    · exact h1
    · rw [List.getElem?_eq_none h1] at h; cases h
  · rw [List.getElem?_set_ne (fun e => hj e.symm)]
theorem flipZ_by {zs : List Int} {bit : Nat} (h : ∀ z ∈ zs, 0 ≤ z ∧ z < 256) : ∀ z ∈ flipZ zs bit, 0 ≤ z ∧ z < 256 := by
  intro z hz
  by_cases hq : bit / 8 < zs.length
  · rcases List.mem_or_eq_of_mem_set hz with h1 | h1
    · exact h z h1
    · rw [h1]
      refine flipB_lt ?_ (Nat.mod_lt _ (by omega))
      rw [List.getD_eq_getElem?_getD, List.getElem?_eq_getElem hq]
      exact h _ (List.getElem_mem hq)
  · have e : flipZ zs bit = zs := List.set_eq_of_length_le (by omega)
    rw [e] at hz
    exact h z hz
theorem pow_small {r : Nat} (h : r < 8) : 0 ≤ (2 : Int) ^ r ∧ (2 : Int) ^ r < 256 := by
  have h2 : (2 : Nat) ^ r < 2 ^ 8 := Nat.pow_lt_pow_right (by omega) h
  have e : ((2 : Int) ^ r) = ((2 ^ r : Nat) : Int) := by push_cast; rfl
  rw [e]
  generalize (2 : Nat) ^ r = y at h2
  omega
theorem flipB_xor {y : Int} {r : Nat} (h : 0 ≤ y ∧ y < 256) (hr : r < 8) : bits BinOp.xor IntKind.u8 (flipB y r) y = 2 ^ r := by
  obtain ⟨n, rfl⟩ : ∃ n : Nat, y = (n : Int) := ⟨y.toNat, by omega⟩
  have h2 : 1 <<< r < 2 ^ 8 := by
    rw [Nat.one_shiftLeft]
    exact Nat.pow_lt_pow_right (by omega) hr
  unfold flipB
  rw [Int.toNat_natCast, bits_xor_u8_nat _ _ (Nat.xor_lt_two_pow (n := 8) (by omega) h2) (by omega), Nat.xor_comm, ← Nat.xor_assoc, Nat.xor_self, Nat.zero_xor, Nat.one_shiftLeft]
  push_cast
  rfl
set_option maxHeartbeats 32000000 in
theorem turns_in (data : LT BY) (k : Nat) (bit : Int) (W : World) (hD : LT.In elBy W (fun b => b < W.heap.size) data) (hbit : bit ≤ 9223372036854775807) (D : List FA) (hDe : D = mdA data (min data.n 40)) (hDl : D.length ≤ 40) (x : FA) (hx : D[k]? = some x) (hin : k < D.length) :
    Calls Try.prog 6 #[.slice data.p data.n data.c, .int .i64 (k : Int), .int .i64 bit] W fun e w' => e = .returned (.bool true) ∧ Below W.heap.size W w' := by
  have HWk := hid (works_any W)
  have HDe := hid hDe
  have HD0 := hid hD
  clear hD hDe
  go_enter Try.func6, Try.ntmps6
  go_wp2_with fail
  refine HWk.out.mono ?_
  rintro e w1 ⟨rfl, hb1⟩
  have HM1 := hid (made_any data w1 _ (HD0.out.below hb1))
  have HB1 := hid hb1
  clear hb1 HWk
  go_wp2_with fail
  refine HM1.out.mono ?_
  rintro e w2 ⟨a, rfl, hEa⟩
  have HM2 := hid (made_any data w2 _ (HD0.out.below (HB1.out.trans (hEa.bel.mono HB1.out.size))))
  have HEa := hid hEa
  clear hEa HM1
  go_wp2_with fail
  refine HM2.out.mono ?_
  rintro e w3 ⟨b, rfl, hEb⟩
  obtain ⟨K0, HS0⟩ : ∃ K0, Hid (St W w3 K0 a b D D) := ⟨_, by
    show St _ _ _ _ _ _ _
    rw [HDe.out]
    exact st_start HB1.out HEa.out hEb⟩
  clear HEa hEb HM2 HD0 HB1 HDe
  have HL0 := hid (st_list HS0.out)
  go_wp2_with fail
  refine HL0.out.mono ?_
  rintro e w4 ⟨g, K, rfl, _, hF, hS, _⟩
  obtain ⟨n, hn⟩ : ∃ n, n = D.length := ⟨_, rfl⟩
  have HF0 := hid hF
  have HS1 := hid hS
  rw [← hn] at hDl hin ⊢
  have HNn := hid hn
  clear hF hS hn HL0 HS0
  have HX := hid hx
  have hxk : x.Ok := HS1.out.tw.ok x (List.mem_of_getElem? hx)
  obtain ⟨N, hN⟩ : ∃ N, N = x.zs.length := ⟨_, rfl⟩
  have hN2 : N ≤ 32776 := by rw [hN]; exact hxk.len
  obtain ⟨cf, hcf⟩ : ∃ cf, cf = flB x bit := ⟨_, rfl⟩
  obtain ⟨A1, hA1⟩ : ∃ A1, A1 = flA D k x bit := ⟨_, rfl⟩
  have HFl := hid (st_flip HS1.out k bit hbit hx)
  rw [← hcf, ← hA1] at HFl
  have HA1l : Hid (A1.length = n) := by show _ = _; rw [hA1, flA_len, HNn.out]
  have HOk := hid hxk
  have HNN := hid hN
  have HCf := hid hcf
  have HA1 := hid hA1
  have hkn : (k : Int) < (n : Int) := by omega
  have hn41 : (n : Int) ≤ 40 := by omega
  clear hx hxk hN hcf hA1
  go_wp2_with fail
  refine HFl.out.mono ?_
  rintro e w5 ⟨rfl, hS5, hf5⟩
  have HF5 := hid (HF0.out.fr hf5)
  have HL5 := hid (st_list hS5)
  rw [HA1l.out] at HL5
  clear hS5 hf5 HFl HF0 HS1
  go_wp2_with fail
  refine HL5.out.mono ?_
  rintro e w6 ⟨g6, K6, rfl, hk6, hF6, hS6, hf6⟩
  have HF6 := hid ((HF5.out.fr hf6).mono hk6)
  have HN6 := hid hF6
  have HS6 := hid hS6
  clear hF6 hS6 hf6 hk6 HL5 HF5
  go_upto_region 11 with fail
  go_cut [76] (fun sx wx => sx = .bool false ∧ wx = w6)
  case first =>
    as_aux_lemma =>
    by_cases hb0 : bit < 0
    · have hcf : cf = false := by rw [HCf.out]; exact decide_eq_false (by omega)
      subst hcf
      have hb0d : (decide (0 ≤ bit)) = false := decide_eq_false (by omega)
      have hb0' : ¬ 0 ≤ bit := by omega
      go_wp2_with fail
      go_meet
      exact ⟨rfl, rfl⟩
    · obtain ⟨q, hq⟩ : ∃ q : Nat, q = bit.toNat / 8 := ⟨_, rfl⟩
      have hqi : bit / 8 = (q : Int) := by omega
      have hqi' : bit.tdiv 8 = (q : Int) := by rw [Int.tdiv_eq_ediv_of_nonneg (by omega)]; exact hqi
      have hb0' : 0 ≤ bit := by omega
      have hb0d : (decide (0 ≤ bit)) = true := decide_eq_true hb0'
      have hwq : (q : Int) ≤ 9223372036854775807 := by omega
      have HQ := hid hq
      obtain ⟨hgl, q1, c1, x0, x1, x2, _⟩ := HF6.out.now.item HX.out
      rw [← HNN.out] at x2
      have HMd := hid (mod_any (k : Int) (n : Int) w6 (by omega) (by omega))
      rw [modE_id (by omega) hkn] at HMd
      clear hq
      by_cases hqN : q < N
      · have hcf : cf = true := by rw [HCf.out]; exact decide_eq_true ⟨hb0', by rw [← HNN.out]; omega⟩
        subst hcf
        have hqd : (q : Int) < (N : Int) := by omega
        go_wp2_with fail
        refine HMd.out.mono ?_
        rintro e w7 ⟨rfl, hw⟩
        subst w7
        go_wp2_with fail
        go_meet
        exact ⟨rfl, rfl⟩
      · have hcf : cf = false := by rw [HCf.out]; exact decide_eq_false (fun h => by have := h.2; rw [← HNN.out] at this; omega)
        subst hcf
        have hqd : ¬ (q : Int) < (N : Int) := by omega
        go_wp2_with fail
        refine HMd.out.mono ?_
        rintro e w7 ⟨rfl, hw⟩
        subst w7
        go_wp2_with fail
        go_meet
        exact ⟨rfl, rfl⟩
  case rest =>
    obtain ⟨rfl, hcw⟩ := hcut
    rw [hcw]
    clear hcw
    go_upto_if 77 with fail
    go_cut [12] (fun sx wx => ∃ (g' : Nat) (K' : Nat → Prop), sx = .slice (some ⟨g', 0, none⟩) n n ∧ FlsK wx K' (some ⟨g', 0, none⟩) D ∧ FlsK wx K' (some ⟨g, 0, none⟩) D ∧ St W wx K' a b D D)
    case first =>
      as_aux_lemma =>
      cases cf with
      | false =>
        have hA1 : A1 = D := by rw [HA1.out, flA, ← HCf.out]; rfl
        subst hA1
        go_wp2_with fail
        go_meet
        exact ⟨g6, K6, rfl, HN6.out, HF6.out, HS6.out⟩
      | true =>
        have hcf := HCf.out
        obtain ⟨hb0, hqN⟩ := of_decide_eq_true hcf.symm
        obtain ⟨bt, rfl⟩ : ∃ bt : Nat, bit = (bt : Int) := ⟨bit.toNat, by omega⟩
        obtain ⟨X, hX⟩ : ∃ X, X = x.flip bt := ⟨_, rfl⟩
        have hXl : X.zs.length = N := by rw [hX, HNN.out]; exact flipZ_len _ _
        have hA1 : A1 = D.set k X := by rw [HA1.out, flA, ← hcf, hX]; rfl
        have hAX : A1[k]? = some X := by rw [hA1, List.getElem?_set_self (by rw [← HNn.out]; omega)]
        obtain ⟨q, hq⟩ : ∃ q : Nat, q = bt / 8 := ⟨_, rfl⟩
        obtain ⟨r, hr⟩ : ∃ r : Nat, r = bt % 8 := ⟨_, rfl⟩
        have hqn : q < x.zs.length := by omega
        have hd1 : dist X.zs x.zs = 1 := by rw [hX]; exact dist_flip1 (by omega)
        have hXok : X.Ok := by rw [hX]; exact ⟨by show (flipZ x.zs bt).length ≤ _; rw [flipZ_len]; exact HOk.out.len, flipZ_by HOk.out.by_⟩
        have hback : A1.set k (X.flip bt) = D := by
          rw [hA1, List.set_set, hX]
          have e : (x.flip bt).flip bt = x := by
            show FA.mk x.fr x.tt (flipZ (flipZ x.zs bt) bt) = x
            rw [flipZ_flipZ (by omega) HOk.out.by_]
          rw [e]
          exact set_same HX.out
        obtain ⟨y, hy⟩ : ∃ y, x.zs[q]? = some y := ⟨_, List.getElem?_eq_getElem hqn⟩
        have hyb := HOk.out.by_ y (List.mem_of_getElem? hy)
        have hXq : X.zs[q]? = some (flipB y r) := by
          rw [hX]
          show (x.zs.set (bt / 8) (flipB (x.zs.getD (bt / 8) 0) (bt % 8)))[q]? = _
          rw [← hq, ← hr, List.getElem?_set_self hqn, List.getD_eq_getElem?_getD, hy]
          rfl
        have HHx := hid (And.intro hAX (And.intro hy hXq))
        have HBk := hid hback
        have HXl := hid hXl
        have HXf := hid hX
        have hr8 : r < 8 := by omega
        have hqi : (bt : Int) / 8 = (q : Int) := by omega
        have hri : (bt : Int) % 8 = (r : Int) := by omega
        have hqi' : (bt : Int).tdiv 8 = (q : Int) := by rw [Int.tdiv_eq_ediv_of_nonneg (by omega)]; exact hqi
        have hri' : (bt : Int).tmod 8 = (r : Int) := by rw [Int.tmod_eq_emod_of_nonneg (by omega)]; exact hri
        have hqN' : (q : Int) < (N : Int) := by rw [HNN.out]; omega
        have HQf := hid (And.intro hqi (And.intro hri (And.intro hqi' hri')))
        obtain ⟨hgl6, q1, c1, _, _, x2, xs⟩ := HN6.out.now.item hAX
        obtain ⟨hgl, q2, c2, _, _, y2, ys⟩ := HF6.out.now.item HX.out
        have HBt : Hid (∀ u : BW w6, Calls Try.prog 20 #[.slice q1 N c1, .slice q2 N c2] u.val fun e w' => e = .returned (.int .i64 1) ∧ ∃ u' : BW w6, w' = u'.val) := by
          intro u
          have h := bits_any u.val X.zs x.zs q1 q2 c1 c2 (xs.below u.prop) (ys.below u.prop) hXok.by_ HOk.out.by_ (by omega)
          rw [hXl, ← HNN.out] at h
          refine h.mono ?_
          rintro e w' ⟨v, he, hv, _, hb⟩
          rw [hv rfl, hd1] at he
          exact ⟨he, u.ret hb⟩
        rw [hXl] at x2
        rw [← HNN.out] at y2
        clear hcf hqN hX hXl hA1 hAX hq hr hqn hd1 hXok hback hy hXq hqi hri hqi' hri' xs ys hb0
        go_upto_region 14 with fail
        have E0 := fun u : BW w6 => u.fact x2 hgl6
        have E1 := fun u : BW w6 => u.fact y2 hgl
        refine wp_region_bw w6 (Below.refl _ _).drew (by kernel_rfl) (by kernel_rfl) ?_
        repeat (go_big_quiet_step (fail))
        go_big_quiet_step (exact HBt.out _)
        repeat (go_big_quiet_step (fail))
        refine wpQuiet_nil ?_
        rintro w7 ⟨u0, hw0⟩
        have hb7 : Below w6.heap.size w6 w7 := by rw [hw0]; exact u0.prop
        clear hw0 u0
        clear E0 E1
        have HF7 := hid (HF6.out.below hb7)
        have HN7 := hid (HN6.out.below hb7)
        have HS7 := hid (HS6.out.below hb7)
        clear hb7
        obtain ⟨hgl6, q1, c1, _, _, x2, xs⟩ := HN7.out.now.item HHx.out.1
        obtain ⟨hgl, q2, c2, _, _, y2, ys⟩ := HF7.out.now.item HX.out
        rw [HXl.out] at x2
        rw [← HNN.out] at y2
        obtain ⟨b1, o1, rfl, hl1, hat1⟩ := xs.at_ (by rw [HXl.out]; omega)
        obtain ⟨b2, o2, rfl, hl2, hat2⟩ := ys.at_ (by rw [← HNN.out]; omega)
        have xb := hat1 q _ HHx.out.2.2
        have yb := hat2 q _ HHx.out.2.1
        obtain ⟨hqi, hri, hqi', hri'⟩ := HQf.out
        have hfb := flipB_lt (z := y) hyb hr8
        obtain ⟨F, hF⟩ : ∃ F, F = flipB y r := ⟨_, rfl⟩
        obtain ⟨P, hP⟩ : ∃ P : Int, P = 2 ^ r := ⟨_, rfl⟩
        have hxor : bits BinOp.xor IntKind.u8 F y = P := by rw [hF, hP]; exact flipB_xor hyb hr8
        have hPb : 0 ≤ P ∧ P < 256 := by rw [hP]; exact pow_small hr8
        have HWq : Hid (IntKind.i64.wrap (q : Int) = (q : Int)) := by show _ = _; rw [IntKind.wrap_i64]; omega
        have HWP : Hid (IntKind.i64.wrap P = P) := by show _ = _; rw [IntKind.wrap_i64]; omega
        rw [← hF] at xb
        have HFs := hid (And.intro hF hP)
        clear hat1 hat2 xs ys hF
        go_upto_region 15 with fail
        have E0 := fun u : BW w7 => u.fact x2 hgl6
        have E1 := fun u : BW w7 => u.fact y2 hgl
        have E2 := fun u : BW w7 => u.fact xb hl1
        have E3 := fun u : BW w7 => u.fact yb hl2
        refine wp_region_bw w7 (Below.refl _ _).drew (by kernel_rfl) (by kernel_rfl) ?_
        repeat (go_big_quiet_step (fail))
        refine wpQuiet_nil ?_
        rintro w8 ⟨u0, hw0⟩
        have hb8 : Below w7.heap.size w7 w8 := by rw [hw0]; exact u0.prop
        clear hw0 u0
        clear E0 E1 E2 E3
        obtain ⟨hX2, hP2⟩ := HFs.out
        clear hxor hPb hfb xb yb hl1 hl2 x2 y2 hgl6 hgl hqi hri hqi' hri' HWq HWP
        have HFg := hid (st_flip (HS7.out.below hb8) k (bt : Int) hbit HHx.out.1)
        have hf2 : flB X (bt : Int) = true := decide_eq_true ⟨by omega, by rw [HXl.out]; have := HQf.out.1; omega⟩
        rw [hf2, flA, hf2, if_pos rfl, Int.toNat_natCast, HBk.out] at HFg
        have HF8 := hid (HF7.out.below hb8)
        clear hf2 hX2 hP2 HFs hb8 HN7 HF7 HS7 HBt HF6 HN6 HS6 HHx HXf HA1 HA1l HBk HXl HQf
        go_wp2_with fail
        refine HFg.out.mono ?_
        rintro e w9 ⟨rfl, hS9, hf9⟩
        have HF9 := hid (HF8.out.fr hf9)
        have HL9 := hid (st_list hS9)
        rw [← HNn.out] at HL9
        clear hS9 hf9 HFg HF8
        go_wp2_with fail
        refine HL9.out.mono ?_
        rintro e w10 ⟨g10, K10, rfl, hk10, hF10, hS10, hf10⟩
        have HR := hid (And.intro hF10 (And.intro ((HF9.out.fr hf10).mono hk10) hS10))
        clear hF10 hS10 hf10 hk10 HL9 HF9
        go_wp2_with fail
        go_meet
        exact ⟨g10, K10, rfl, HR.out⟩
    case rest =>
      obtain ⟨g8, K8, rfl, hN8, hF8, hS8⟩ := hcut
      obtain ⟨w8, rfl⟩ : ∃ V, V = wc := ⟨wc, rfl⟩
      have HN8 := hid hN8
      have HF8 := hid hF8
      have HS8 := hid hS8
      have HQ8 := hid (sameFs_yes w8 D (some ⟨g8, 0, none⟩) (some ⟨g, 0, none⟩) n n hN8.now hF8.now (by rw [← HNn.out]; omega))
      rw [← HNn.out] at HQ8
      clear hN8 hF8 hS8 HF6 HN6 HS6 HA1 HA1l HCf HN8
      go_wp2_with fail
      refine HQ8.out.mono ?_
      rintro e w9 ⟨rfl, hb9⟩
      have HF9 := hid (HF8.out.below hb9)
      have HCp := hid (st_copy (HS8.out.below hb9) k HX.out (by rw [← HNn.out]; omega))
      clear hb9 HQ8 HF8 HS8
      go_wp2_with fail
      refine HCp.out.mono ?_
      rintro e w10 ⟨rfl, hS10, hf10⟩
      have HF10 := hid (HF9.out.fr hf10)
      have HL10 := hid (st_list hS10)
      have HDx : Hid ((D ++ [x]).length = n + 1) := by show _ = _; rw [List.length_append, ← HNn.out]; rfl
      rw [HDx.out] at HL10
      clear hS10 hf10 HCp HF9
      go_wp2_with fail
      refine HL10.out.mono ?_
      rintro e w11 ⟨g11, K11, rfl, hk11, hN11, hS11, hf11⟩
      have HF11 := hid ((HF10.out.fr hf11).mono hk11)
      have HN11 := hid hN11
      have HS11 := hid hS11
      clear hk11 hN11 hS11 hf11 HL10 HF10
      go_upto_region 29 with fail
      have HDn : Hid ((D ++ [x])[n]? = some x) := by
        show _ = _
        rw [HNn.out, List.getElem?_append_right (Nat.le_refl _)]
        simp
      obtain ⟨hgn, q1, c1, x0, x1, x2, xs⟩ := HN11.out.now.item HDn.out
      obtain ⟨hgl, q2, c2, y0, y1, y2, ys⟩ := HF11.out.now.item HX.out
      rw [← HNN.out] at x2 y2
      obtain ⟨fr, hfr⟩ : ∃ fr, fr = x.fr := ⟨_, rfl⟩
      obtain ⟨tt, htt⟩ : ∃ tt, tt = x.tt := ⟨_, rfl⟩
      rw [← hfr] at x0 y0
      rw [← htt] at x1 y1
      have HC1 : Hid (∀ u : BW w11, Calls Try.prog 21 #[.slice (some ⟨g11, 0, none⟩) n (n + 1), .slice (some ⟨g, 0, none⟩) n n] u.val fun e w' => e = .returned (.bool true) ∧ ∃ u' : BW w11, w' = u'.val) := by
        intro u
        have ht : (D ++ [x]).take n = D := by rw [HNn.out]; simp
        have h := sameFs_yes u.val D (some ⟨g11, 0, none⟩) (some ⟨g, 0, none⟩) (n + 1) n (by have h1 := (HN11.out.now.below u.prop).take n; rw [ht] at h1; exact h1) (HF11.out.now.below u.prop) (by rw [← HNn.out]; omega)
        rw [← HNn.out] at h
        exact h.mono fun e w' ⟨he, hb⟩ => ⟨he, u.ret hb⟩
      have HC2 : Hid (∀ u : BW w11, Calls Try.prog 22 #[.agg #[.int .i64 fr, .int .i64 tt, .slice q1 N c1], .agg #[.int .i64 fr, .int .i64 tt, .slice q2 N c2]] u.val fun e w' => e = .returned (.bool true) ∧ ∃ u' : BW w11, w' = u'.val) := by
        intro u
        have h := sameF_yes u.val fr tt x.zs q1 q2 c1 c2 (xs.below u.prop) (ys.below u.prop)
        rw [← HNN.out] at h
        exact h.mono fun e w' ⟨he, hb⟩ => ⟨he, u.ret hb⟩
      clear xs ys hfr htt
      go_cut [179] (fun sx wx => sx = .bool false ∧ Below w11.heap.size w11 wx)
      case first =>
        as_aux_lemma =>
        have E0 := fun u : BW w11 => u.fact x0 hgn
        have E1 := fun u : BW w11 => u.fact x1 hgn
        have E2 := fun u : BW w11 => u.fact x2 hgn
        have E3 := fun u : BW w11 => u.fact y0 hgl
        have E4 := fun u : BW w11 => u.fact y1 hgl
        have E5 := fun u : BW w11 => u.fact y2 hgl
        refine wp_region_bw w11 (Below.refl _ _).drew (by kernel_rfl) (by kernel_rfl) ?_
        repeat (go_big_quiet_step (fail))
        go_big_quiet_step (exact HC1.out _)
        repeat (go_big_quiet_step (fail))
        go_big_quiet_step (exact HC2.out _)
        repeat (go_big_quiet_step (fail))
        refine wpQuiet_nil ?_
        rintro w12 ⟨u0, hw0⟩
        have hb12 : Below w11.heap.size w11 w12 := by rw [hw0]; exact u0.prop
        clear hw0 u0
        clear E0 E1 E2 E3 E4 E5
        go_wp2_with fail
        go_meet
        exact ⟨rfl, hb12⟩
      case rest =>
      obtain ⟨rfl, hb12⟩ := hcut
      obtain ⟨w12, rfl⟩ : ∃ V, V = wc := ⟨wc, rfl⟩
      have HF12 := hid (HF11.out.below hb12)
      have HS12 := hid (HS11.out.below hb12)
      have HFn := hid (st_flip HS12.out n 0 (by omega) HDn.out)
      obtain ⟨c2f, hc2f⟩ : ∃ c2f, c2f = flB x 0 := ⟨_, rfl⟩
      rw [← hc2f] at HFn
      have HC2f := hid hc2f
      clear hb12 HC1 HC2 x0 x1 x2 y0 y1 y2 hgn hgl HF11 HS11 HN11 hc2f
      go_wp2_with fail
      refine HFn.out.mono ?_
      rintro e w13 ⟨rfl, hS13, hf13⟩
      have HF13 := hid (HF12.out.fr hf13)
      have HS13 := hid hS13
      clear hS13 hf13 HFn HF12 HS12
      go_upto_if 182 with fail
      go_cut [] (fun wx => ∃ (K' : Nat → Prop) (x' : FA), FlsK wx K' (some ⟨g, 0, none⟩) D ∧ St W wx K' a b (D ++ [x']) D)
      case first =>
        as_aux_lemma =>
        cases c2f with
        | false =>
          have e : flA (D ++ [x]) n x 0 = D ++ [x] := by rw [flA, ← HC2f.out, if_neg (by simp)]
          rw [e] at HS13
          have HR := hid (And.intro HF13.out HS13.out)
          clear e HF13 HS13
          go_wp2_with fail
          go_meet
          exact ⟨_, x, HR.out⟩
        | true =>
          have hc := HC2f.out
          obtain ⟨_, hN0⟩ := of_decide_eq_true hc.symm
          obtain ⟨Y, hY⟩ : ∃ Y, Y = x.flip 0 := ⟨_, rfl⟩
          have e : flA (D ++ [x]) n x 0 = D ++ [Y] := by
            rw [flA, ← hc, if_pos rfl, HNn.out, List.set_append_right _ _ (Nat.le_refl _), hY]
            simp
          have HL13 := hid (st_list HS13.out)
          rw [e] at HL13
          have HDy : Hid ((D ++ [Y]).length = n + 1) := by show _ = _; rw [List.length_append, ← HNn.out]; rfl
          rw [HDy.out] at HL13
          have hYl : Y.zs.length = N := by rw [hY, HNN.out]; exact flipZ_len _ _
          have HDYn : Hid ((D ++ [Y])[n]? = some Y) := by
            show _ = _
            rw [HNn.out, List.getElem?_append_right (Nat.le_refl _)]
            simp
          have hd1 : dist Y.zs x.zs = 1 := by rw [hY]; exact dist_flip1 (by omega)
          have hYok : ∀ z ∈ Y.zs, 0 ≤ z ∧ z < 256 := by rw [hY]; exact flipZ_by HOk.out.by_
          have HYs := hid (And.intro hYl (And.intro hd1 hYok))
          clear hc hN0 hY e hYl hd1 hYok HS13
          go_wp2_with fail
          refine HL13.out.mono ?_
          rintro e w14 ⟨g14, K14, rfl, hk14, hN14, hS14, hf14⟩
          have HF14 := hid ((HF13.out.fr hf14).mono hk14)
          have HN14 := hid hN14
          have HS14 := hid hS14
          clear hk14 hN14 hS14 hf14 HL13 HF13
          go_upto_region 33 with fail
          obtain ⟨hYl, hd1, hYok⟩ := HYs.out
          obtain ⟨hgn, q1, c1, _, _, x2, xs⟩ := HN14.out.now.item HDYn.out
          obtain ⟨hgl, q2, c2, _, _, y2, ys⟩ := HF14.out.now.item HX.out
          have HC1 : Hid (∀ u : BW w14, Calls Try.prog 21 #[.slice (some ⟨g14, 0, none⟩) n (n + 1), .slice (some ⟨g, 0, none⟩) n n] u.val fun e w' => e = .returned (.bool true) ∧ ∃ u' : BW w14, w' = u'.val) := by
            intro u
            have ht : (D ++ [Y]).take n = D := by rw [HNn.out]; simp
            have h := sameFs_yes u.val D (some ⟨g14, 0, none⟩) (some ⟨g, 0, none⟩) (n + 1) n (by have h1 := (HN14.out.now.below u.prop).take n; rw [ht] at h1; exact h1) (HF14.out.now.below u.prop) (by rw [← HNn.out]; omega)
            rw [← HNn.out] at h
            exact h.mono fun e w' ⟨he, hb⟩ => ⟨he, u.ret hb⟩
          have HC2 : Hid (∀ u : BW w14, Calls Try.prog 20 #[.slice q1 N c1, .slice q2 N c2] u.val fun e w' => e = .returned (.int .i64 1) ∧ ∃ u' : BW w14, w' = u'.val) := by
            intro u
            have h := bits_any u.val Y.zs x.zs q1 q2 c1 c2 (xs.below u.prop) (ys.below u.prop) hYok HOk.out.by_ (by omega)
            rw [hYl, ← HNN.out] at h
            refine h.mono ?_
            rintro e w' ⟨v, he, hv, _, hb⟩
            rw [hv rfl, hd1] at he
            exact ⟨he, u.ret hb⟩
          rw [hYl] at x2
          rw [← HNN.out] at y2
          clear xs ys hYl hd1 hYok HYs
          have E0 := fun u : BW w14 => u.fact x2 hgn
          have E1 := fun u : BW w14 => u.fact y2 hgl
          refine wp_region_bw w14 (Below.refl _ _).drew (by kernel_rfl) (by kernel_rfl) ?_
          repeat (go_big_quiet_step (fail))
          go_big_quiet_step (exact HC1.out _)
          repeat (go_big_quiet_step (fail))
          go_big_quiet_step (exact HC2.out _)
          repeat (go_big_quiet_step (fail))
          refine wpQuiet_nil ?_
          rintro w15 ⟨u0, hw0⟩
          have hb15 : Below w14.heap.size w14 w15 := by rw [hw0]; exact u0.prop
          clear hw0 u0
          clear E0 E1
          have HR := hid (And.intro (HF14.out.below hb15) (HS14.out.below hb15))
          clear hb15 HC1 HC2 x2 y2 hgn hgl HF14 HS14 HN14
          go_wp2_with fail
          go_meet
          exact ⟨_, Y, HR.out⟩
      case rest =>
        obtain ⟨K15, x', hF15, hS15⟩ := hcut
        obtain ⟨w15, rfl⟩ : ∃ V, V = wc := ⟨wc, rfl⟩
        have HF15 := hid hF15
        have HDp := hid (st_drop hS15 n (by rw [List.length_append, ← HNn.out]; simp))
        have he : (D ++ [x']).eraseIdx n = D := by rw [HNn.out, List.eraseIdx_append_of_length_le (Nat.le_refl _)]; simp
        rw [he] at HDp
        clear hF15 hS15 he HF13 HS13
        go_wp2_with fail
        refine HDp.out.mono ?_
        rintro e w16 ⟨rfl, hS16, hf16⟩
        have HF16 := hid (HF15.out.fr hf16)
        have HDv := hid (st_deliver hS16 k HX.out)
        rw [← HNN.out] at HDv
        clear hS16 hf16 HDp HF15
        go_wp2_with fail
        refine HDv.out.mono ?_
        rintro e w17 ⟨d, K17, rfl, hk17, hd17, hbx, hS17, hf17⟩
        obtain ⟨fr, hfr⟩ : ∃ fr, fr = x.fr := ⟨_, rfl⟩
        obtain ⟨tt, htt⟩ : ∃ tt, tt = x.tt := ⟨_, rfl⟩
        rw [← hfr, ← htt]
        obtain ⟨V, hV⟩ : ∃ V, V = w17.alloc (.cells #[.int .i64 fr, .int .i64 tt, .slice (some ⟨d, 0, none⟩) N N] 32) := ⟨_, rfl⟩
        have hBV : Below w17.heap.size w17 V := by rw [hV]; exact (Below.refl _ _).alloc (Nat.le_refl _) _
        have hvx : Box V w17.heap.size #[.int .i64 fr, .int .i64 tt, .slice (some ⟨d, 0, none⟩) N N] 32 := by rw [hV]; exact Box.new _ _ _
        have HF17 := hid ((((HF16.out.fr hf17).mono hk17).below hBV).mono (fun k hk => (Or.inl hk : K17 k ∨ Bt w17.heap.size V.heap.size k)))
        have HS17 := hid (hS17.more hBV)
        have HBx := hid (And.intro (hbx.below hBV) (Or.inl hd17 : K17 d ∨ Bt w17.heap.size V.heap.size d))
        obtain ⟨fb, hfb⟩ : ∃ fb, fb = w17.heap.size := ⟨_, rfl⟩
        have HFb : Hid (Box V fb #[.int .i64 fr, .int .i64 tt, .slice (some ⟨d, 0, none⟩) N N] 32 ∧ (K17 fb ∨ Bt w17.heap.size V.heap.size fb)) := ⟨by rw [hfb]; exact hvx, .inr ⟨by omega, by rw [hfb]; exact hvx.lt⟩⟩
        obtain ⟨K18, hK18⟩ : ∃ K18, K18 = fun k => K17 k ∨ Bt w17.heap.size V.heap.size k := ⟨_, rfl⟩
        have e1 : ∀ k, K18 k = (K17 k ∨ Bt w17.heap.size V.heap.size k) := fun k => by rw [hK18]
        rw [← hK18] at HF17 HS17
        rw [← e1] at HBx HFb
        obtain ⟨E, hE⟩ : ∃ E, E = D.eraseIdx k := ⟨_, rfl⟩
        rw [← hE] at HS17
        have HDr := hid (st_drop HS17.out.swap k (by rw [← HNn.out]; exact hin))
        rw [← hE] at HDr
        have HE := hid hE
        have HV := hid hV
        have HFbe := hid hfb
        have HFt := hid (And.intro hfr htt)
        clear hk17 hd17 hbx hS17 hf17 hV hBV hvx hK18 e1 hE HDv HF16 hfb hfr htt
        go_upto_region 39 with fail
        rw [← HV.out, ← HFbe.out]
        go_wp2_with fail
        refine HDr.out.mono ?_
        rintro e w18 ⟨rfl, hS18, hf18⟩
        have HS18 := hid hS18.swap
        have HF18 := hid (HF17.out.fr hf18)
        have hbx := (HBx.out.1).but hf18 (fun h => h HBx.out.2)
        have hfx := (HFb.out.1).but hf18 (fun h => h HFb.out.2)
        have HBx18 := hid hbx
        have z0 := hfx.cell 0
        have z1 := hfx.cell 1
        have z2 := hfx.cell 2
        have zl := hfx.lt
        simp at z0 z1 z2
        obtain ⟨hgl, q2, c2, y0, y1, y2, ys⟩ := HF18.out.now.item HX.out
        rw [← HNN.out] at y2
        rw [← HFt.out.1] at y0
        rw [← HFt.out.2] at y1
        have HLa := hid (fun V2 (hV2 : Below w18.heap.size w18 V2) => st_list (HS18.out.below hV2))
        obtain ⟨n1, hn1⟩ : ∃ n1, n1 = E.length := ⟨_, rfl⟩
        rw [← hn1] at HLa
        have hn1e : n = n1 + 1 := by rw [hn1, HE.out, List.length_eraseIdx_of_lt (by rw [← HNn.out]; exact hin), ← HNn.out]; omega
        have HN1 := hid hn1
        have HN1e := hid hn1e
        have HSf : Hid (Calls Try.prog 22 #[.agg #[.int .i64 fr, .int .i64 tt, .slice (some ⟨d, 0, none⟩) N N], .agg #[.int .i64 fr, .int .i64 tt, .slice q2 N c2]] w18.drew fun e w' => e = .returned (.bool true) ∧ Below w18.drew.heap.size w18.drew w') := by
          have hsd : Src w18.drew (some ⟨d, 0, none⟩) x.zs.length N 1 (x.zs.map (.int .u8)) := by
            refine .inr ⟨_, rfl, by simp, fun j u hu => ?_⟩
            rw [Go.WideShapes.add_plain, (hbx.below (Below.refl _ _).drew).cell, ← hu]
            simp [bys]
          have h := sameF_yes w18.drew fr tt x.zs (some ⟨d, 0, none⟩) q2 N c2 hsd (ys.below (Below.refl _ _).drew)
          rw [← HNN.out] at h
          exact h
        clear hS18 hf18 hbx hfx ys HF17 HS17 HDr HV hn1 hn1e
        go_upto_region 40 with fail
        go_cut [253] (fun sx wx => sx = .bool false ∧ ∃ K', FlsK wx K' (some ⟨g, 0, none⟩) D ∧ St W wx K' a b E E)
        case first =>
          as_aux_lemma =>
          refine wp_region_calmE 30 (fun wx => Below w18.heap.size w18 wx) [(0, true), (1, true), (2, true), (3, true), (4, true), (5, true), (6, true), (7, true), (8, true), (9, true), (10, true), (11, false), (12, true), (13, true), (14, true), (15, false)] (.one 16 true [(17, true), (18, true), (19, true), (20, true), (21, true), (23, true)] (.one 22 false [] (.one 24 false [] (.one 25 false [(26, true), (27, true)] .done)))) (by kernel_rfl) (by kernel_rfl) (Below.refl _ _).drew ?_
          refine wpPre_e rfl rfl (fun K1 hK1 => ?_)
          apply Exists.intro
          refine And.intro (fun wx hx => ?_) ?_
          · go_simp
            try rfl
          go_simp
          refine hK1 _ ?_
          clear hK1 K1
          refine wpPre_e rfl rfl (fun K1 hK1 => ?_)
          apply Exists.intro
          refine And.intro (fun wx hx => ?_) ?_
          · go_simp
            try rfl
          go_simp
          refine hK1 _ ?_
          clear hK1 K1
          refine wpPre_e rfl rfl (fun K1 hK1 => ?_)
          apply Exists.intro
          refine And.intro (fun wx hx => ?_) ?_
          · go_simp
            try rfl
          go_simp
          refine hK1 _ ?_
          clear hK1 K1
          refine wpPre_e rfl rfl (fun K1 hK1 => ?_)
          apply Exists.intro
          refine And.intro (fun wx hx => ?_) ?_
          · go_simp
            try rfl
          go_simp
          refine hK1 _ ?_
          clear hK1 K1
          refine wpPre_i rfl (fun K1 hK1 => ?_)
          rw [if_pos (by go_simp)]
          apply Exists.intro
          refine And.intro (fun wx hx => ?_) ?_
          · go_simp
            try rfl
          go_simp
          refine hK1 _ ?_
          clear hK1 K1
          refine wpPre_i rfl (fun K1 hK1 => ?_)
          rw [if_pos (by go_simp)]
          apply Exists.intro
          refine And.intro (fun wx hx => ?_) ?_
          · go_simp
            try rfl
          go_simp
          refine hK1 _ ?_
          clear hK1 K1
          refine wpPre_i rfl (fun K1 hK1 => ?_)
          rw [if_pos (by go_simp)]
          apply Exists.intro
          refine And.intro (fun wx hx => ?_) ?_
          · go_simp
            try rfl
          go_simp
          refine hK1 _ ?_
          clear hK1 K1
          refine wpPre_e rfl rfl (fun K1 hK1 => ?_)
          apply Exists.intro
          refine And.intro (fun wx hx => ?_) ?_
          · go_simp
            try rfl
          go_simp
          refine hK1 _ ?_
          clear hK1 K1
          refine wpPre_e rfl rfl (fun K1 hK1 => ?_)
          apply Exists.intro
          refine And.intro (fun wx hx => ?_) ?_
          · go_simp
            try rfl
          go_simp
          refine hK1 _ ?_
          clear hK1 K1
          refine wpPre_i rfl (fun K1 hK1 => ?_)
          rw [if_pos (by go_simp)]
          apply Exists.intro
          refine And.intro (fun wx hx => ?_) ?_
          · go_simp
            try rfl
          go_simp
          refine hK1 _ ?_
          clear hK1 K1
          refine wpPre_i rfl (fun K1 hK1 => ?_)
          rw [if_pos (by go_simp)]
          apply Exists.intro
          refine And.intro (fun wx hx => ?_) ?_
          · go_simp
            try rfl
          go_simp
          refine hK1 _ ?_
          clear hK1 K1
          refine wpPre_i rfl (fun K1 hK1 => ?_)
          rw [if_pos (by go_simp)]
          apply Exists.intro
          refine And.intro (fun wx hx => ?_) ?_
          · have e0 := below_fact hx rfl z0
            have e1 := below_fact hx rfl z1
            have e2 := below_fact hx rfl z2
            have e3 := below_fact hx rfl y0
            have e4 := below_fact hx rfl y1
            have e5 := below_fact hx rfl y2
            go_simp
            try rfl
          go_simp
          refine hK1 _ ?_
          clear hK1 K1
          refine wpPre_i rfl (fun K1 hK1 => ?_)
          rw [if_pos (by go_simp)]
          apply Exists.intro
          refine And.intro (fun wx hx => ?_) ?_
          · go_simp
            try rfl
          go_simp
          refine hK1 _ ?_
          clear hK1 K1
          refine wpPre_i rfl (fun K1 hK1 => ?_)
          rw [if_pos (by go_simp)]
          apply Exists.intro
          refine And.intro (fun wx hx => ?_) ?_
          · go_simp
            try rfl
          go_simp
          refine hK1 _ ?_
          clear hK1 K1
          refine wpPre_i rfl (fun K1 hK1 => ?_)
          rw [if_pos (by go_simp)]
          apply Exists.intro
          refine And.intro (fun wx hx => ?_) ?_
          · go_simp
            try rfl
          go_simp
          refine hK1 _ ?_
          clear hK1 K1
          refine wpPre_i rfl (fun K1 hK1 => ?_)
          rw [if_pos (by go_simp)]
          apply Exists.intro
          refine And.intro (fun wx hx => ?_) ?_
          · have e0 := below_fact hx rfl z0
            have e1 := below_fact hx rfl z1
            have e2 := below_fact hx rfl z2
            have e3 := below_fact hx rfl y0
            have e4 := below_fact hx rfl y1
            have e5 := below_fact hx rfl y2
            go_simp
            try rfl
          go_simp
          refine hK1 _ ?_
          clear hK1 K1
          refine wpPre_nil ?_
          refine wpTr_e rfl (fun K1 hK1 => ?_)
          refine step_callG (by first | rfl | go_simp) 22 #[.tmp 237, .tmp 241] _ rfl Try.f22 Try.func22 (by kernel_rfl) rfl #[.agg #[.int .i64 fr, .int .i64 tt, .slice (some ⟨d, 0, none⟩) N N], .agg #[.int .i64 fr, .int .i64 tt, .slice q2 N c2]] rfl _ (HSf.out) ?_
          rintro e_ w19 ⟨rfl, hb19⟩
          refine ⟨_, rfl, ?_⟩
          have HB19 : Hid (Below w18.heap.size w18 w19) := (Below.refl _ _).drew.trans hb19
          have HLa2 := hid (HLa.out _ HB19.out)
          clear hb19
          go_simp
          refine hK1 _ _ (fun _ => HB19.out) ?_
          clear hK1 K1
          refine wpPre_i rfl (fun K1 hK1 => ?_)
          rw [if_pos (by go_simp)]
          apply Exists.intro
          refine And.intro (fun wx hx => ?_) ?_
          · go_simp
            try rfl
          go_simp
          refine hK1 _ ?_
          clear hK1 K1
          refine wpPre_i rfl (fun K1 hK1 => ?_)
          rw [if_pos (by go_simp)]
          apply Exists.intro
          refine And.intro (fun wx hx => ?_) ?_
          · go_simp
            try rfl
          go_simp
          refine hK1 _ ?_
          clear hK1 K1
          refine wpPre_e rfl rfl (fun K1 hK1 => ?_)
          apply Exists.intro
          refine And.intro (fun wx hx => ?_) ?_
          · go_simp
            try rfl
          go_simp
          refine hK1 _ ?_
          clear hK1 K1
          refine wpPre_e rfl rfl (fun K1 hK1 => ?_)
          apply Exists.intro
          refine And.intro (fun wx hx => ?_) ?_
          · go_simp
            try rfl
          go_simp
          refine hK1 _ ?_
          clear hK1 K1
          refine wpPre_i rfl (fun K1 hK1 => ?_)
          rw [if_pos (by go_simp)]
          apply Exists.intro
          refine And.intro (fun wx hx => ?_) ?_
          · go_simp
            try rfl
          go_simp
          refine hK1 _ ?_
          clear hK1 K1
          refine wpPre_i rfl (fun K1 hK1 => ?_)
          rw [if_pos (by go_simp)]
          apply Exists.intro
          refine And.intro (fun wx hx => ?_) ?_
          · go_simp
            try rfl
          go_simp
          refine hK1 _ ?_
          clear hK1 K1
          refine wpPre_nil ?_
          refine wpTr_e rfl (fun K1 hK1 => ?_)
          refine step_callG (by first | rfl | go_simp) 13 #[.tmp 247] _ rfl Try.f13 Try.func13 (by kernel_rfl) rfl #[.pointer (some ⟨a, 0, none⟩)] rfl _ (HLa2.out) ?_
          rintro e_ w20 ⟨ga, Ka, rfl, hka, hFa, hSa, hfa⟩
          refine ⟨_, rfl, ?_⟩
          have HFa := hid hFa
          have HF20 := hid (((HF18.out.below HB19.out).fr hfa).mono hka)
          have HLb := hid (st_list hSa.swap)
          rw [← HN1.out] at HLb
          clear hFa hSa hka hfa
          go_simp
          refine hK1 _ _ (fun h => by cases h) ?_
          clear hK1 K1
          refine wpPre_nil ?_
          refine wpTr_e rfl (fun K1 hK1 => ?_)
          refine step_callG (by first | rfl | go_simp) 13 #[.tmp 249] _ rfl Try.f13 Try.func13 (by kernel_rfl) rfl #[.pointer (some ⟨b, 0, none⟩)] rfl _ (HLb.out) ?_
          rintro e_ w21 ⟨gb, Kb, rfl, hkb, hFb, hSb, hfb⟩
          refine ⟨_, rfl, ?_⟩
          have HFb2 := hid hFb
          have HF21 := hid ((HF20.out.fr hfb).mono hkb)
          have HSb := hid hSb.swap
          have HQb := hid (sameFs_yes w21 E (some ⟨ga, 0, none⟩) (some ⟨gb, 0, none⟩) n1 n1 (HFa.out.fr hfb).now HFb2.out.now (by rw [← HN1.out]; have := HN1e.out; omega))
          rw [← HN1.out] at HQb
          clear hFb hSb hkb hfb
          go_simp
          refine hK1 _ _ (fun h => by cases h) ?_
          clear hK1 K1
          refine wpPre_nil ?_
          refine wpTr_e rfl (fun K1 hK1 => ?_)
          refine step_callG (by first | rfl | go_simp) 21 #[.tmp 248, .tmp 250] _ rfl Try.f21 Try.func21 (by kernel_rfl) rfl #[.slice (some ⟨ga, 0, none⟩) n1 n1, .slice (some ⟨gb, 0, none⟩) n1 n1] rfl _ (HQb.out) ?_
          rintro e_ w22 ⟨rfl, hb22⟩
          refine ⟨_, rfl, ?_⟩
          have HF22 := hid (HF21.out.below hb22)
          have HS22 := hid (HSb.out.below hb22)
          clear hb22
          go_simp
          refine hK1 _ _ (fun h => by cases h) ?_
          clear hK1 K1
          refine wpPre_i rfl (fun K1 hK1 => ?_)
          rw [if_pos (by go_simp)]
          apply Exists.intro
          refine And.intro (fun wx hx => ?_) ?_
          · go_simp
            try rfl
          go_simp
          refine hK1 _ ?_
          clear hK1 K1
          refine wpPre_e rfl rfl (fun K1 hK1 => ?_)
          apply Exists.intro
          refine And.intro (fun wx hx => ?_) ?_
          · go_simp
            try rfl
          go_simp
          refine hK1 _ ?_
          clear hK1 K1
          refine wpPre_nil ?_
          refine wpTr_done ?_
          go_wp2_with fail
          go_meet
          exact ⟨rfl, _, HF22.out, HS22.out⟩
        case rest =>
        obtain ⟨rfl, K22, hF22, hS22⟩ := hcut
        obtain ⟨w22, rfl⟩ : ∃ V, V = wc := ⟨wc, rfl⟩
        have HF22 := hid hF22
        have HS22 := hid hS22
        clear hF22 hS22
        have HLc := hid (st_list HS22.out)
        rw [← HN1.out] at HLc
        have HEt : Hid (E.take k = D.take k ∧ E.drop k = D.drop (k + 1)) := by
          show _ ∧ _
          rw [HE.out, List.eraseIdx_eq_take_drop_succ]
          have hl : (D.take k).length = k := by rw [List.length_take, ← HNn.out]; omega
          exact ⟨by rw [List.take_append_of_le_length (by omega), List.take_of_length_le (by omega)], by rw [List.drop_append_of_le_length (by omega), List.drop_of_length_le (by omega), List.nil_append]⟩
        clear HLa HSf HBx18 HFt HBx HFb HF18 HS18 z0 z1 z2 zl y0 y1 y2 hgl HS22 HFbe
        go_wp2_with fail
        refine HLc.out.mono ?_
        rintro e w23 ⟨gc, Kc, rfl, hkc, hFc, hSc, hfc⟩
        have HSc := hid hSc
        have HFc := hid hFc
        have HF23 := hid ((HF22.out.fr hfc).mono hkc)
        clear hFc hSc hkc hfc HLc HF22
        go_upto_region 45 with fail
        have hne := HN1e.out
        subst hne
        have hDk : (D.take k).length = k := by rw [List.length_take, ← HNn.out]; omega
        have HC1 : Hid (∀ u : BW w23, Calls Try.prog 21 #[.slice (some ⟨gc, 0, none⟩) k n1, .slice (some ⟨g, 0, none⟩) k (n1 + 1)] u.val fun e w' => e = .returned (.bool true) ∧ ∃ u' : BW w23, w' = u'.val) := by
          intro u
          have h := sameFs_yes u.val (D.take k) (some ⟨gc, 0, none⟩) (some ⟨g, 0, none⟩) n1 (n1 + 1) (by rw [← HEt.out.1]; exact (HFc.out.now.below u.prop).take k) ((HF23.out.now.below u.prop).take k) (by omega)
          rw [hDk] at h
          exact h.mono fun e w' ⟨he, hb⟩ => ⟨he, u.ret hb⟩
        have HKn := hid hin
        clear hDk
        by_cases hkn1 : k = n1
        · subst hkn1
          have HC2 : Hid (∀ u : BW w23, Calls Try.prog 21 #[.slice (some ⟨gc, 0, none⟩) 0 0, .slice (some ⟨g, 0, none⟩) 0 0] u.val fun e w' => e = .returned (.bool true) ∧ ∃ u' : BW w23, w' = u'.val) := by
            intro u
            exact (sameFs_yes u.val [] (some ⟨gc, 0, none⟩) (some ⟨g, 0, none⟩) 0 0 (FlsR.nil _ _) (FlsR.nil _ _) (by simp)).mono fun e w' ⟨he, hb⟩ => ⟨he, u.ret hb⟩
          refine wp_region_bw w23 (Below.refl _ _).drew (by kernel_rfl) (by kernel_rfl) ?_
          repeat (go_big_quiet_step (fail))
          go_big_quiet_step (exact HC1.out _)
          repeat (go_big_quiet_step (fail))
          go_big_quiet_step (exact HC2.out _)
          repeat (go_big_quiet_step (fail))
          refine wpQuiet_nil ?_
          rintro w24 ⟨u0, hw0⟩
          have hb24 : Below w23.heap.size w23 w24 := by rw [hw0]; exact u0.prop
          clear hw0 u0
          have HBe := hid (HSc.out.bel.trans (hb24.mono HSc.out.bel.size))
          clear hb24 HC1 HC2
          go_wp2
          exact bodyPost_ret (v := .bool true) (by simp [results, Try.results6, go_sem]) rfl ⟨rfl, HBe.out⟩
        · have hk1 : ¬ n1 = k := fun e => hkn1 e.symm
          have hlt1 : (k : Int) < (n1 : Int) := by omega
          have hDd : (D.drop (k + 1)).length = n1 - k := by rw [List.length_drop, ← HNn.out]; omega
          have HC2 : Hid (∀ u : BW w23, Calls Try.prog 21 #[.slice (some ⟨gc, k * 3, none⟩) (n1 - k) (n1 - k), .slice (some ⟨g, (k + 1) * 3, none⟩) (n1 - k) (n1 - k)] u.val fun e w' => e = .returned (.bool true) ∧ ∃ u' : BW w23, w' = u'.val) := by
            intro u
            have h1 := (HFc.out.now.below u.prop).drop k
            have h2 := (HF23.out.now.below u.prop).drop (k + 1)
            rw [HEt.out.2] at h1
            rw [Nat.zero_add] at h1 h2
            have h := sameFs_yes u.val (D.drop (k + 1)) _ _ (n1 - k) (n1 - k) h1 h2 (by omega)
            rw [hDd] at h
            exact h.mono fun e w' ⟨he, hb⟩ => ⟨he, u.ret hb⟩
          clear hDd
          refine wp_region_bw w23 (Below.refl _ _).drew (by kernel_rfl) (by kernel_rfl) ?_
          repeat (go_big_quiet_step (fail))
          go_big_quiet_step (exact HC1.out _)
          repeat (go_big_quiet_step (fail))
          go_big_quiet_step (exact HC2.out _)
          repeat (go_big_quiet_step (fail))
          refine wpQuiet_nil ?_
          rintro w24 ⟨u0, hw0⟩
          have hb24 : Below w23.heap.size w23 w24 := by rw [hw0]; exact u0.prop
          clear hw0 u0
          have HBe := hid (HSc.out.bel.trans (hb24.mono HSc.out.bel.size))
          clear hb24 HC1 HC2
          go_wp2
          exact bodyPost_ret (v := .bool true) (by simp [results, Try.results6, go_sem]) rfl ⟨rfl, HBe.out⟩
end Go.Proofs.Ytoefbcagokgfcaa
