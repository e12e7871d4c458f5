import Derived.Test.YtoefbcagokgfcaaUbE
namespace Go.Proofs.Ytoefbcagokgfcaa
open Go.RowKit
set_option maxRecDepth 8000
theorem Src.at_ {w : World} {p : Option Addr} {c : Nat} {zs : List Int} (h : Src w p zs.length c 1 (zs.map (.int .u8))) (hn : 0 < zs.length) : ∃ b o, p = some ⟨b, o, none⟩ ∧ b < w.heap.size ∧ ∀ j z, zs[j]? = some z → w.cell? ⟨b, o + j, none⟩ = some (.int .u8 z) := by
  rcases h with ⟨_, h0, _, _⟩ | ⟨ad, h1, h2, h3⟩
  · omega
  · obtain ⟨b, o, spot⟩ := ad
    obtain ⟨z, hz⟩ : ∃ z, zs[0]? = some z := ⟨_, List.getElem?_eq_getElem hn⟩
    have f0 := h3 0 (.int .u8 z) (by simp [hz])
    have hspot : spot = none := by simpa [Addr.add] using World.cell?_spot f0
    subst hspot
    have hb := block_lt_of_cell f0
    refine ⟨b, o, h1, by simpa [Addr.add] using hb, fun j z hz => ?_⟩
    have := h3 j (.int .u8 z) (by simp [hz])
    rw [Go.WideShapes.add_plain] at this
    exact this
/-- how many bits are set, of the first f -/
def popc : Nat → Nat → Nat
  | 0, _ => 0
  | f + 1, x => x % 2 + popc f (x / 2)
theorem popc_zero : ∀ f, popc f 0 = 0
  | 0 => rfl
  | f + 1 => by rw [popc]; simp [popc_zero f]
theorem popc_le : ∀ f x, popc f x ≤ f
  | 0, _ => Nat.le_refl _
  | f + 1, x => by rw [popc]; have := popc_le f (x / 2); omega
/-- in how many bits two lists differ -/
def dist : List Int → List Int → Nat
  | x :: r, y :: s => popc 8 (x.toNat ^^^ y.toNat) + dist r s
  | _, _ => 0
theorem dist_le : ∀ a b, dist a b ≤ 8 * a.length
  | [], _ => by simp [dist]
  | _ :: _, [] => by simp [dist]
  | x :: r, y :: s => by
    have h1 := popc_le 8 (x.toNat ^^^ y.toNat)
    have h2 := dist_le r s
    simp only [dist, List.length_cons]
    omega
theorem dist_snoc : ∀ (a b : List Int) (x y : Int), a.length = b.length → dist (a ++ [x]) (b ++ [y]) = dist a b + popc 8 (x.toNat ^^^ y.toNat)
  | [], [], x, y, _ => by simp [dist]
  | [], _ :: _, _, _, h => by simp at h
  | _ :: _, [], _, _, h => by simp at h
  | x0 :: r, y0 :: s, x, y, h => by
    have := dist_snoc r s x y (by simpa using h)
    simp only [List.cons_append, dist, this]
    omega
set_option maxHeartbeats 4000000 in
/-- bits -/
theorem bits_any (w : World) (zs ys : List Int) (p q : Option Addr) (c d : Nat) (hp : Src w p zs.length c 1 (zs.map (.int .u8))) (hq : Src w q ys.length d 1 (ys.map (.int .u8)))
    (hz : ∀ z ∈ zs, 0 ≤ z ∧ z < 256) (hy : ∀ z ∈ ys, 0 ≤ z ∧ z < 256) (hn : zs.length ≤ 1099511627776) :
    Calls Try.prog 20 #[.slice p zs.length c, .slice q ys.length d] w fun e w' => ∃ k : Int, e = .returned (.int .i64 k) ∧ (zs.length = ys.length → k = (dist zs ys : Int)) ∧ (zs.length ≠ ys.length → k = -1) ∧ Below w.heap.size w w' := by
  have HP := hid hp
  have HQ := hid hq
  have HZ := hid hz
  have HY := hid hy
  obtain ⟨n, hne⟩ : ∃ n, n = zs.length := ⟨_, rfl⟩
  obtain ⟨m, hme⟩ : ∃ m, m = ys.length := ⟨_, rfl⟩
  have HN := hid hne
  have HM := hid hme
  rw [← hne] at hn ⊢
  rw [← hme]
  clear hp hq hz hy hne hme
  by_cases hnm : n = m
  case neg =>
    have hnm' : ((n : Int) == (m : Int)) = false := by simp; omega
    have HNM := hid hnm
    clear hnm
    go_enter Try.func20, Try.ntmps20
    go_wp2
    exact bodyPost_ret (v := .int .i64 (-1)) (by simp [results, Try.results20, go_sem]) rfl ⟨-1, rfl, fun h => absurd h HNM.out, fun _ => rfl, Below.refl _ _⟩
  case pos =>
    subst hnm
    go_enter Try.func20, Try.ntmps20
    go_wp2_with fail
    go_loopw [5, 6] (fun a x wr => ∃ i : Nat, i ≤ n ∧ x = .int .i64 (i : Int) ∧ a = .int .i64 (dist (zs.take i) (ys.take i) : Int) ∧ Below w.heap.size w wr) (fun _ x _ => n - (intOf x).toNat)
    case atStart => exact ⟨0, Nat.zero_le _, rfl, by simp [dist], Below.refl _ _⟩
    case round =>
      obtain ⟨i, hi, rfl, rfl, hbw⟩ := hrel
      have HB := hid hbw
      clear hbw
      obtain ⟨D, hD⟩ : ∃ D, D = dist (zs.take i) (ys.take i) := ⟨_, rfl⟩
      have hDl : D ≤ 8 * i := by
        rw [hD]
        have h1 := dist_le (zs.take i) (ys.take i)
        have h2 : (zs.take i).length ≤ i := List.length_take_le _ _
        omega
      rw [← hD]
      have HDe := hid hD
      clear hD
      by_cases hlt : i < n
      · have hlt' : (i : Int) < (n : Int) := by omega
        obtain ⟨x, hx⟩ : ∃ x, zs[i]? = some x := ⟨_, List.getElem?_eq_getElem (by rw [← HN.out]; exact hlt)⟩
        obtain ⟨y, hy⟩ : ∃ y, ys[i]? = some y := ⟨_, List.getElem?_eq_getElem (by rw [← HM.out]; exact hlt)⟩
        obtain ⟨b1, o1, hp1, l1, at1⟩ := HP.out.at_ (by rw [← HN.out]; omega)
        obtain ⟨b2, o2, hp2, l2, at2⟩ := HQ.out.at_ (by rw [← HM.out]; omega)
        have x0 : wr.cell? ⟨b1, o1 + i, none⟩ = some (.int .u8 x) := (World.cell?_of_block (a := ⟨b1, o1 + i, none⟩) (HB.out.block b1 l1)).trans (at1 i x hx)
        have y0 : wr.cell? ⟨b2, o2 + i, none⟩ = some (.int .u8 y) := (World.cell?_of_block (a := ⟨b2, o2 + i, none⟩) (HB.out.block b2 l2)).trans (at2 i y hy)
        have hxb := HZ.out x (List.mem_of_getElem? hx)
        have hyb := HY.out y (List.mem_of_getElem? hy)
        rw [hp1, hp2]
        obtain ⟨X, hX⟩ : ∃ X : Nat, X = x.toNat ^^^ y.toNat := ⟨_, rfl⟩
        have hXl : X < 256 := by rw [hX]; exact Nat.xor_lt_two_pow (n := 8) (by omega) (by omega)
        have hbx : bits BinOp.xor IntKind.u8 x y = (X : Int) := by
          have h := bits_xor_u8_nat x.toNat y.toNat (by omega) (by omega)
          rw [Int.toNat_of_nonneg hxb.1, Int.toNat_of_nonneg hyb.1] at h
          rw [hX]; exact h
        have HNx : Hid (dist (zs.take (i + 1)) (ys.take (i + 1)) = D + popc 8 X) := by
          show _ = _
          rw [List.take_add_one, List.take_add_one, hx, hy, HDe.out, hX]
          refine dist_snoc _ _ x y ?_
          rw [List.length_take, List.length_take, ← HN.out, ← HM.out]
        have HWX : Hid (IntKind.i64.wrap (X : Int) = (X : Int)) := by show _ = _; rw [IntKind.wrap_i64]; omega
        clear at1 at2 hx hy hp1 hp2 hX
        go_upto_region 7 with fail
        refine wp_region_calmE 30 (fun wx => Below wr.heap.size wr wx) [(0, true), (1, true), (2, true), (3, false), (4, true), (5, true), (6, true), (7, false), (8, true), (9, true), (10, true)] .done (by kernel_rfl) (by kernel_rfl) (Below.refl _ _).drew ?_
        refine wpPre_e rfl rfl (fun K1 hK1 => ?_)
        apply Exists.intro
        refine And.intro (fun wx hx => ?_) ?_
        · go_simp
          try rfl
        go_simp
        refine hK1 _ ?_
        clear hK1 K1
        refine wpPre_e rfl rfl (fun K1 hK1 => ?_)
        apply Exists.intro
        refine And.intro (fun wx hx => ?_) ?_
        · go_simp
          try rfl
        go_simp
        refine hK1 _ ?_
        clear hK1 K1
        refine wpPre_e rfl rfl (fun K1 hK1 => ?_)
        apply Exists.intro
        refine And.intro (fun wx hx => ?_) ?_
        · go_simp
          try rfl
        go_simp
        refine hK1 _ ?_
        clear hK1 K1
        refine wpPre_e rfl rfl (fun K1 hK1 => ?_)
        apply Exists.intro
        refine And.intro (fun wx hx => ?_) ?_
        · have e0 := below_fact hx rfl x0
          have e1 := below_fact hx rfl y0
          go_simp
          try rfl
        go_simp
        refine hK1 _ ?_
        clear hK1 K1
        refine wpPre_e rfl rfl (fun K1 hK1 => ?_)
        apply Exists.intro
        refine And.intro (fun wx hx => ?_) ?_
        · go_simp
          try rfl
        go_simp
        refine hK1 _ ?_
        clear hK1 K1
        refine wpPre_e rfl rfl (fun K1 hK1 => ?_)
        apply Exists.intro
        refine And.intro (fun wx hx => ?_) ?_
        · go_simp
          try rfl
        go_simp
        refine hK1 _ ?_
        clear hK1 K1
        refine wpPre_e rfl rfl (fun K1 hK1 => ?_)
        apply Exists.intro
        refine And.intro (fun wx hx => ?_) ?_
        · go_simp
          try rfl
        go_simp
        refine hK1 _ ?_
        clear hK1 K1
        refine wpPre_e rfl rfl (fun K1 hK1 => ?_)
        apply Exists.intro
        refine And.intro (fun wx hx => ?_) ?_
        · have e0 := below_fact hx rfl x0
          have e1 := below_fact hx rfl y0
          go_simp
          try rfl
        go_simp
        refine hK1 _ ?_
        clear hK1 K1
        refine wpPre_e rfl rfl (fun K1 hK1 => ?_)
        apply Exists.intro
        refine And.intro (fun wx hx => ?_) ?_
        · go_simp
          try rfl
        go_simp
        refine hK1 _ ?_
        clear hK1 K1
        refine wpPre_e rfl rfl (fun K1 hK1 => ?_)
        apply Exists.intro
        refine And.intro (fun wx hx => ?_) ?_
        · go_simp
          try rfl
        go_simp
        refine hK1 _ ?_
        clear hK1 K1
        rw [HWX.out]
        refine wpPre_e rfl rfl (fun K1 hK1 => ?_)
        apply Exists.intro
        refine And.intro (fun wx hx => ?_) ?_
        · go_simp
          try rfl
        go_simp
        refine hK1 _ ?_
        clear hK1 K1
        refine wpPre_nil ?_
        refine wpTr_done ?_
        have HB2 : Hid (Below w.heap.size w wr.drew) := HB.out.drew
        obtain ⟨V, hV⟩ : ∃ V, V = wr.drew := ⟨_, rfl⟩
        rw [← hV] at HB2 ⊢
        clear hV x0 y0 hbx
        go_wp2_with fail
        go_loopw [5, 7] (fun a x w2 => ∃ k y A : Nat, y < 2 ^ k ∧ k ≤ 8 ∧ y < 256 ∧ A ≤ D + 8 ∧ x = .int .i64 (y : Int) ∧ a = .int .i64 (A : Int) ∧ A + popc k y = D + popc 8 X ∧ w2 = V) (fun _ x _ => (intOf x).toNat)
        case atStart => exact ⟨8, X, D, by omega, by omega, by omega, by omega, rfl, rfl, rfl, rfl⟩
        case round =>
          obtain ⟨k, y, A, hyk, hk8, hy256, hAD, rfl, rfl, hsum, rfl⟩ := hrel
          have HS := hid (And.intro hyk hsum)
          clear hyk hsum
          by_cases hy0 : 0 < y
          · have hy0' : (0 : Int) < (y : Int) := by omega
            obtain ⟨Y, hY⟩ : ∃ Y : Nat, Y = y / 2 := ⟨_, rfl⟩
            obtain ⟨R, hR⟩ : ∃ R : Nat, R = y % 2 := ⟨_, rfl⟩
            have hYi : (y : Int) / 2 = (Y : Int) := by omega
            have hRi : (y : Int) % 2 = (R : Int) := by omega
            have hYi' : (y : Int).tdiv 2 = (Y : Int) := by rw [Int.tdiv_eq_ediv_of_nonneg (by omega)]; exact hYi
            have hRi' : (y : Int).tmod 2 = (R : Int) := by rw [Int.tmod_eq_emod_of_nonneg (by omega)]; exact hRi
            have hYl : Y < 256 := by omega
            have hRl : R ≤ 1 := by omega
            have HNew : Hid (∃ k', Y < 2 ^ k' ∧ k' ≤ 8 ∧ A + R ≤ D + 8 ∧ A + R + popc k' Y = D + popc 8 X) := by
              obtain ⟨h1, h2⟩ := HS.out
              cases k with
              | zero => simp at h1; omega
              | succ k =>
                rw [popc] at h2
                have h3 : popc 8 X ≤ 8 := popc_le 8 X
                refine ⟨k, by rw [hY]; rw [Nat.pow_succ] at h1; omega, by omega, by rw [hR]; omega, by rw [hR, hY]; omega⟩
            have HYl : Hid (Y < y) := by show _ < _; omega
            clear hY hR
            go_wp2
            go_roundw
            case rel =>
              obtain ⟨k', h1, h2, h3, h4⟩ := HNew.out
              exact ⟨k', Y, A + R, h1, h2, by omega, h3, rfl, by go_num, h4, by first | rfl | trivial⟩
            case measure => simp [intOf]; exact HYl.out
          · obtain rfl : y = 0 := by omega
            have HDn : Hid (A = D + popc 8 X) := by
              have h2 := HS.out.2
              rw [popc_zero] at h2
              exact h2
            go_wp2
            go_roundw
            case rel => exact ⟨i + 1, by omega, by go_num, by rw [HNx.out, ← HDn.out], HB2.out⟩
            case measure => simp [intOf]; omega
      · obtain rfl : i = n := by omega
        have HE : Hid (D = dist zs ys) := by
          show _ = _
          rw [HDe.out, List.take_of_length_le (by rw [← HN.out]; exact Nat.le_refl _), List.take_of_length_le (by rw [← HM.out]; exact Nat.le_refl _)]
        go_wp2
        exact bodyPost_ret (v := .int .i64 (D : Int)) (by simp [results, Try.results20, go_sem]) rfl ⟨(D : Int), rfl, fun _ => by rw [HE.out], fun h => absurd rfl h, HB.out⟩
end Go.Proofs.Ytoefbcagokgfcaa
