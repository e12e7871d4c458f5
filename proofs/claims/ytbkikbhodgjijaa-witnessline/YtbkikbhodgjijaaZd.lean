import Derived.Test.YtbkikbhodgjijaaZc
namespace Go.Proofs.Ytbkikbhodgjijaa
open Go.RowKit
set_option maxRecDepth 8000
theorem oneEv (xs : List EV) : ∀ u ∈ xs.flatMap EV.cells, u.oneCell' = true := by
  intro u hu
  obtain ⟨j, _, hj⟩ := List.mem_flatMap.1 hu
  exact elEv.one _ u hj
theorem Pcs.at_ {w : World} {base n c k : Nat} {p0 : Option Addr} {PS : List (Value × List EV)} (h : Pcs w base (.slice p0 n c) PS) (hk : k < PS.length) : ∃ (g : Nat) (pk : Option Addr) (m ck : Nat), p0 = some ⟨g, 0, none⟩ ∧ w.cell? ⟨g, k, none⟩ = some (.slice pk m ck) ∧ g < w.heap.size ∧ m = (PS[k]'hk).2.length ∧ Src w pk m ck 2 ((PS[k]'hk).2.flatMap EV.cells) := by
  obtain ⟨h1, _⟩ := h.each _ (List.getElem_mem hk)
  obtain ⟨pk, ck, hv⟩ := ownsRow_slice h1
  have hl : (PS.map fun p => p.1).length = PS.length := by simp
  have hr : w.ownsRow base 31 1 (.slice p0 n c) (PS.map fun p => p.1).length (PS.map fun p => p.1) := by rw [hl]; exact h.row
  obtain ⟨g, cg, hv2, _, _, _⟩ := row_some hr (by omega)
  rw [hl] at hv2
  have hp : p0 = some ⟨g, 0, none⟩ := (Value.slice.inj hv2).1
  have hn : n = PS.length := (Value.slice.inj hv2).2.1
  subst hp
  subst hn
  obtain ⟨c1, _, c3⟩ := row_at h.row (q := k) (u := (PS[k]'hk).1) (by rw [List.getElem?_map, List.getElem?_eq_getElem hk]; rfl)
  rw [hv] at c1 h1
  exact ⟨g, pk, _, ck, rfl, c1, c3, rfl, h1.src.2⟩
/-- the first pieces' events -/
def tot (PS : List (Value × List EV)) (k : Nat) : List EV := (PS.take k).flatMap fun p => p.2
theorem tot_succ {PS : List (Value × List EV)} {k : Nat} (hk : k < PS.length) : tot PS (k + 1) = tot PS k ++ (PS[k]'hk).2 := by
  unfold tot
  rw [List.take_succ_eq_append_getElem hk, List.flatMap_append]
  simp
theorem tot_all (PS : List (Value × List EV)) : tot PS PS.length = PS.flatMap fun p => p.2 := by unfold tot; rw [List.take_length]
theorem tot_le (PS : List (Value × List EV)) (k : Nat) : (tot PS k).length ≤ (PS.flatMap fun p => p.2).length := by
  have e : PS.flatMap (fun p => p.2) = tot PS k ++ (PS.drop k).flatMap fun p => p.2 := by
    unfold tot
    rw [← List.flatMap_append, List.take_append_drop]
  rw [e, List.length_append]
  omega
set_option maxHeartbeats 8000000 in
theorem concat_any (w : World) (base : Nat) (p0 : Option Addr) (n c : Nat) (PS : List (Value × List EV)) (h : Pcs w base (.slice p0 n c) PS) (hn : PS.length ≤ 140737488355328) (h47 : (PS.flatMap fun p => p.2).length * 16 ≤ 140737488355328) :
    Calls Try.prog 36 #[.slice p0 n c] w fun e w' => ∃ v, e = .returned v ∧ EvRow w.heap.size w' v (PS.flatMap fun p => p.2) ∧ Below w.heap.size w w' := by
  obtain ⟨p9, c9, h9⟩ := ownsRow_slice h.row
  obtain rfl : n = PS.length := by cases h9; rfl
  clear h9
  obtain ⟨n, hn0⟩ : ∃ n, n = PS.length := ⟨_, rfl⟩
  have H : Hid (Pcs w base (.slice p0 n c) PS) := by rw [hn0]; exact h
  obtain ⟨i0, Kd⟩ := kindEv
  have HKd := hid Kd
  have H47 := hid h47
  rw [← hn0] at hn ⊢
  have HN := hid hn0
  have hg47 : (tot PS n).length * 16 ≤ 140737488355328 := by have := tot_le PS n; omega
  have HGr := hid (grow_any (tot PS n).length w hg47)
  clear hn0 h Kd h47
  go_enter Try.func36, Try.ntmps36
  go_wp2_with fail
  go_loopw [3, 11] (fun x y wr => ∃ k : Nat, k ≤ n ∧ x = .int .i64 ((tot PS k).length : Int) ∧ y = .int .i64 (k : Int) ∧ wr = w) (fun _ y _ => n - (intOf y).toNat)
  case atStart => exact ⟨0, Nat.zero_le _, rfl, rfl, rfl⟩
  case round =>
    obtain ⟨k, hk, rfl, rfl, hw⟩ := hrel
    rw [hw]
    clear hw
    by_cases hlt : k < n
    · have hlt' : (k : Int) < (n : Int) := by omega
      obtain ⟨g, pk, m, ck, hp, c1, gl, hm, _⟩ := H.out.at_ (k := k) (by rw [← HN.out]; exact hlt)
      have HE : Hid ((tot PS (k + 1)).length = (tot PS k).length + m) := by show _ = _; rw [tot_succ (by rw [← HN.out]; exact hlt), List.length_append, hm]
      obtain ⟨A, hA⟩ : ∃ A, A = (tot PS k).length := ⟨_, rfl⟩
      have hAm : A + m ≤ 140737488355328 := by have := HE.out; have := tot_le PS (k + 1); have := H47.out; omega
      rw [← hA] at HE ⊢
      rw [hp]
      have h0 : ¬ ((A : Int) + (m : Int) < 0) := by omega
      clear hp hm hA
      go_wp2
      go_roundw
      case rel => exact ⟨k + 1, by omega, by rw [HE.out]; go_num, by go_num, by first | rfl | trivial⟩
      case measure => simp [intOf]; omega
    · obtain rfl : k = n := by omega
      go_wp2_with fail
      refine HGr.out.mono ?_
      rintro e w1 ⟨v1, rfl, hr1, hb1⟩
      have HR1 := hid hr1
      have HB1 := hid hb1
      clear hr1 hb1 HGr
      go_wp2_with fail
      go_loopw [6, 27] (fun x y wr => ∃ q : Nat, q ≤ k ∧ EvRow w.heap.size wr x (tot PS q) ∧ y = .int .i64 (q : Int) ∧ Below w.heap.size w wr) (fun _ y _ => k - (intOf y).toNat)
      case atStart => exact ⟨0, Nat.zero_le _, HR1.out, rfl, HB1.out⟩
      case round =>
        obtain ⟨q, hq, hr, rfl, hb⟩ := hrel
        have HR := hid hr
        have HB := hid hb
        clear hr hb
        by_cases hlt : q < k
        · have hlt' : (q : Int) < (k : Int) := by omega
          have hqP : q < PS.length := by rw [← HN.out]; exact hlt
          obtain ⟨g, pk, m, ck, hp, c1, gl, hm, hsr⟩ := (H.out.below HB.out).at_ hqP
          have HS := hid hsr
          have HE : Hid (tot PS (q + 1) = tot PS q ++ (PS[q]'hqP).2) := tot_succ hqP
          have HM := hid hm
          have hAm : ((tot PS q).length + m) * 16 ≤ 140737488355328 := by have h1 := HE.out; have h2 := congrArg List.length h1; rw [List.length_append] at h2; have := tot_le PS (q + 1); have := H47.out; omega
          obtain ⟨A, hA⟩ : ∃ A, A = (tot PS q).length := ⟨_, rfl⟩
          have HA := hid hA
          rw [← hA] at hAm
          rw [hp]
          clear hp hm hA hsr
          go_wp2_with (at_builtin; refine wpList_appS rfl (.tmp 31) (.tmp 32) 31 39 i0 _ 2 16 HKd.out rfl w.heap.size u6 (tot PS q).length _ rfl HR.out pk m ck _ rfl HS.out (oneEv _) (by rw [← HA.out]; omega) (by rw [← HA.out]; omega) HB.out.size ?_)
          intro v3 w3 ho3 hg3 hn3
          have HR3 : Hid (EvRow w.heap.size w3 v3 (tot PS (q + 1))) := by show EvRow _ _ _ _; rw [HE.out]; exact EvRow.appS rfl HM.out ho3
          have HB3 : Hid (Below w.heap.size w w3) := HB.out.grown hg3 HB.out.size (fun j hj => (World.ownsRow.lt HR.out j hj).1)
          clear ho3 hg3 hn3
          go_wp2
          go_roundw
          case rel => exact ⟨q + 1, by omega, HR3.out, by go_num, HB3.out⟩
          case measure => simp [intOf]; omega
        · obtain rfl : q = k := by omega
          have HE : Hid (tot PS q = PS.flatMap fun p => p.2) := by show _ = _; rw [HN.out]; exact tot_all PS
          go_wp2
          go_ret
          exact ⟨_, rfl, by rw [← HE.out]; exact HR.out, HB.out⟩
end Go.Proofs.Ytbkikbhodgjijaa
