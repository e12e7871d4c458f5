import Derived.Test.YtoefbcagokgfcaaUbH
import Derived.Test.YtoefbcagokgfcaaUbF
namespace Go.Proofs.Ytoefbcagokgfcaa
open Go.RowKit
set_option maxRecDepth 8000
theorem popc_bit : ∀ k, k < 8 → popc 8 (1 <<< k) = 1 := by decide
theorem popc_flip8 : ∀ y : Fin 256, ∀ k : Fin 8, popc 8 (y.val ^^^ (1 <<< k.val)) ≤ popc 8 y.val + 1 := by decide +kernel
theorem popc_flip {y k : Nat} (hy : y < 256) (hk : k < 8) : popc 8 (y ^^^ (1 <<< k)) ≤ popc 8 y + 1 := popc_flip8 ⟨y, hy⟩ ⟨k, hk⟩
theorem flipB_nat (z : Int) (k : Nat) : (flipB z k).toNat = z.toNat ^^^ (1 <<< k) := by unfold flipB; simp
theorem flipB_flipB {z : Int} (k : Nat) (h : 0 ≤ z) : flipB (flipB z k) k = z := by
  unfold flipB
  simp [Nat.xor_assoc]
  omega
theorem dist_self : ∀ a, dist a a = 0
  | [] => rfl
  | x :: r => by simp [dist, dist_self r, popc_zero]
theorem dist_set : ∀ (s zs : List Int) (j k : Nat), s.length = zs.length → (∀ z ∈ s, 0 ≤ z ∧ z < 256) → (∀ z ∈ zs, 0 ≤ z ∧ z < 256) → k < 8 → dist s (zs.set j (flipB (zs.getD j 0) k)) ≤ dist s zs + 1
  | [], zs, j, k, _, _, _, _ => by simp [dist]
  | x :: s, [], j, k, h, _, _, _ => by simp at h
  | x :: s, y :: zs, 0, k, _, hs, hz, hk => by
    simp only [List.set_cons_zero, dist, List.getD_cons_zero, flipB_nat]
    have hx := hs x (by simp)
    have hy := hz y (by simp)
    have h1 : x.toNat ^^^ y.toNat < 256 := Nat.xor_lt_two_pow (n := 8) (by omega) (by omega)
    have h2 := popc_flip h1 hk
    rw [← Nat.xor_assoc]
    omega
  | x :: s, y :: zs, j + 1, k, h, hs, hz, hk => by
    simp only [List.set_cons_succ, dist, List.getD_cons_succ]
    have := dist_set s zs j k (by simpa using h) (fun z hz' => hs z (by simp [hz'])) (fun z hz' => hz z (by simp [hz'])) hk
    omega
theorem dist_flip {s zs : List Int} (bit : Nat) (h : s.length = zs.length) (hs : ∀ z ∈ s, 0 ≤ z ∧ z < 256) (hz : ∀ z ∈ zs, 0 ≤ z ∧ z < 256) : dist s (flipZ zs bit) ≤ dist s zs + 1 := dist_set s zs _ _ h hs hz (Nat.mod_lt _ (by omega))
theorem dist_set1 : ∀ (zs : List Int) (j k : Nat), j < zs.length → k < 8 → dist (zs.set j (flipB (zs.getD j 0) k)) zs = 1
  | [], j, k, h, _ => by simp at h
  | y :: zs, 0, k, _, hk => by
    simp only [List.set_cons_zero, dist, List.getD_cons_zero, flipB_nat, dist_self]
    rw [Nat.xor_comm, ← Nat.xor_assoc, Nat.xor_self, Nat.zero_xor, popc_bit k hk]
  | y :: zs, j + 1, k, h, hk => by
    simp only [List.set_cons_succ, dist, List.getD_cons_succ]
    rw [dist_set1 zs j k (by simpa using h) hk]
    simp [popc_zero]
theorem dist_flip1 {zs : List Int} {bit : Nat} (h : bit / 8 < zs.length) : dist (flipZ zs bit) zs = 1 := dist_set1 zs _ _ h (Nat.mod_lt _ (by omega))
theorem flipZ_len (zs : List Int) (bit : Nat) : (flipZ zs bit).length = zs.length := by simp [flipZ]
theorem flipZ_flipZ {zs : List Int} {bit : Nat} (h : bit / 8 < zs.length) (hz : ∀ z ∈ zs, 0 ≤ z ∧ z < 256) : flipZ (flipZ zs bit) bit = zs := by
  have hm : 0 ≤ zs[bit / 8] := (hz _ (List.getElem_mem h)).1
  unfold flipZ
  rw [List.set_set, List.getD_eq_getElem?_getD, List.getElem?_set_self h]
  simp only [Option.getD_some]
  rw [List.getD_eq_getElem?_getD, List.getElem?_eq_getElem h]
  simp only [Option.getD_some]
  rw [flipB_flipB _ hm]
  exact List.set_getElem_self h
/-- what is known of a network's packets -/
structure FA.Ok (a : FA) : Prop where
  len : a.zs.length ≤ 32776
  by_ : ∀ z ∈ a.zs, 0 ≤ z ∧ z < 256
theorem EtA.ok {w : World} {Z : Nat → Prop} {b : Nat} {m : Int} {A : List FA} (h : EtA w Z b m A) : ∀ a ∈ A, a.Ok := by
  obtain ⟨v, L, hI, rfl⟩ := h
  intro a ha
  obtain ⟨x, hx, rfl⟩ := List.mem_map.1 ha
  exact ⟨hI.sz x hx, hI.by_ x hx⟩
theorem EtA.len {w : World} {Z : Nat → Prop} {b : Nat} {m : Int} {A : List FA} (h : EtA w Z b m A) : A.length ≤ 256 := by
  obtain ⟨v, L, hI, rfl⟩ := h
  simpa using hI.len
/-- such a packet was sent, but for as many bits as were flipped -/
structure Like (fl : Nat) (s x : FA) : Prop where
  fr : s.fr = x.fr
  tt : s.tt = x.tt
  len : s.zs.length = x.zs.length
  d : dist s.zs x.zs ≤ fl
/-- what the book knows -/
structure Hon (S A : List FA) (cp dl dr fl : Nat) : Prop where
  sum : S.length + cp = dl + dr + A.length
  ok : ∀ s ∈ S, s.Ok
  kn : ∀ x ∈ A, ∃ s ∈ S, Like fl s x
theorem Hon.send {S A : List FA} {cp dl dr fl : Nat} (h : Hon S A cp dl dr fl) {a : FA} (ha : a.Ok) : Hon (S ++ [a]) (A ++ [a]) cp dl dr fl := by
  refine ⟨by simp; have := h.sum; omega, fun s hs => ?_, fun x hx => ?_⟩
  · rcases List.mem_append.1 hs with hs | hs
    · exact h.ok s hs
    · obtain rfl : s = a := by simpa using hs
      exact ha
  · rcases List.mem_append.1 hx with hx | hx
    · obtain ⟨s, hs, hl⟩ := h.kn x hx
      exact ⟨s, by simp [hs], hl⟩
    · obtain rfl : x = a := by simpa using hx
      exact ⟨x, by simp, rfl, rfl, rfl, by rw [dist_self]; omega⟩
theorem Hon.out {S A : List FA} {cp dl dr fl i : Nat} (h : Hon S A cp dl dr fl) (hi : i < A.length) : Hon S (A.eraseIdx i) cp (dl + 1) dr fl ∧ Hon S (A.eraseIdx i) cp dl (dr + 1) fl := by
  have hl : (A.eraseIdx i).length = A.length - 1 := List.length_eraseIdx_of_lt hi
  have hk : ∀ x ∈ A.eraseIdx i, ∃ s ∈ S, Like fl s x := fun x hx => h.kn x ((List.eraseIdx_sublist A i).subset hx)
  have := h.sum
  exact ⟨⟨by omega, h.ok, hk⟩, ⟨by omega, h.ok, hk⟩⟩
theorem Hon.copy {S A : List FA} {cp dl dr fl i : Nat} (h : Hon S A cp dl dr fl) {a : FA} (ha : A[i]? = some a) : Hon S (A ++ [a]) (cp + 1) dl dr fl := by
  refine ⟨by simp; have := h.sum; omega, h.ok, fun x hx => ?_⟩
  rcases List.mem_append.1 hx with hx | hx
  · exact h.kn x hx
  · obtain rfl : x = a := by simpa using hx
    exact h.kn x (List.mem_of_getElem? ha)
theorem Hon.flip {S A : List FA} {cp dl dr fl i : Nat} (h : Hon S A cp dl dr fl) (hA : ∀ a ∈ A, a.Ok) {a : FA} (ha : A[i]? = some a) (bit : Nat) : Hon S (A.set i (a.flip bit)) cp dl dr (fl + 1) := by
  refine ⟨by rw [List.length_set]; exact h.sum, h.ok, fun x hx => ?_⟩
  rcases List.mem_or_eq_of_mem_set hx with hx | rfl
  · obtain ⟨s, hs, hl⟩ := h.kn x hx
    exact ⟨s, hs, hl.fr, hl.tt, hl.len, Nat.le_succ_of_le hl.d⟩
  · obtain ⟨s, hs, hl⟩ := h.kn a (List.mem_of_getElem? ha)
    refine ⟨s, hs, hl.fr, hl.tt, ?_, ?_⟩
    · show s.zs.length = (flipZ a.zs bit).length
      rw [flipZ_len]; exact hl.len
    · show dist s.zs (flipZ a.zs bit) ≤ fl + 1
      have := dist_flip bit hl.len (h.ok s hs).by_ (hA a (List.mem_of_getElem? ha)).by_
      have := hl.d
      omega
end Go.Proofs.Ytoefbcagokgfcaa

namespace Go.Proofs.Ytoefbcagokgfcaa
open Go.RowKit
set_option maxRecDepth 8000
/-- what made sends of the data -/
def mdO (l : LT BY) (j : Nat) : List FA := if 1000 < (l.item j).n then [] else [⟨((j % 3 : Nat) : Int), (((j + 1) % 3 : Nat) : Int), (l.item j).zs⟩]
def mdA (l : LT BY) (k : Nat) : List FA := (List.range k).flatMap (mdO l)
theorem mdA_succ (l : LT BY) (k : Nat) : mdA l (k + 1) = mdA l k ++ mdO l k := by
  unfold mdA
  rw [List.range_succ, List.flatMap_append]
  simp
theorem mdA_len (l : LT BY) : ∀ k, (mdA l k).length ≤ k
  | 0 => by simp [mdA]
  | k + 1 => by
    rw [mdA_succ, List.length_append]
    have := mdA_len l k
    have h1 : (mdO l k).length ≤ 1 := by unfold mdO; split <;> simp
    omega
set_option maxHeartbeats 8000000 in
/-- made -/
theorem made_any (l : LT BY) (w : World) (S : Nat → Prop) (hD : LT.In elBy w S l) :
    Calls Try.prog 18 #[.slice l.p l.n l.c] w fun e w' => ∃ b, e = .returned (.pointer (some ⟨b, 0, none⟩)) ∧ En w.heap.size w w' b 3 (mdA l (min l.n 40)) := by
  have HN := hid (new_en (B := w.heap.size) (W := w) 3 (Below.refl _ _) (Nat.le_refl _) (by omega))
  have hdn := hD.nn
  have HD0 := hid hD
  clear hD
  go_enter Try.func18, Try.ntmps18
  go_wp2_with fail
  refine HN.out.mono ?_
  rintro e w2 ⟨rfl, hE2⟩
  obtain ⟨b, hb⟩ : ∃ b, b = w.heap.size := ⟨_, rfl⟩
  have HE2 : Hid (En w.heap.size w w2 b 3 []) := by rw [hb]; exact hE2
  rw [← hb]
  clear hE2 hb HN
  go_wp2_with fail
  go_loopw [5] (fun x wr => ∃ i : Nat, x = .int .i64 (i : Int) ∧ i ≤ min l.n 40 ∧ En w.heap.size w wr b 3 (mdA l i)) (fun x _ => 40 - (intOf x).toNat)
  case atStart => exact ⟨0, rfl, by omega, HE2.out⟩
  case round =>
    obtain ⟨i, rfl, hi, hE⟩ := hrel
    have HE := hid hE
    clear hE HE2
    by_cases hlt : i < l.n
    case neg =>
      have hlt' : ¬ (i : Int) < (l.n : Int) := by omega
      have HQ : Hid (En w.heap.size w wr b 3 (mdA l (min l.n 40))) := by
        have e : min l.n 40 = i := by omega
        rw [e]
        exact HE.out
      go_wp2
      exact bodyPost_ret (v := .pointer (some ⟨b, 0, none⟩)) (by simp [results, Try.results18, go_sem]) rfl ⟨b, rfl, HQ.out⟩
    case pos =>
      have hlt' : (i : Int) < (l.n : Int) := by omega
      by_cases h40 : i < 40
      case neg =>
        have h40' : ¬ (i : Int) < 40 := by omega
        have HQ : Hid (En w.heap.size w wr b 3 (mdA l (min l.n 40))) := by
          have e : min l.n 40 = i := by omega
          rw [e]
          exact HE.out
        go_wp2
        exact bodyPost_ret (v := .pointer (some ⟨b, 0, none⟩)) (by simp [results, Try.results18, go_sem]) rfl ⟨b, rfl, HQ.out⟩
      case pos =>
        have h40' : (i : Int) < 40 := by omega
        obtain ⟨xb, xo, hxp, _, _⟩ := HD0.out.at_ (show 0 < l.n by omega)
        rw [hxp]
        obtain ⟨hxl, x0, hxs, hxb⟩ := bys_at' HD0.out HE.out.bel hxp (j := i) (by omega)
        obtain ⟨N, hN⟩ : ∃ N : Nat, N = (l.item i).zs.length := ⟨_, rfl⟩
        have hxn : (l.item i).n = N := by rw [hN, BY.len]
        rw [hxn] at x0
        have hml := mdA_len l i
        by_cases h1k : N ≤ 1000
        · have h1k' : ¬ (1000 : Int) < (N : Int) := by omega
          obtain ⟨r0, hr0⟩ : ∃ r : Nat, r = i % 3 := ⟨_, rfl⟩
          obtain ⟨r1, hr1⟩ : ∃ r : Nat, r = (i + 1) % 3 := ⟨_, rfl⟩
          have hq0 : (i : Int).tmod 3 = (r0 : Int) := by rw [tmod3, hr0]
          have hq0' : (i : Int) % 3 = (r0 : Int) := by rw [hr0]; omega
          have hq1 : ((i : Int) + 1).tmod 3 = (r1 : Int) := by have := tmod3 (i + 1); rw [hr1]; push_cast at this ⊢; exact this
          have hq1' : ((i : Int) + 1) % 3 = (r1 : Int) := by rw [hr1]; omega
          have HS := hid (send_en HE.out (r0 : Int) (r1 : Int) _ _ _ hxs hxb 0 (by unfold sendE; rw [if_neg (by omega), if_neg (by omega), if_neg (by omega)]))
          have HL : Hid (mdA l i ++ [⟨(r0 : Int), (r1 : Int), (l.item i).zs⟩] = mdA l (i + 1)) := by
            show _ = _
            rw [mdA_succ, mdO, if_neg (by omega), hr0, hr1]
          rw [← hN] at HS
          rw [HL.out] at HS
          have hr3 : (r0 : Int) ≤ 2 := by omega
          have hr4 : (r1 : Int) ≤ 2 := by omega
          clear hxs hxb hN hxn hr0 hr1 hml
          go_wp2_with fail
          refine HS.out.mono ?_
          rintro e w4 ⟨rfl, hq, _⟩
          have HE4 := hid (hq (by first | rfl | trivial))
          clear hq HS x0
          go_wp2
          go_roundw
          case rel => exact ⟨i + 1, by go_num, by omega, HE4.out⟩
          case measure => simp [intOf]; omega
        · have h1k' : (1000 : Int) < (N : Int) := by omega
          have HL : Hid (En w.heap.size w wr b 3 (mdA l (i + 1))) := by
            show En _ _ _ _ _ _
            rw [mdA_succ, mdO, if_pos (by omega), List.append_nil]
            exact HE.out
          clear hxs hxb hN hxn hml
          go_wp2
          all_goals exact ⟨⟨i + 1, by go_num, by omega, HL.out⟩, by simp [intOf]; omega⟩
end Go.Proofs.Ytoefbcagokgfcaa
