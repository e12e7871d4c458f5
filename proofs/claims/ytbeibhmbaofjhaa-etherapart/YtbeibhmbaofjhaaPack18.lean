import Derived.Test.YtbeibhmbaofjhaaPack17
import Derived.Test.YtbeibhmbaofjhaaPack4
namespace Go.Proofs.Ytbeibhmbaofjhaa
open Go.RowKit
set_option maxRecDepth 8000
/-- the blocks below B -/
def Lo (B : Nat) (k : Nat) : Prop := k < B
theorem Fr.lo {B : Nat} {w w' : World} (h : Fr (Lo B) w w') (hB : B ≤ w.heap.size) : Below B w w' := But.below h hB fun _ hk e => e hk
theorem src_row (w : World) (x : Int) : Src (w.alloc (.cells #[.int .u8 x] 5)) (some ⟨w.heap.size, 0, none⟩) [x].length 1 1 ([x].map (.int .u8)) := by
  refine .inr ⟨_, rfl, rfl, fun j u hu => ?_⟩
  rw [cell_new, ← hu]
  simp
set_option maxHeartbeats 4000000 in
/-- works -/
theorem works_any (w : World) : Calls Try.prog 4 #[] w fun e w' => e = .returned (.bool true) ∧ Below w.heap.size w w' := by
  have HN := hid (new_any 2 w)
  go_enter Try.func4, Try.ntmps4
  go_wp2_with fail
  refine HN.out.mono ?_
  intro e w1 hq
  obtain ⟨rfl, hs1, hb1, hE⟩ := hq.2 (by omega)
  have hE1 := hE (Lo w.heap.size) (fun k hk => hk)
  obtain ⟨V, hV⟩ : ∃ V, V = w1.alloc (.cells #[.int .u8 5] 5) := ⟨_, rfl⟩
  have hBV : Below w1.heap.size w1 V := by rw [hV]; exact (Below.refl _ _).alloc (Nat.le_refl _) _
  have hEV : EtA V (Lo w.heap.size) w.heap.size 2 [] := hE1.below hBV (fun _ _ h => h)
  have hsr := src_row w1 5
  rw [← hV] at hsr
  have HS := hid (send_any V (Lo w.heap.size) w.heap.size 2 [] hEV (fun k hk => by have hk' : k < w.heap.size := hk; have := hBV.size; omega) 0 1 _ _ [5] hsr (fun z hz => by simp at hz; omega))
  have HV := hid hV
  have HWV := hid (hb1.trans (hBV.mono hb1.size))
  clear hq hE hE1 hBV hEV hsr hV hb1 HN
  go_wp2_with fail
  rw [← HV.out]
  refine HS.out.mono ?_
  rintro e w2 ⟨he, hE2, _, hF2⟩
  obtain rfl : e = .returned (.int .i64 0) := he
  have hE2 := hE2 rfl
  have hB2 : Below w.heap.size w w2 := HWV.out.trans (hF2.lo HWV.out.size)
  have HD := hid (deliver_any w2 (Lo w.heap.size) w.heap.size 2 _ hE2 (fun k hk => by have hk' : k < w.heap.size := hk; have := hB2.size; omega) 0)
  have HB2 := hid hB2
  clear hE2 hF2 hB2 HS HWV
  go_wp2_with fail
  refine HD.out.mono ?_
  intro e w3 hq
  obtain ⟨a, d, ha, rfl, hd, hbx, _, hF⟩ := hq.2 (by unfold inA; simp)
  obtain rfl : a = ⟨0, 1, [5]⟩ := by simpa using ha.symm
  have y0 := hbx.cell 0
  simp [bys] at y0
  have yl := hbx.lt
  have HB3 : Hid (Below w.heap.size w w3) := HB2.out.trans (hF.lo HB2.out.size)
  clear hq ha hbx hF HD
  have HB4 : Hid (Below w.heap.size w (w3.alloc (.cells #[.int .i64 0, .int .i64 1, .slice (some ⟨d, 0, none⟩) 1 1] 53))) := HB3.out.alloc HB3.out.size _
  go_wp2
  exact bodyPost_ret (v := .bool true) (by simp [results, Try.results4, go_sem]) rfl ⟨rfl, HB4.out⟩
/-- n in 0 .. k-1 -/
def modE (n : Int) (k : Int) : Int := n.tmod k % k
theorem modE_in {n k : Int} (hk : 1 ≤ k) : 0 ≤ modE n k ∧ modE n k < k := ⟨Int.emod_nonneg _ (by omega), Int.emod_lt_of_pos _ (by omega)⟩
theorem modE_id {n k : Int} (h0 : 0 ≤ n) (h1 : n < k) : modE n k = n := by
  unfold modE
  rw [Int.tmod_eq_emod_of_nonneg h0, Int.emod_eq_of_lt h0 h1, Int.emod_eq_of_lt h0 h1]
set_option maxHeartbeats 4000000 in
/-- mod -/
theorem mod_any (n k : Int) (w : World) (hk : 1 ≤ k) (hk2 : k ≤ 4611686018427387904) :
    Calls Try.prog 12 #[.int .i64 n, .int .i64 k] w fun e w' => e = .returned (.int .i64 (modE n k)) ∧ w' = w := by
  have h1 : ¬ k < 1 := by omega
  have h0 : ¬ k = 0 := by omega
  have h2 := Int.lt_tmod_of_pos n (show (0 : Int) < k by omega)
  have h3 := Int.tmod_lt_of_pos n (show (0 : Int) < k by omega)
  obtain ⟨a, ha⟩ : ∃ a, a = n.tmod k := ⟨_, rfl⟩
  have h4 := Int.lt_tmod_of_pos (a + k) (show (0 : Int) < k by omega)
  have h5 := Int.tmod_lt_of_pos (a + k) (show (0 : Int) < k by omega)
  rw [← ha] at h2 h3
  go_enter Try.func12, Try.ntmps12
  go_wp2
  exact bodyPost_ret (v := .int .i64 (n.tmod k % k)) (by simp [results, Try.results12, go_sem]) rfl ⟨rfl, rfl⟩
set_option maxHeartbeats 4000000 in
theorem mod0_any (n : Int) (w : World) :
    Calls Try.prog 12 #[.int .i64 n, .int .i64 0] w fun e w' => e = .returned (.int .i64 0) ∧ w' = w := by
  go_enter Try.func12, Try.ntmps12
  go_wp2
  exact bodyPost_ret (v := .int .i64 0) (by simp [results, Try.results12, go_sem]) rfl ⟨rfl, rfl⟩
end Go.Proofs.Ytbeibhmbaofjhaa

namespace Go.Proofs.Ytbeibhmbaofjhaa
open Go.RowKit
set_option maxRecDepth 8000
/-- a network beside all that lay below B -/
structure En (B : Nat) (W w : World) (b : Nat) (m : Int) (A : List FA) : Prop where
  et : EtA w (Lo B) b m A
  bel : Below B W w
  sz : B ≤ W.heap.size
theorem En.lo {B : Nat} {W w : World} {b : Nat} {m : Int} {A : List FA} (h : En B W w b m A) : ∀ k, Lo B k → k < w.heap.size := fun k hk => by
  have h1 : k < B := hk
  have := h.sz
  have := h.bel.size
  omega
theorem En.below {B : Nat} {W w w' : World} {b : Nat} {m : Int} {A : List FA} (h : En B W w b m A) (hb : Below w.heap.size w w') : En B W w' b m A :=
  ⟨h.et.below hb (fun _ _ h => h), h.bel.trans (hb.mono (by have := h.sz; have := h.bel.size; omega)), h.sz⟩
theorem En.fr {B : Nat} {W w w' : World} {b : Nat} {m : Int} {A A' : List FA} (h : En B W w b m A) (hb : Fr (Lo B) w w') (hE : EtA w' (Lo B) b m A') : En B W w' b m A' :=
  ⟨hE, h.bel.trans (hb.lo (by have := h.sz; have := h.bel.size; omega)), h.sz⟩
/-- Send in one word -/
theorem send_en {B : Nat} {W w : World} {b : Nat} {m : Int} {A : List FA} (h : En B W w b m A) (fr tt : Int) (p : Option Addr) (c : Nat) (zs : List Int) (hs : Src w p zs.length c 1 (zs.map (.int .u8))) (hby : ∀ z ∈ zs, 0 ≤ z ∧ z < 256) (x : Int) (hx : sendE m fr tt zs.length A.length = x) :
    Calls Try.prog 16 #[.pointer (some ⟨b, 0, none⟩), .int .i64 fr, .int .i64 tt, .slice p zs.length c] w fun e w' => e = .returned (.int .i64 x) ∧ (x = 0 → En B W w' b m (A ++ [⟨fr, tt, zs⟩])) ∧ (x ≠ 0 → En B W w' b m A) := by
  subst hx
  refine (send_any w (Lo B) b m A h.et h.lo fr tt p c zs hs hby).mono ?_
  rintro e w' ⟨rfl, h1, h2, h3⟩
  exact ⟨rfl, fun h0 => h.fr h3 (h1 h0), fun h0 => h.fr h3 (h2 h0)⟩
theorem copy_en {B : Nat} {W w : World} {b : Nat} {m : Int} {A : List FA} (h : En B W w b m A) (i : Int) (x : Int) (hx : copyE i A.length = x) :
    Calls Try.prog 6 #[.pointer (some ⟨b, 0, none⟩), .int .i64 i] w fun e w' => e = .returned (.int .i64 x) ∧ (x = 0 → ∃ a, A[i.toNat]? = some a ∧ En B W w' b m (A ++ [a])) ∧ (x ≠ 0 → En B W w' b m A) := by
  subst hx
  refine (copy_any w (Lo B) b m A h.et h.lo i).mono ?_
  rintro e w' ⟨rfl, h1, h2, h3⟩
  exact ⟨rfl, fun h0 => by
    obtain ⟨a, ha, hE⟩ := h1 h0
    exact ⟨a, ha, h.fr h3 hE⟩, fun h0 => h.fr h3 (h2 h0)⟩
theorem list_en {B : Nat} {W w : World} {b : Nat} {m : Int} {A : List FA} (h : En B W w b m A) :
    Calls Try.prog 8 #[.pointer (some ⟨b, 0, none⟩)] w fun e w' => ∃ (g : Nat) (U : List FL), e = .returned (.slice (some ⟨g, 0, none⟩) A.length A.length) ∧ U.map FL.a = A ∧ LsI w' w.heap.size g U ∧ Below w.heap.size w w' ∧ En B W w' b m A := by
  refine (list_any w (Lo B) b m A h.et).mono ?_
  rintro e w' ⟨g, U, rfl, h1, h2, h3⟩
  exact ⟨g, U, rfl, h1, h2, h3, h.below h3⟩
theorem deliver_en {B : Nat} {W w : World} {b : Nat} {m : Int} {A : List FA} (h : En B W w b m A) (i : Int) (hi : inA i A.length) :
    Calls Try.prog 13 #[.pointer (some ⟨b, 0, none⟩), .int .i64 i] w fun e w' => ∃ (a : FA) (d : Nat), A[i.toNat]? = some a ∧ e = .returned (.tuple #[.agg #[.int .i64 a.fr, .int .i64 a.tt, .slice (some ⟨d, 0, none⟩) a.zs.length a.zs.length], .bool true]) ∧ w.heap.size ≤ d ∧ Box w' d (bys a.zs) 5 ∧ En B W w' b m (A.eraseIdx i.toNat) := by
  refine (deliver_any w (Lo B) b m A h.et h.lo i).mono ?_
  intro e w' hq
  obtain ⟨a, d, ha, rfl, hd, hb, hE, hF⟩ := hq.2 hi
  exact ⟨a, d, ha, rfl, hd, hb, h.fr hF (hE.z fun k _ hk => .inl hk)⟩
theorem deliver_no {B : Nat} {W w : World} {b : Nat} {m : Int} {A : List FA} (h : En B W w b m A) (i : Int) (hi : ¬ inA i A.length) :
    Calls Try.prog 13 #[.pointer (some ⟨b, 0, none⟩), .int .i64 i] w fun e w' => e = .returned (.tuple #[.agg #[.int .i64 0, .int .i64 0, .slice none 0 0], .bool false]) ∧ En B W w' b m A := by
  refine (deliver_any w (Lo B) b m A h.et h.lo i).mono ?_
  intro e w' hq
  obtain ⟨rfl, hE, hF⟩ := hq.1 hi
  exact ⟨rfl, h.fr hF hE⟩
theorem new_en {B : Nat} {W w : World} (m : Int) (hb : Below B W w) (hB : B ≤ W.heap.size) (hm : 1 ≤ m ∧ m ≤ 8) :
    Calls Try.prog 15 #[.int .i64 m] w fun e w' => e = .returned (.tuple #[.pointer (some ⟨w.heap.size, 0, none⟩), .int .i64 0]) ∧ En B W w' w.heap.size m [] := by
  refine (new_any m w).mono ?_
  intro e w' hq
  obtain ⟨rfl, hs, hb', hE⟩ := hq.2 (by omega)
  have := hb.size
  exact ⟨rfl, hE _ (fun k hk => by have h1 : k < B := hk; omega), hb.trans (hb'.mono (by omega)), hB⟩
theorem src_nil (w : World) : Src w none ([] : List Int).length 0 1 (([] : List Int).map (.int .u8)) := .inl ⟨rfl, rfl, rfl, rfl⟩
theorem flat_cell {w : World} {base g : Nat} {U : List FL} (h : LsI w base g U) {j : Nat} {x : FL} (hx : U[j]? = some x) : w.cell? ⟨g, j * 3, none⟩ = some (.int .i64 x.fr) ∧ w.cell? ⟨g, j * 3 + 1, none⟩ = some (.int .i64 x.tt) ∧ w.cell? ⟨g, j * 3 + 2, none⟩ = some (.slice (some ⟨x.d, 0, none⟩) x.zs.length x.zs.length) := by
  have k : ∀ r u, r < 3 → x.cells[r]? = some u → w.cell? ⟨g, j * 3 + r, none⟩ = some u := by
    intro r u hr hu
    rw [h.bx.cell]
    simp only [List.getElem?_toArray]
    rw [flat3 U j r x hx hr]
    exact hu
  exact ⟨k 0 _ (by omega) rfl, k 1 _ (by omega) rfl, k 2 _ (by omega) rfl⟩
end Go.Proofs.Ytbeibhmbaofjhaa

namespace Go.Proofs.Ytbeibhmbaofjhaa
open Go.RowKit
set_option maxRecDepth 8000
/-- bytes with their address -/
structure BY where
  p : Option Addr
  n : Nat
  c : Nat
  f : Nat → Int
def BY.zs (b : BY) : List Int := (List.range b.n).map b.f
theorem BY.len (b : BY) : b.zs.length = b.n := by simp [BY.zs]
def elBy : El BY where
  ty := 51
  size := 1
  cells := fun x => [.slice x.p x.n x.c]
  len := fun _ => rfl
  one := fun x u hu => by simp only [List.mem_singleton] at hu; subst hu; rfl
  In := fun w S x => Byts w S x.p x.n x.c x.f
  kept := fun h hs hb => h.kept hs hb
  mono := fun h hb => h.mono hb
def elBo : El Bool where
  ty := 4
  size := 1
  cells := fun x => [.bool x]
  len := fun _ => rfl
  one := fun x u hu => by simp only [List.mem_singleton] at hu; subst hu; rfl
  In := fun _ _ _ => True
  kept := fun h _ _ => h
  mono := fun h _ => h
/-- a step of a script -/
structure OU where
  kind : Int
  which : Int
  a : Int
  b : Int
  y : BY
/-- bytes as what is appended, and their size -/
theorem BY.src {w : World} {S : Nat → Prop} {x : BY} (h : Byts w S x.p x.n x.c x.f) : Src w x.p x.zs.length x.c 1 (x.zs.map (.int .u8)) := by
  rw [BY.len]
  have := h.src
  simpa [BY.zs, List.map_map, Function.comp_def] using this
theorem BY.by_ {w : World} {S : Nat → Prop} {x : BY} (h : Byts w S x.p x.n x.c x.f) : ∀ z ∈ x.zs, 0 ≤ z ∧ z < 256 := by
  intro z hz
  obtain ⟨j, hj, rfl⟩ := List.mem_map.1 hz
  exact h.fit j (List.mem_range.1 hj)
end Go.Proofs.Ytbeibhmbaofjhaa
