import Derived.Test.YtehmifdgfgngdabDoorOpen
import Derived.Test.YtehmifdgfgngdabDoorLists
import Derived.Deep.Matrix
namespace Go.Proofs.YtehmifdgfgngdabDoor
open Go.ChangeShapes Go.WideShapes Go.ChangeAt Go.RowKit

theorem cellsB : Tryd.prog.cellsOf 24 = 1 := by kernel_rfl
theorem bytesB : Tryd.prog.bytesOf 24 = 24 := by kernel_rfl

theorem mem_weightsAll {H : Type} {P : Program} {e : TypeId} : ∀ {l : List (DataW H)} {d : DataW H} {n : Nat}, d ∈ l → n ∈ d.weights P e → n ∈ DataW.weightsAll P e l
  | [], _, _, h, _ => by cases h
  | x :: r, d, n, h, hn => by
    simp only [DataW.weightsAll, List.mem_append]
    rcases List.mem_cons.1 h with rfl | h
    · exact .inl hn
    · exact .inr (mem_weightsAll h hn)

theorem getD_map_range (f : Nat → List Int) (len i : Nat) (h : i < len) : ((List.range len).map f).getD i [] = f i := by
  rw [List.getD_eq_getElem?_getD]; simp [h]

theorem open_lists {H : Type} {enc : TypeId × Value → H} {W : World} {base : Nat} {v : Value} {d : DataW H} {p : List MemPlace}
    (hv : Value.okWide Tryd.prog W .any base 22 v) (hd : DataW.Trod enc Tryd.prog W 0 (fun _ => true) true 22 v d p)
    (hw : ∀ n ∈ d.weights Tryd.prog 22, n ≤ reachBytes) :
    ∃ a n c vs zss, v = .slice a n c ∧ zss.length = n ∧ LBytes W a vs zss ∧ (a = none → n = 0 ∧ c = 0) ∧ n ≤ c ∧ c ≤ 140737488355328 := by
  obtain ⟨a, len, cap, rfl⟩ := okWide_slice Tryd.underlying22 hv
  obtain ⟨fuel, hf⟩ := hd
  rcases Go.Deep.open_int_rows Tryd.underlying22 Tryd.underlying24 Tryd.underlying5 cellsB cells5 hf with ⟨hcs, _⟩ | ⟨x, l, c, A, L, C, Z, hcs, _, hl, hm, hx, hcell⟩
  · simp [Value.cells] at hcs
    obtain ⟨rfl, rfl, rfl⟩ := hcs
    exact ⟨none, 0, 0, fun _ => (none, 0), [], rfl, rfl, ⟨fun h => absurd h (by simp), fun i hi => absurd hi (by simp)⟩, fun _ => ⟨rfl, rfl⟩, Nat.le_refl _, by omega⟩
  · simp [Value.cells] at hcs
    obtain ⟨rfl, rfl, rfl⟩ := hcs
    simp only [Prod.mk.injEq] at hx
    obtain ⟨rfl, _⟩ := hx
    have hr : cap * 24 ≤ reachBytes := by
      refine Nat.le_trans ?_ (hw ((len + (cap - len)) * Tryd.prog.bytesOf 24) ?_)
      · rw [bytesB]; omega
      · simp [DataW.weights, Tryd.underlying22]
    have hin : ∀ r, r < len → ∀ a', A r = some a' → C r ≤ reachBytes := by
      intro r hr a' ha
      have h1 := hcell r (by omega)
      have h2 := hw (C r) ?_
      · exact h2
      · simp only [DataW.weights, Tryd.underlying22, List.mem_cons, List.mem_append]
        refine .inr (.inl (mem_weightsAll (d := Go.Deep.intRow .u8 (A r) (L r) (Z r)) (List.mem_map.2 ⟨r, List.mem_range.2 hr, rfl⟩) ?_))
        rw [ha]
        simp only [Go.Deep.intRow, DataW.weights, Tryd.underlying24, List.mem_cons]
        left
        rw [bytes5]
        simp only [lits, List.length_map, List.length_take, List.length_drop]
        omega
    have hlen : ∀ r, r < len → ((Z r).take (L r)).length = L r := by
      intro r hr
      have h1 := hcell r (by omega)
      rw [List.length_take, h1.2.2.2.1]; omega
    unfold reachBytes at hr hin
    refine ⟨some x, len, cap, fun r => (A r, C r), (List.range len).map (fun r => (Z r).take (L r)), rfl, by simp, ⟨fun hp => ?_, fun i hi => ?_⟩, (fun h => by cases h), hl, by omega⟩
    · have hlp : 0 < len := by simpa using hp
      have h0 := (hcell 0 (by omega)).1
      obtain ⟨b, o, spot⟩ := x
      have hspot : spot = none := by simpa [Addr.add] using World.cell?_spot h0
      subst hspot
      refine ⟨b, o, rfl, ?_, fun i hi => ?_⟩
      · have := cell_lt h0
        simpa [Addr.add] using this
      · have hi' : i < len := by simpa using hi
        have h1 := hcell i (by omega)
        rw [add_plain] at h1
        rw [getD_map_range _ len i hi', hlen i hi']
        exact h1.1
    · have hi' : i < len := by simpa using hi
      have h1 := hcell i (by omega)
      rw [getD_map_range _ len i hi', hlen i hi']
      have hwf : ∀ z ∈ (Z i).take (L i), 0 ≤ z ∧ z < 256 := fun z hz => by have := bounds_u8 (h1.2.2.2.2.1 z (List.mem_of_mem_take hz)); omega
      cases hA : A i with
      | none =>
        have hc0 := h1.2.2.2.2.2.1 hA
        have hl0 : L i = 0 := by omega
        refine ⟨⟨fun hp => absurd hp (by rw [hlen i hi', hl0]; omega), hwf⟩, fun _ => ⟨hl0, hc0⟩, h1.2.1, by omega⟩
      | some a' =>
        have hcr := hin i hi' a' hA
        refine ⟨⟨fun hp => ?_, hwf⟩, (fun h => by cases h), h1.2.1, by omega⟩
        rw [hlen i hi'] at hp
        have hcc := (h1.2.2.2.2.2.2 a' hA).2
        have h0 := hcc 0 (by omega)
        obtain ⟨b, o, spot⟩ := a'
        have hspot : spot = none := by simpa [Addr.add] using World.cell?_spot h0
        subst hspot
        refine ⟨b, o, rfl, ?_, fun j hj => ?_⟩
        · have := cell_lt h0
          simpa [Addr.add] using this
        · have hj' : j < L i := by rw [hlen i hi'] at hj; exact hj
          have h2 := hcc j (by omega)
          rw [add_plain] at h2
          rw [h2]
          simp [List.getD_eq_getElem?_getD, hj']
end Go.Proofs.YtehmifdgfgngdabDoor
