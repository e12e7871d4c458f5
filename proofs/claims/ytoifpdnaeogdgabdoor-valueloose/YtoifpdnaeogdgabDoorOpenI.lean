import Derived.Test.YtoifpdnaeogdgabDoorPack6
import Derived.Test.YtoifpdnaeogdgabDoorPack3
namespace Go.Proofs.YtoifpdnaeogdgabDoor
open Go.ChangeShapes Go.WideShapes Go.ChangeAt Go.RowKit
set_option maxRecDepth 8000
theorem bytesI3 : Tryd.prog.bytesOf 3 = 8 := by kernel_rfl
theorem open_ints {H : Type} {enc : TypeId × Value → H} {W : World} (fuel : Nat) (cs : List Value) (y3 : DataW H × List MemPlace)
    (g3 : DataW.trod enc Tryd.prog W 0 (fun _ => true) true fuel 25 cs = some y3) (hwi : ∀ n ∈ y3.1.weights Tryd.prog 25, n ≤ reachBytes) :
    ∃ n p c f, cs = [.slice p n c] ∧ Ints W (fun b => b < W.heap.size) p n c f := by
  rcases DataW.trod_slice Tryd.underlying25 g3 with ⟨hc, _⟩ | ⟨a, len, cap, elems, rest, m, hm, hc, hx, hb, hl, hcm, hel, hcell, hsp, _⟩
  · exact ⟨0, none, 0, fun _ => 0, hc, fun h => absurd h (by omega), Nat.le_refl 0, by omega, Nat.zero_le _, fun j hj => absurd hj (by omega), fun _ => ⟨rfl, rfl⟩⟩
  · have hrest : rest.length = cap - len := (hsp rfl).1
    rw [hx] at hwi
    simp only [DataW.weights, Tryd.underlying25, List.mem_cons, List.mem_append, List.length_map] at hwi
    have hcb : cap * 8 ≤ reachBytes := by
      have := hwi _ (.inl rfl)
      rw [bytesI3] at this
      rw [hel, hrest, show len + (cap - len) = cap by omega] at this
      exact this
    unfold reachBytes at hcb
    have each : ∀ j, j < len → ∃ t : Int, W.cell? (a.add j) = some (.int .i64 t) ∧ -9223372036854775808 ≤ t ∧ t ≤ 9223372036854775807 := by
      intro j hj
      have h1 := hcell j hj
      have hje : j < elems.length := by omega
      rw [List.getElem?_eq_getElem hje, cellsI3] at h1
      obtain ⟨cs', hcs, htr⟩ := Option.bind_eq_some_iff.1 h1
      obtain ⟨t, hk, _, wk⟩ := DataW.trod_int Tryd.underlying3 htr
      have bk := bounds_i64 wk
      subst hk
      obtain ⟨_, hln, hcc⟩ := World.cells?_some hcs
      refine ⟨t, ?_, bk.1, bk.2⟩
      have := hcc 0 (by omega)
      rw [Go.Deep.add_add, Nat.mul_one, Nat.add_zero] at this
      exact this
    obtain ⟨F, hF⟩ := Go.Deep.choose_lt each
    refine ⟨len, some a, cap, F, hc, fun hp => ?_, hl, by omega, hcm, fun j hj => (hF j hj).2, fun h => by cases h⟩
    obtain ⟨b, o, spot⟩ := a
    have f0 := (hF 0 hp).1
    have hspot : spot = none := by simpa [Addr.add] using World.cell?_spot f0
    subst hspot
    have hbl : b < W.heap.size := by have := cell_lt f0; simpa [Addr.add] using this
    refine ⟨b, o, rfl, hbl, hbl, fun j hj => ?_⟩
    have q0 := (hF j hj).1
    rw [add_plain] at q0
    exact q0
/-- WHAT A LIST OF NUMBERS THAT CAME IN IS -/
theorem open_intsP {H : Type} {enc : TypeId × Value → H} {W : World} {base : Nat} {v : Value} {d : DataW H} {p : List MemPlace}
    (hv : Value.okWide Tryd.prog W .any base 25 v) (hd : DataW.Trod enc Tryd.prog W 0 (fun _ => true) true 25 v d p) (hw : ∀ n ∈ d.weights Tryd.prog 25, n ≤ reachBytes) :
    ∃ n p c f, v = .slice p n c ∧ Ints W (fun b => b < W.heap.size) p n c f := by
  obtain ⟨a0, len0, cap0, rfl⟩ := okWide_slice Tryd.underlying25 hv
  obtain ⟨fuel, g3⟩ := hd
  obtain ⟨n, p, c, f, hc, hI⟩ := open_ints fuel _ _ g3 hw
  simp [Value.cells] at hc
  obtain ⟨rfl, rfl, rfl⟩ := hc
  exact ⟨_, _, _, f, rfl, hI⟩
end Go.Proofs.YtoifpdnaeogdgabDoor
