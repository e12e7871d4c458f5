import Derived.Test.YtfonicphdejdlaaGreatPack32
import Derived.Test.YtfonicphdejdlaaGreatPack0
namespace Go.Proofs.YtfonicphdejdlaaGreat
open Go.ChangeShapes Go.WideShapes Go.ChangeAt Go.RowKit
set_option maxRecDepth 8000
theorem cellsU8 : Tryz.prog.cellsOf 5 = 1 := by kernel_rfl
theorem bytesU8 : Tryz.prog.bytesOf 5 = 1 := by kernel_rfl
/-- WHAT BYTES THAT CAME IN ARE -/
theorem open_byts {H : Type} {enc : TypeId × Value → H} {W : World} {base : Nat} {v : Value} {d : DataW H} {p : List MemPlace}
    (hv : Value.okWide Tryz.prog W .any base 49 v) (hd : DataW.Trod enc Tryz.prog W 0 (fun _ => true) true 49 v d p) (hw : ∀ n ∈ d.weights Tryz.prog 49, n ≤ reachBytes) :
    ∃ n p c f, v = .slice p n c ∧ n ≤ 140737488351232 ∧ Byts W (fun b => b < W.heap.size) p n c f := by
  obtain ⟨a0, len0, cap0, rfl⟩ := okWide_slice Tryz.underlying49 hv
  obtain ⟨fuel, g3⟩ := hd
  rcases DataW.trod_slice Tryz.underlying49 g3 with ⟨hc, _⟩ | ⟨a, len, cap, elems, rest, m, hm, hc, hx, hb, hl, hcm, hel, hcell, hsp, _⟩
  · simp [Value.cells] at hc
    obtain ⟨rfl, rfl, rfl⟩ := hc
    exact ⟨0, none, 0, fun _ => 0, rfl, by omega, fun h => absurd h (by omega), Nat.le_refl 0, by omega, Nat.zero_le _, fun j hj => absurd hj (by omega), fun _ => ⟨rfl, rfl⟩⟩
  · have hrest : rest.length = cap - len := (hsp rfl).1
    have hwi := hw
    simp only [Prod.mk.injEq] at hx
    rw [hx.1] at hwi
    simp [Value.cells] at hc
    obtain ⟨rfl, rfl, rfl⟩ := hc
    simp only [DataW.weights, Tryz.underlying49, List.mem_cons, List.mem_append, List.length_map] at hwi
    have hcb : cap0 * 1 ≤ reachBytes := by
      have := hwi _ (.inl rfl)
      rw [bytesU8] at this
      rw [hel, hrest, show len0 + (cap0 - len0) = cap0 by omega] at this
      exact this
    unfold reachBytes at hcb
    have each : ∀ j, j < len0 → ∃ t : Int, W.cell? (a.add j) = some (.int .u8 t) ∧ 0 ≤ t ∧ t < 256 := by
      intro j hj
      have h1 := hcell j hj
      have hje : j < elems.length := by omega
      rw [List.getElem?_eq_getElem hje, cellsU8] at h1
      obtain ⟨cs', hcs, htr⟩ := Option.bind_eq_some_iff.1 h1
      obtain ⟨t, hk, _, wk⟩ := DataW.trod_int Tryz.underlying5 htr
      have bk := bounds_u8 wk
      subst hk
      obtain ⟨_, hln, hcc⟩ := World.cells?_some hcs
      refine ⟨t, ?_, by omega, by omega⟩
      have := hcc 0 (by omega)
      rw [Go.Deep.add_add, Nat.mul_one, Nat.add_zero] at this
      exact this
    obtain ⟨F, hF⟩ := Go.Deep.choose_lt each
    refine ⟨len0, some a, cap0, F, rfl, by omega, fun hp => ?_, hl, by omega, hcm, fun j hj => (hF j hj).2, fun h => by cases h⟩
    obtain ⟨b, o, spot⟩ := a
    have f0 := (hF 0 hp).1
    have hspot : spot = none := by simpa [Addr.add] using World.cell?_spot f0
    subst hspot
    have hbl : b < W.heap.size := by have := cell_lt f0; simpa [Addr.add] using this
    refine ⟨b, o, rfl, hbl, hbl, fun j hj => ?_⟩
    have q0 := (hF j hj).1
    rw [add_plain] at q0
    exact q0
end Go.Proofs.YtfonicphdejdlaaGreat
