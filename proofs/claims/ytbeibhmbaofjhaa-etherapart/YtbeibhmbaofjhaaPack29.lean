import Derived.Test.YtbeibhmbaofjhaaPack18
import Derived.ProofKit
import Derived.OpenShut
import Derived.ChangeOld
import Derived.SizedLaws
import Derived.Deep.DeepHandedRow
import Derived.Deep.Strs
import Derived.Lib.LaidTab
import Derived.Test.YtbeibhmbaofjhaaPack27
namespace Go.Proofs.Ytbeibhmbaofjhaa
open Go.ChangeShapes Go.WideShapes Go.ChangeAt Go.RowKit
set_option maxRecDepth 8000

theorem own : ownKnob Try.prog.godebug = none := by kernel_rfl
theorem laidOut : laidOutB Try.prog = true := by kernel_rfl
theorem cell_lt {w : World} {a : Addr} {v : Value} (h : w.cell? a = some v) : a.block < w.heap.size := by
  rcases Nat.lt_or_ge a.block w.heap.size with h1 | h1
  · exact h1
  · simp [World.cell?, Array.getElem?_eq_none h1] at h
theorem cellsI3 : Try.prog.cellsOf 3 = 1 := by kernel_rfl
theorem cellsU8 : Try.prog.cellsOf 5 = 1 := by kernel_rfl
theorem bytesU8 : Try.prog.bytesOf 5 = 1 := by kernel_rfl
theorem cellsB : Try.prog.cellsOf 51 = 1 := by kernel_rfl
theorem bytesB : Try.prog.bytesOf 51 = 23 + 1 := by kernel_rfl
theorem cellsBo : Try.prog.cellsOf 4 = 1 := by kernel_rfl
theorem bytesBo : Try.prog.bytesOf 4 = 0 + 1 := by kernel_rfl
theorem mem_weightsAll {H : Type} {P : Program} {e : TypeId} : ∀ {l : List (DataW H)} {d : DataW H} {n : Nat}, d ∈ l → n ∈ d.weights P e → n ∈ DataW.weightsAll P e l
  | [], _, _, h, _ => by cases h
  | x :: r, d, n, h, hn => by
    simp only [DataW.weightsAll, List.mem_append]
    rcases List.mem_cons.1 h with rfl | h
    · exact .inl hn
    · exact .inr (mem_weightsAll h hn)

/-- what stands in a row, opened out of an argument -/
def Opens {α : Type} (E : El α) : Prop :=
  ∀ (H : Type) (enc : TypeId × Value → H) (W : World) (fuel : Nat) (cs : List Value) (y : DataW H × List MemPlace),
    DataW.trod enc Try.prog W 0 (fun _ => true) true fuel E.ty cs = some y → (∀ n ∈ y.1.weights Try.prog E.ty, n ≤ reachBytes) → ∃ t : α, cs = E.cells t ∧ E.In W (fun b => b < W.heap.size) t

/-- a list of what can be opened -/
theorem open_list {α : Type} (x0 : α) (E : El α) (ty : TypeId) (B : Nat) (hu : Try.prog.underlying ty = some (.slice E.ty)) (hcz : Try.prog.cellsOf E.ty = E.size) (hz : 0 < E.size) (hby : Try.prog.bytesOf E.ty = B + 1) (hO : Opens E)
    {H : Type} {enc : TypeId × Value → H} {W : World} (fuel : Nat) (cs : List Value) (y : DataW H × List MemPlace)
    (g : DataW.trod enc Try.prog W 0 (fun _ => true) true fuel ty cs = some y) (hw : ∀ n ∈ y.1.weights Try.prog ty, n ≤ reachBytes) :
    ∃ l : LT α, cs = [.slice l.p l.n l.c] ∧ LT.In E W (fun b => b < W.heap.size) l ∧ l.n * (B + 1) ≤ 140737488351232 := by
  rcases DataW.trod_slice hu g with ⟨hc, _⟩ | ⟨a, len, cap, elems, rest, m, hm, hc, hx, hb, hl, hcm, hel, hcell, hsp, _⟩
  · exact ⟨⟨none, 0, 0, fun _ => x0⟩, hc, LT.In.none_ E W _ none 0 _ (Nat.zero_le _) (fun _ => rfl), by simp⟩
  · have hrest : rest.length = cap - len := (hsp rfl).1
    rw [hx] at hw
    simp only [DataW.weights, hu, List.mem_cons, List.mem_append, List.length_map] at hw
    have hcb : cap * (B + 1) ≤ reachBytes := by
      have := hw _ (.inl rfl)
      rw [hby] at this
      rw [hel, hrest, show len + (cap - len) = cap by omega] at this
      exact this
    unfold reachBytes at hcb
    have hcl : cap ≤ cap * (B + 1) := Nat.le_mul_of_pos_right _ (Nat.succ_pos _)
    have each : ∀ j, j < len → ∃ t : α, (∀ r u, (E.cells t)[r]? = some u → W.cell? (a.add (j * E.size + r)) = some u) ∧ E.In W (fun b => b < W.heap.size) t := by
      intro j hj
      have h1 := hcell j hj
      have hje : j < elems.length := by omega
      rw [List.getElem?_eq_getElem hje, hcz] at h1
      obtain ⟨cs', hcs, htr⟩ := Option.bind_eq_some_iff.1 h1
      obtain ⟨t, rfl, hin⟩ := hO H enc W m cs' elems[j] htr (fun q hq => hw q (.inr (.inl (mem_weightsAll (d := elems[j].1) (List.mem_map.2 ⟨elems[j], List.getElem_mem hje, rfl⟩) hq))))
      obtain ⟨_, hln, hcc⟩ := World.cells?_some hcs
      refine ⟨t, fun r u hu => ?_, hin⟩
      have hr : r < E.size := by
        rcases Nat.lt_or_ge r E.size with h1 | h1
        · exact h1
        · rw [List.getElem?_eq_none (by rw [E.len]; exact h1)] at hu; cases hu
      have := hcc r hr
      rw [Go.Deep.add_add] at this
      exact this.trans hu
    have : Inhabited α := ⟨x0⟩
    obtain ⟨F, hF⟩ := Go.Deep.choose_lt each
    have hlb : len * (B + 1) ≤ cap * (B + 1) := Nat.mul_le_mul_right _ hl
    refine ⟨⟨some a, len, cap, F⟩, hc, ⟨fun hp => ?_, fun j hj => (hF j hj).2, hl, by show len ≤ 140737488355328; omega, hcm, fun h => by cases h⟩, by show len * (B + 1) ≤ _; omega⟩
    have hp' : 0 < len := hp
    obtain ⟨b, o, spot⟩ := a
    have l0 : 0 < (E.cells (F 0)).length := by rw [E.len]; exact hz
    have f0 := (hF 0 hp').1 0 _ (List.getElem?_eq_getElem l0)
    have hspot : spot = none := by simpa [Addr.add] using World.cell?_spot f0
    subst hspot
    have hbl : b < W.heap.size := by have := cell_lt f0; simpa [Addr.add] using this
    refine ⟨b, o, rfl, hbl, hbl, fun j hj r u hu => ?_⟩
    have q0 := (hF j hj).1 r u hu
    rw [add_plain] at q0
    rw [show o + j * E.size + r = o + (j * E.size + r) by omega]
    exact q0

theorem int_fit {H : Type} {fuel : Nat} {W : World} {enc : TypeId × Value → H} {cs : List Value} {y : DataW H × List MemPlace} (g : DataW.trod enc Try.prog W 0 (fun _ => true) true fuel 3 cs = some y) : ∃ k : Int, cs = [.int .i64 k] := by
  obtain ⟨k, hk, _, wk⟩ := DataW.trod_int Try.underlying3 g
  exact ⟨k, hk⟩
theorem bytes_fit {H : Type} {enc : TypeId × Value → H} {W : World} {fuel : Nat} {cs : List Value} {y : DataW H × List MemPlace}
    (g3 : DataW.trod enc Try.prog W 0 (fun _ => true) true fuel 51 cs = some y) (hw : ∀ n ∈ y.1.weights Try.prog 51, n ≤ reachBytes) :
    ∃ n p c f, cs = [.slice p n c] ∧ Byts W (fun b => b < W.heap.size) p n c f := by
  rcases DataW.trod_slice Try.underlying51 g3 with ⟨hc, _⟩ | ⟨a, len0, cap0, elems, rest, m, hm, hc, hx, hb, hl, hcm, hel, hcell, hsp, _⟩
  · exact ⟨0, none, 0, fun _ => 0, hc, fun h => absurd h (by omega), Nat.le_refl 0, by omega, Nat.zero_le _, fun j hj => absurd hj (by omega), fun _ => ⟨rfl, rfl⟩⟩
  · have hrest : rest.length = cap0 - len0 := (hsp rfl).1
    have hwi := hw
    rw [hx] at hwi
    simp only [DataW.weights, Try.underlying51, List.mem_cons, List.mem_append, List.length_map] at hwi
    have hcb : cap0 * 1 ≤ reachBytes := by
      have := hwi _ (.inl rfl)
      rw [bytesU8] at this
      rw [hel, hrest, show len0 + (cap0 - len0) = cap0 by omega] at this
      exact this
    unfold reachBytes at hcb
    have each : ∀ j, j < len0 → ∃ t : Int, W.cell? (a.add j) = some (.int .u8 t) ∧ 0 ≤ t ∧ t < 256 := by
      intro j hj
      have h1 := hcell j hj
      have hje : j < elems.length := by omega
      rw [List.getElem?_eq_getElem hje, cellsU8] at h1
      obtain ⟨cs', hcs, htr⟩ := Option.bind_eq_some_iff.1 h1
      obtain ⟨t, hk, _, wk⟩ := DataW.trod_int Try.underlying5 htr
      have bk := bounds_u8 wk
      subst hk
      obtain ⟨_, hln, hcc⟩ := World.cells?_some hcs
      refine ⟨t, ?_, by omega, by omega⟩
      have := hcc 0 (by omega)
      rw [Go.Deep.add_add, Nat.mul_one, Nat.add_zero] at this
      exact this
    obtain ⟨F, hF⟩ := Go.Deep.choose_lt each
    refine ⟨len0, some a, cap0, F, hc, fun hp => ?_, hl, by omega, hcm, fun j hj => (hF j hj).2, fun h => by cases h⟩
    obtain ⟨b, o, spot⟩ := a
    have f0 := (hF 0 hp).1
    have hspot : spot = none := by simpa [Addr.add] using World.cell?_spot f0
    subst hspot
    have hbl : b < W.heap.size := by have := cell_lt f0; simpa [Addr.add] using this
    refine ⟨b, o, rfl, hbl, hbl, fun j hj => ?_⟩
    have q0 := (hF j hj).1
    rw [add_plain] at q0
    exact q0
theorem opens_by : Opens elBy := fun H enc W fuel cs y g hw => by
  obtain ⟨n, p, c, f, hb, hI⟩ := bytes_fit g hw
  exact ⟨⟨p, n, c, f⟩, hb, hI⟩
theorem opens_bo : Opens elBo := fun H enc W fuel cs y g hw => by
  obtain ⟨b, hb, _⟩ := DataW.trod_bool Try.underlying4 g
  exact ⟨b, hb, trivial⟩
theorem open_bys {H : Type} {enc : TypeId × Value → H} {W : World} {base : Nat} {v : Value} {d : DataW H} {p : List MemPlace}
    (hv : Value.okWide Try.prog W .any base 22 v) (hd : DataW.Trod enc Try.prog W 0 (fun _ => true) true 22 v d p) (hw : ∀ n ∈ d.weights Try.prog 22, n ≤ reachBytes) :
    ∃ s : LT BY, v = .slice s.p s.n s.c ∧ LT.In elBy W (fun b => b < W.heap.size) s ∧ s.n * 24 ≤ 140737488351232 := by
  obtain ⟨a0, len0, cap0, rfl⟩ := okWide_slice Try.underlying22 hv
  obtain ⟨fuel, hf⟩ := hd
  obtain ⟨l, h1, h2, h3⟩ := open_list ⟨none, 0, 0, fun _ => 0⟩ elBy 22 23 Try.underlying22 cellsB (by decide) bytesB opens_by fuel _ (d, p) hf hw
  refine ⟨l, ?_, h2, h3⟩
  simpa [Value.cells] using h1
end Go.Proofs.Ytbeibhmbaofjhaa

namespace Go.Proofs.Ytbeibhmbaofjhaa
open Go.ChangeShapes Go.WideShapes Go.ChangeAt Go.RowKit
set_option maxRecDepth 8000
theorem opens_in : Opens elIn := fun H enc W fuel cs y g hw => by
  obtain ⟨k, hk⟩ := int_fit g
  exact ⟨k, hk, trivial⟩
theorem bytesI3u : Try.prog.bytesOf 3 = 7 + 1 := by kernel_rfl
theorem open_isU {H : Type} {enc : TypeId × Value → H} {W : World} {base : Nat} {v : Value} {d : DataW H} {p : List MemPlace}
    (hv : Value.okWide Try.prog W .any base 23 v) (hd : DataW.Trod enc Try.prog W 0 (fun _ => true) true 23 v d p) (hw : ∀ n ∈ d.weights Try.prog 23, n ≤ reachBytes) :
    ∃ s : LT Int, v = .slice s.p s.n s.c ∧ LT.In elIn W (fun b => b < W.heap.size) s ∧ s.n * 8 ≤ 140737488351232 := by
  obtain ⟨a0, len0, cap0, rfl⟩ := okWide_slice Try.underlying23 hv
  obtain ⟨fuel, hf⟩ := hd
  obtain ⟨l, h1, h2, h3⟩ := open_list 0 elIn 23 7 Try.underlying23 cellsI3 (by decide) bytesI3u opens_in fuel _ (d, p) hf hw
  refine ⟨l, ?_, h2, h3⟩
  simpa [Value.cells] using h1
end Go.Proofs.Ytbeibhmbaofjhaa
