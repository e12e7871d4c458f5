import Derived.Test.YtpldokahoamdpaaPack43
import Derived.Test.YtpldokahoamdpaaPack17
namespace Go.Proofs.Ytpldokahoamdpaa
open Go.ChangeShapes Go.WideShapes Go.ChangeAt Go.RowKit
set_option maxRecDepth 8000
/-- what stands in a row, opened out of an argument -/
def Opens {α : Type} (E : El α) : Prop :=
  ∀ (H : Type) (enc : TypeId × Value → H) (W : World) (fuel : Nat) (cs : List Value) (y : DataW H × List MemPlace),
    DataW.trod enc Try.prog W 0 (fun _ => true) true fuel E.ty cs = some y → (∀ n ∈ y.1.weights Try.prog E.ty, n ≤ reachBytes) → ∃ t : α, cs = E.cells t ∧ E.In W (fun b => b < W.heap.size) t

/-- a list of what can be opened -/
theorem open_list {α : Type} (x0 : α) (E : El α) (ty : TypeId) (B : Nat) (hu : Try.prog.underlying ty = some (.slice E.ty)) (hcz : Try.prog.cellsOf E.ty = E.size) (hz : 0 < E.size) (hby : Try.prog.bytesOf E.ty = B + 1) (hO : Opens E)
    {H : Type} {enc : TypeId × Value → H} {W : World} (fuel : Nat) (cs : List Value) (y : DataW H × List MemPlace)
    (g : DataW.trod enc Try.prog W 0 (fun _ => true) true fuel ty cs = some y) (hw : ∀ n ∈ y.1.weights Try.prog ty, n ≤ reachBytes) :
    ∃ l : LT α, cs = [.slice l.p l.n l.c] ∧ LT.In E W (fun b => b < W.heap.size) l := by
  rcases DataW.trod_slice hu g with ⟨hc, _⟩ | ⟨a, len, cap, elems, rest, m, hm, hc, hx, hb, hl, hcm, hel, hcell, hsp, _⟩
  · exact ⟨⟨none, 0, 0, fun _ => x0⟩, hc, LT.In.none_ E W _ none 0 _ (Nat.zero_le _) (fun _ => rfl)⟩
  · have hrest : rest.length = cap - len := (hsp rfl).1
    rw [hx] at hw
    simp only [DataW.weights, hu, List.mem_cons, List.mem_append, List.length_map] at hw
    have hcb : cap * (B + 1) ≤ reachBytes := by
      have := hw _ (.inl rfl)
      rw [hby] at this
      rw [hel, hrest, show len + (cap - len) = cap by omega] at this
      exact this
    unfold reachBytes at hcb
    have hcl : cap ≤ cap * (B + 1) := Nat.le_mul_of_pos_right _ (Nat.succ_pos _)
    have each : ∀ j, j < len → ∃ t : α, (∀ r u, (E.cells t)[r]? = some u → W.cell? (a.add (j * E.size + r)) = some u) ∧ E.In W (fun b => b < W.heap.size) t := by
      intro j hj
      have h1 := hcell j hj
      have hje : j < elems.length := by omega
      rw [List.getElem?_eq_getElem hje, hcz] at h1
      obtain ⟨cs', hcs, htr⟩ := Option.bind_eq_some_iff.1 h1
      obtain ⟨t, rfl, hin⟩ := hO H enc W m cs' elems[j] htr (fun q hq => hw q (.inr (.inl (mem_weightsAll (d := elems[j].1) (List.mem_map.2 ⟨elems[j], List.getElem_mem hje, rfl⟩) hq))))
      obtain ⟨_, hln, hcc⟩ := World.cells?_some hcs
      refine ⟨t, fun r u hu => ?_, hin⟩
      have hr : r < E.size := by
        rcases Nat.lt_or_ge r E.size with h1 | h1
        · exact h1
        · rw [List.getElem?_eq_none (by rw [E.len]; exact h1)] at hu; cases hu
      have := hcc r hr
      rw [Go.Deep.add_add] at this
      exact this.trans hu
    have : Inhabited α := ⟨x0⟩
    obtain ⟨F, hF⟩ := Go.Deep.choose_lt each
    refine ⟨⟨some a, len, cap, F⟩, hc, fun hp => ?_, fun j hj => (hF j hj).2, hl, by show len ≤ 140737488355328; omega, hcm, fun h => by cases h⟩
    have hp' : 0 < len := hp
    obtain ⟨b, o, spot⟩ := a
    have l0 : 0 < (E.cells (F 0)).length := by rw [E.len]; exact hz
    have f0 := (hF 0 hp').1 0 _ (List.getElem?_eq_getElem l0)
    have hspot : spot = none := by simpa [Addr.add] using World.cell?_spot f0
    subst hspot
    have hbl : b < W.heap.size := by have := cell_lt f0; simpa [Addr.add] using this
    refine ⟨b, o, rfl, hbl, hbl, fun j hj r u hu => ?_⟩
    have q0 := (hF j hj).1 r u hu
    rw [add_plain] at q0
    rw [show o + j * E.size + r = o + (j * E.size + r) by omega]
    exact q0

theorem opens_rec : Opens elRec := by
  intro H enc W fuel cs y g hw
  obtain ⟨t, ht, hi⟩ := open_rec (v := .agg cs.toArray) (d := y.1) (p := y.2) ⟨fuel, g⟩ hw
  refine ⟨t, ?_, hi⟩
  have h2 : cs.toArray = t.cells.toArray := by
    have := ht
    simp only [RT.val, Value.agg.injEq] at this
    exact this
  show cs = t.cells
  simpa using h2
theorem int_fit {H : Type} {fuel : Nat} {W : World} {enc : TypeId × Value → H} {cs : List Value} {y : DataW H × List MemPlace} (g : DataW.trod enc Try.prog W 0 (fun _ => true) true fuel 3 cs = some y) : ∃ k : Int, cs = [.int .i64 k] ∧ -9223372036854775808 ≤ k ∧ k ≤ 9223372036854775807 := by
  obtain ⟨k, hk, _, wk⟩ := DataW.trod_int Try.underlying3 g
  have bk := bounds_i64 wk
  exact ⟨k, hk, bk.1, bk.2⟩
theorem cellsRecs : Try.prog.cellsOf 38 = 1 := by kernel_rfl
theorem bytesRec : Try.prog.bytesOf 33 = 95 + 1 := by kernel_rfl
theorem open_recs {H : Type} {enc : TypeId × Value → H} {W : World} (fuel : Nat) (cs : List Value) (y : DataW H × List MemPlace) (g : DataW.trod enc Try.prog W 0 (fun _ => true) true fuel 38 cs = some y) (hw : ∀ n ∈ y.1.weights Try.prog 38, n ≤ reachBytes) :
    ∃ l : LT RT, cs = [.slice l.p l.n l.c] ∧ LT.In elRec W (fun b => b < W.heap.size) l :=
  open_list rz elRec 38 95 Try.underlying38 cellsRec (by decide) bytesRec opens_rec fuel cs y g hw
theorem bool_fit {H : Type} {fuel : Nat} {W : World} {enc : TypeId × Value → H} {cs : List Value} {y : DataW H × List MemPlace} (g : DataW.trod enc Try.prog W 0 (fun _ => true) true fuel 4 cs = some y) : ∃ k : Bool, cs = [.bool k] := by
  obtain ⟨k, hk, _⟩ := DataW.trod_bool Try.underlying4 g
  exact ⟨k, hk⟩
theorem cellsItem : Try.prog.cellsOf 35 = 7 := by kernel_rfl
theorem cellsItems : Try.prog.cellsOf 22 = 1 := by kernel_rfl
theorem bytesItem : Try.prog.bytesOf 35 = 103 + 1 := by kernel_rfl
theorem cellsB4 : Try.prog.cellsOf 4 = 1 := by kernel_rfl
theorem cellsOpL : Try.prog.cellsOf 60 = 4 := by kernel_rfl
theorem bytesOpL : Try.prog.bytesOf 60 = 63 + 1 := by kernel_rfl
theorem opens_item : Opens elItem := by
  intro H enc W fuel cs y g hw
  obtain ⟨xs, n, rfl, rfl, hlen, hxl, hfs⟩ := DataW.trod_struct Try.underlying35 g
  have hlen : cs.length = 7 := hlen.trans cellsItem
  match xs, hxl with
  | [y0, y1], _ =>
  match cs, hlen with
  | [v0, v1, v2, v3, v4, v5, v6], _ =>
  have g0 := hfs 0 _ rfl
  have g1 := hfs 1 _ rfl
  simp [cellsI3, cellsRec] at g0 g1
  have w1 : ∀ m ∈ y1.1.weights Try.prog 33, m ≤ reachBytes := fun m hm => hw m (by
    show m ∈ (DataW.agg _).weights Try.prog 35
    simp only [DataW.weights, Try.underlying35, List.map, DataW.weightsEach, List.mem_append]
    exact .inr (.inl hm))
  obtain ⟨k, hk, k0, k1⟩ := int_fit g0
  obtain ⟨r, hr, hi⟩ := opens_rec H enc W _ _ _ g1 w1
  have hr : [v1, v2, v3, v4, v5, v6] = r.cells := hr
  simp only [RT.cells, List.cons.injEq, and_true] at hr hk
  obtain ⟨h1, h2, h3, h4, h5, h6⟩ := hr
  subst h1 h2 h3 h4 h5 h6 hk
  exact ⟨⟨k, r⟩, rfl, hi, k0, k1⟩
theorem open_items {H : Type} {enc : TypeId × Value → H} {W : World} (fuel : Nat) (cs : List Value) (y : DataW H × List MemPlace) (g : DataW.trod enc Try.prog W 0 (fun _ => true) true fuel 22 cs = some y) (hw : ∀ n ∈ y.1.weights Try.prog 22, n ≤ reachBytes) :
    ∃ l : LT IT, cs = [.slice l.p l.n l.c] ∧ LT.In elItem W (fun b => b < W.heap.size) l :=
  open_list ⟨0, rz⟩ elItem 22 103 Try.underlying22 cellsItem (by decide) bytesItem opens_item fuel cs y g hw
theorem opens_opL : Opens elOpL := by
  intro H enc W fuel cs y g hw
  obtain ⟨xs, n, rfl, rfl, hlen, hxl, hfs⟩ := DataW.trod_struct Try.underlying60 g
  have hlen : cs.length = 4 := hlen.trans cellsOpL
  match xs, hxl with
  | [y0, y1, y2, y3], _ =>
  match cs, hlen with
  | [v0, v1, v2, v3], _ =>
  have g0 := hfs 0 _ rfl
  have g1 := hfs 1 _ rfl
  have g2 := hfs 2 _ rfl
  have g3 := hfs 3 _ rfl
  simp [cellsI3, cellsB4, cellsItems, cellsRecs] at g0 g1 g2 g3
  have w2 : ∀ m ∈ y2.1.weights Try.prog 22, m ≤ reachBytes := fun m hm => hw m (by
    show m ∈ (DataW.agg _).weights Try.prog 60
    simp only [DataW.weights, Try.underlying60, List.map, DataW.weightsEach, List.mem_append]
    exact .inr (.inr (.inl hm)))
  have w3 : ∀ m ∈ y3.1.weights Try.prog 38, m ≤ reachBytes := fun m hm => hw m (by
    show m ∈ (DataW.agg _).weights Try.prog 60
    simp only [DataW.weights, Try.underlying60, List.map, DataW.weightsEach, List.mem_append]
    exact .inr (.inr (.inr (.inl hm))))
  obtain ⟨k, hk, k0, k1⟩ := int_fit g0
  obtain ⟨s, hs⟩ := bool_fit g1
  obtain ⟨li, h2, i2⟩ := open_items _ _ _ g2 w2
  obtain ⟨lr, h3, i3⟩ := open_recs _ _ _ g3 w3
  simp only [List.cons.injEq, and_true] at hk hs h2 h3
  subst hk hs h2 h3
  exact ⟨⟨k, s, li, lr⟩, rfl, i2, i3, k0, k1⟩
theorem open_opsL0 {H : Type} {enc : TypeId × Value → H} {W : World} (fuel : Nat) (cs : List Value) (y : DataW H × List MemPlace) (g : DataW.trod enc Try.prog W 0 (fun _ => true) true fuel 53 cs = some y) (hw : ∀ n ∈ y.1.weights Try.prog 53, n ≤ reachBytes) :
    ∃ l : LT OpL, cs = [.slice l.p l.n l.c] ∧ LT.In elOpL W (fun b => b < W.heap.size) l :=
  open_list ⟨0, false, ⟨none, 0, 0, fun _ => ⟨0, rz⟩⟩, ⟨none, 0, 0, fun _ => rz⟩⟩ elOpL 53 63 Try.underlying53 cellsOpL (by decide) bytesOpL opens_opL fuel cs y g hw
theorem open_itemsA {H : Type} {enc : TypeId × Value → H} {W : World} {base : Nat} {v : Value} {d : DataW H} {p : List MemPlace}
    (hv : Value.okWide Try.prog W .any base 22 v) (hd : DataW.Trod enc Try.prog W 0 (fun _ => true) true 22 v d p) (hw : ∀ n ∈ d.weights Try.prog 22, n ≤ reachBytes) :
    ∃ s : LT IT, v = .slice s.p s.n s.c ∧ LT.In elItem W (fun b => b < W.heap.size) s := by
  obtain ⟨a0, len0, cap0, rfl⟩ := okWide_slice Try.underlying22 hv
  obtain ⟨fuel, hf⟩ := hd
  obtain ⟨l, h1, h2⟩ := open_items fuel _ (d, p) hf hw
  refine ⟨l, ?_, h2⟩
  simpa [Value.cells] using h1
theorem open_recsA {H : Type} {enc : TypeId × Value → H} {W : World} {base : Nat} {v : Value} {d : DataW H} {p : List MemPlace}
    (hv : Value.okWide Try.prog W .any base 38 v) (hd : DataW.Trod enc Try.prog W 0 (fun _ => true) true 38 v d p) (hw : ∀ n ∈ d.weights Try.prog 38, n ≤ reachBytes) :
    ∃ s : LT RT, v = .slice s.p s.n s.c ∧ LT.In elRec W (fun b => b < W.heap.size) s := by
  obtain ⟨a0, len0, cap0, rfl⟩ := okWide_slice Try.underlying38 hv
  obtain ⟨fuel, hf⟩ := hd
  obtain ⟨l, h1, h2⟩ := open_recs fuel _ (d, p) hf hw
  refine ⟨l, ?_, h2⟩
  simpa [Value.cells] using h1
theorem open_opsL {H : Type} {enc : TypeId × Value → H} {W : World} {base : Nat} {v : Value} {d : DataW H} {p : List MemPlace}
    (hv : Value.okWide Try.prog W .any base 53 v) (hd : DataW.Trod enc Try.prog W 0 (fun _ => true) true 53 v d p) (hw : ∀ n ∈ d.weights Try.prog 53, n ≤ reachBytes) :
    ∃ s : LT OpL, v = .slice s.p s.n s.c ∧ LT.In elOpL W (fun b => b < W.heap.size) s := by
  obtain ⟨a0, len0, cap0, rfl⟩ := okWide_slice Try.underlying53 hv
  obtain ⟨fuel, hf⟩ := hd
  obtain ⟨l, h1, h2⟩ := open_opsL0 fuel _ (d, p) hf hw
  refine ⟨l, ?_, h2⟩
  simpa [Value.cells] using h1
end Go.Proofs.Ytpldokahoamdpaa
