import Derived.Test.YtdncnnjhfipokaaPack39
import Derived.Test.YtdncnnjhfipokaaPack17
namespace Go.Proofs.Ytdncnnjhfipokaa
open Go.ChangeShapes Go.WideShapes Go.ChangeAt Go.RowKit
set_option maxRecDepth 8000
/-- what stands in a row, opened out of an argument -/
def Opens {α : Type} (E : El α) : Prop :=
  ∀ (H : Type) (enc : TypeId × Value → H) (W : World) (fuel : Nat) (cs : List Value) (y : DataW H × List MemPlace),
    DataW.trod enc Try.prog W 0 (fun _ => true) true fuel E.ty cs = some y → (∀ n ∈ y.1.weights Try.prog E.ty, n ≤ reachBytes) → ∃ t : α, cs = E.cells t ∧ E.In W (fun b => b < W.heap.size) t

/-- a list of what can be opened -/
theorem open_list {α : Type} (x0 : α) (E : El α) (ty : TypeId) (B : Nat) (hu : Try.prog.underlying ty = some (.slice E.ty)) (hcz : Try.prog.cellsOf E.ty = E.size) (hz : 0 < E.size) (hby : Try.prog.bytesOf E.ty = B + 1) (hO : Opens E)
    {H : Type} {enc : TypeId × Value → H} {W : World} (fuel : Nat) (cs : List Value) (y : DataW H × List MemPlace)
    (g : DataW.trod enc Try.prog W 0 (fun _ => true) true fuel ty cs = some y) (hw : ∀ n ∈ y.1.weights Try.prog ty, n ≤ reachBytes) :
    ∃ l : LT α, cs = [.slice l.p l.n l.c] ∧ LT.In E W (fun b => b < W.heap.size) l := by
  rcases DataW.trod_slice hu g with ⟨hc, _⟩ | ⟨a, len, cap, elems, rest, m, hm, hc, hx, hb, hl, hcm, hel, hcell, hsp, _⟩
  · exact ⟨⟨none, 0, 0, fun _ => x0⟩, hc, LT.In.none_ E W _ none 0 _ (Nat.zero_le _) (fun _ => rfl)⟩
  · have hrest : rest.length = cap - len := (hsp rfl).1
    rw [hx] at hw
    simp only [DataW.weights, hu, List.mem_cons, List.mem_append, List.length_map] at hw
    have hcb : cap * (B + 1) ≤ reachBytes := by
      have := hw _ (.inl rfl)
      rw [hby] at this
      rw [hel, hrest, show len + (cap - len) = cap by omega] at this
      exact this
    unfold reachBytes at hcb
    have hcl : cap ≤ cap * (B + 1) := Nat.le_mul_of_pos_right _ (Nat.succ_pos _)
    have each : ∀ j, j < len → ∃ t : α, (∀ r u, (E.cells t)[r]? = some u → W.cell? (a.add (j * E.size + r)) = some u) ∧ E.In W (fun b => b < W.heap.size) t := by
      intro j hj
      have h1 := hcell j hj
      have hje : j < elems.length := by omega
      rw [List.getElem?_eq_getElem hje, hcz] at h1
      obtain ⟨cs', hcs, htr⟩ := Option.bind_eq_some_iff.1 h1
      obtain ⟨t, rfl, hin⟩ := hO H enc W m cs' elems[j] htr (fun q hq => hw q (.inr (.inl (mem_weightsAll (d := elems[j].1) (List.mem_map.2 ⟨elems[j], List.getElem_mem hje, rfl⟩) hq))))
      obtain ⟨_, hln, hcc⟩ := World.cells?_some hcs
      refine ⟨t, fun r u hu => ?_, hin⟩
      have hr : r < E.size := by
        rcases Nat.lt_or_ge r E.size with h1 | h1
        · exact h1
        · rw [List.getElem?_eq_none (by rw [E.len]; exact h1)] at hu; cases hu
      have := hcc r hr
      rw [Go.Deep.add_add] at this
      exact this.trans hu
    have : Inhabited α := ⟨x0⟩
    obtain ⟨F, hF⟩ := Go.Deep.choose_lt each
    refine ⟨⟨some a, len, cap, F⟩, hc, fun hp => ?_, fun j hj => (hF j hj).2, hl, by show len ≤ 140737488355328; omega, hcm, fun h => by cases h⟩
    have hp' : 0 < len := hp
    obtain ⟨b, o, spot⟩ := a
    have l0 : 0 < (E.cells (F 0)).length := by rw [E.len]; exact hz
    have f0 := (hF 0 hp').1 0 _ (List.getElem?_eq_getElem l0)
    have hspot : spot = none := by simpa [Addr.add] using World.cell?_spot f0
    subst hspot
    have hbl : b < W.heap.size := by have := cell_lt f0; simpa [Addr.add] using this
    refine ⟨b, o, rfl, hbl, hbl, fun j hj r u hu => ?_⟩
    have q0 := (hF j hj).1 r u hu
    rw [add_plain] at q0
    rw [show o + j * E.size + r = o + (j * E.size + r) by omega]
    exact q0

theorem opens_cell : Opens elCell := fun _ _ _ _ _ _ g hw => open_cell g hw
theorem opens_rec : Opens elRec := by
  intro H enc W fuel cs y g hw
  obtain ⟨t, ht, hi⟩ := open_rec (v := .agg cs.toArray) (d := y.1) (p := y.2) ⟨fuel, g⟩ hw
  refine ⟨t, ?_, hi⟩
  have h2 : cs.toArray = t.cells.toArray := by
    have := ht
    simp only [RT.val, Value.agg.injEq] at this
    exact this
  show cs = t.cells
  simpa using h2
theorem int_fit {H : Type} {fuel : Nat} {W : World} {enc : TypeId × Value → H} {cs : List Value} {y : DataW H × List MemPlace} (g : DataW.trod enc Try.prog W 0 (fun _ => true) true fuel 3 cs = some y) : ∃ k : Int, cs = [.int .i64 k] ∧ -9223372036854775808 ≤ k ∧ k ≤ 9223372036854775807 := by
  obtain ⟨k, hk, _, wk⟩ := DataW.trod_int Try.underlying3 g
  have bk := bounds_i64 wk
  exact ⟨k, hk, bk.1, bk.2⟩
theorem cellsRecs : Try.prog.cellsOf 37 = 1 := by kernel_rfl
theorem bytesCell2 : Try.prog.bytesOf 106 = 39 + 1 := by kernel_rfl
theorem bytesRec : Try.prog.bytesOf 36 = 95 + 1 := by kernel_rfl
theorem open_cells {H : Type} {enc : TypeId × Value → H} {W : World} (fuel : Nat) (cs : List Value) (y : DataW H × List MemPlace) (g : DataW.trod enc Try.prog W 0 (fun _ => true) true fuel 38 cs = some y) (hw : ∀ n ∈ y.1.weights Try.prog 38, n ≤ reachBytes) :
    ∃ l : LT VT, cs = [.slice l.p l.n l.c] ∧ LT.In elCell W (fun b => b < W.heap.size) l :=
  open_list .nil elCell 38 39 Try.underlying38 cellsCell (by decide) bytesCell2 opens_cell fuel cs y g hw
theorem open_recs {H : Type} {enc : TypeId × Value → H} {W : World} (fuel : Nat) (cs : List Value) (y : DataW H × List MemPlace) (g : DataW.trod enc Try.prog W 0 (fun _ => true) true fuel 37 cs = some y) (hw : ∀ n ∈ y.1.weights Try.prog 37, n ≤ reachBytes) :
    ∃ l : LT RT, cs = [.slice l.p l.n l.c] ∧ LT.In elRec W (fun b => b < W.heap.size) l :=
  open_list rt0 elRec 37 95 Try.underlying37 cellsRec (by decide) bytesRec opens_rec fuel cs y g hw
theorem cellsOp : Try.prog.cellsOf 42 = 14 := by kernel_rfl
theorem bytesOp : Try.prog.bytesOf 42 = 207 + 1 := by kernel_rfl
theorem open_state3 {H : Type} {enc : TypeId × Value → H} {W : World} (fuel : Nat) (cs : List Value) (y : DataW H × List MemPlace) (g : DataW.trod enc Try.prog W 0 (fun _ => true) true fuel 40 cs = some y) (hw : ∀ n ∈ y.1.weights Try.prog 40, n ≤ reachBytes) :
    ∃ (k : Int) (l : LT VT), cs = [.int .i64 k, .slice l.p l.n l.c] ∧ LT.In elCell W (fun b => b < W.heap.size) l := by
  obtain ⟨xs, n, rfl, rfl, hlen, hxl, hfs⟩ := DataW.trod_struct Try.underlying40 g
  rw [cellsState] at hlen
  match xs, hxl with
  | [y0, y1], _ =>
  match cs, hlen with
  | [v0, v1], _ =>
  have g0 := hfs 0 _ rfl
  have g1 := hfs 1 _ rfl
  simp [cellsI3, cellsCells] at g0 g1
  have w1 : ∀ m ∈ y1.1.weights Try.prog 38, m ≤ reachBytes := fun m hm => hw m (by
    simp only [DataW.weights, Try.underlying40, List.map, DataW.weightsEach, List.mem_append]
    exact .inr (.inl hm))
  obtain ⟨k, hk, k0, k1⟩ := int_fit g0
  obtain ⟨l, hl, hi⟩ := open_cells _ _ _ g1 w1
  simp only [List.cons.injEq, and_true] at hl hk
  subst hl hk
  exact ⟨k, l, rfl, hi⟩
set_option maxHeartbeats 1000000 in
theorem opens_op : Opens elOp := by
  intro H enc W fuel cs y g hw
  obtain ⟨xs, n, rfl, rfl, hlen, hxl, hfs⟩ := DataW.trod_struct Try.underlying42 g
  have hlen : cs.length = 14 := hlen.trans cellsOp
  match xs, hxl with
  | [y0, y1, y2, y3, y4, y5, y6, y7], _ =>
  match cs, hlen with
  | [v0, v1, v2, v3, v4, v5, v6, v7, v8, v9, v10, v11, v12, v13], _ =>
  have g0 := hfs 0 _ rfl
  have g1 := hfs 1 _ rfl
  have g2 := hfs 2 _ rfl
  have g3 := hfs 3 _ rfl
  have g4 := hfs 4 _ rfl
  have g5 := hfs 5 _ rfl
  have g6 := hfs 6 _ rfl
  have g7 := hfs 7 _ rfl
  simp [cellsI3, cellsRec, cellsRecs, cellsState] at g0 g1 g2 g3 g4 g5 g6 g7
  have w4 : ∀ m ∈ y4.1.weights Try.prog 36, m ≤ reachBytes := fun m hm => hw m (by
    simp only [elOp, DataW.weights, Try.underlying42, List.map, DataW.weightsEach, List.mem_append]
    exact .inr (.inr (.inr (.inr (.inl hm)))))
  have w5 : ∀ m ∈ y5.1.weights Try.prog 37, m ≤ reachBytes := fun m hm => hw m (by
    simp only [elOp, DataW.weights, Try.underlying42, List.map, DataW.weightsEach, List.mem_append]
    exact .inr (.inr (.inr (.inr (.inr (.inl hm))))))
  have w6 : ∀ m ∈ y6.1.weights Try.prog 37, m ≤ reachBytes := fun m hm => hw m (by
    simp only [elOp, DataW.weights, Try.underlying42, List.map, DataW.weightsEach, List.mem_append]
    exact .inr (.inr (.inr (.inr (.inr (.inr (.inl hm)))))))
  have w7 : ∀ m ∈ y7.1.weights Try.prog 40, m ≤ reachBytes := fun m hm => hw m (by
    simp only [elOp, DataW.weights, Try.underlying42, List.map, DataW.weightsEach, List.mem_append]
    exact .inr (.inr (.inr (.inr (.inr (.inr (.inr (.inl hm))))))))
  obtain ⟨k0, h0, _, _⟩ := int_fit g0
  obtain ⟨k1, h1, _, _⟩ := int_fit g1
  obtain ⟨k2, h2, _, _⟩ := int_fit g2
  obtain ⟨k3, h3, _, _⟩ := int_fit g3
  obtain ⟨r, h4, i4⟩ := opens_rec _ _ _ _ _ _ g4 w4
  obtain ⟨a, h5, i5⟩ := open_recs _ _ _ g5 w5
  obtain ⟨q, h6, i6⟩ := open_recs _ _ _ g6 w6
  obtain ⟨nu, l, h7, i7⟩ := open_state3 _ _ _ g7 w7
  have h4' : [v4, v5, v6, v7, v8, v9] = r.cells := h4
  simp only [RT.cells, List.cons.injEq, and_true] at h0 h1 h2 h3 h4' h5 h6 h7
  obtain ⟨h40, h41, h42, h43, h44, h45⟩ := h4'
  obtain ⟨h70, h71⟩ := h7
  subst h0 h1 h2 h3 h40 h41 h42 h43 h44 h45 h5 h6 h70 h71
  exact ⟨⟨k0, k1, k2, k3, r, a, q, nu, l⟩, rfl, ⟨i4, i5, i6, i7⟩⟩
def op0 : OpT := ⟨0, 0, 0, 0, rt0, nilL fun _ => rt0, nilL fun _ => rt0, 0, nilL fun _ => .nil⟩
/-- WHAT A SCRIPT THAT CAME IN IS -/
theorem open_ops {H : Type} {enc : TypeId × Value → H} {W : World} {base : Nat} {v : Value} {d : DataW H} {p : List MemPlace}
    (hv : Value.okWide Try.prog W .any base 22 v) (hd : DataW.Trod enc Try.prog W 0 (fun _ => true) true 22 v d p) (hw : ∀ n ∈ d.weights Try.prog 22, n ≤ reachBytes) :
    ∃ s : LT OpT, v = .slice s.p s.n s.c ∧ LT.In elOp W (fun b => b < W.heap.size) s := by
  obtain ⟨a0, len0, cap0, rfl⟩ := okWide_slice Try.underlying22 hv
  obtain ⟨fuel, hf⟩ := hd
  obtain ⟨l, h1, h2⟩ := open_list op0 elOp 22 207 Try.underlying22 cellsOp (by decide) bytesOp opens_op fuel _ (d, p) hf hw
  refine ⟨l, ?_, h2⟩
  simpa [Value.cells] using h1
end Go.Proofs.Ytdncnnjhfipokaa
