import Derived.Test.YtckopbkhpbhljaaPack45
import Derived.Test.YtckopbkhpbhljaaPack29
import Derived.Test.YtckopbkhpbhljaaPack43
namespace Go.Proofs.Ytckopbkhpbhljaa
open Go.ChangeShapes Go.WideShapes Go.ChangeAt Go.RowKit
set_option maxRecDepth 8000
/-- what stands in a row, opened out of an argument -/
def Opens {α : Type} (E : El α) : Prop :=
  ∀ (H : Type) (enc : TypeId × Value → H) (W : World) (fuel : Nat) (cs : List Value) (y : DataW H × List MemPlace),
    DataW.trod enc Try.prog W 0 (fun _ => true) true fuel E.ty cs = some y → (∀ n ∈ y.1.weights Try.prog E.ty, n ≤ reachBytes) → ∃ t : α, cs = E.cells t ∧ E.In W (fun b => b < W.heap.size) t

/-- a list of what can be opened -/
theorem open_list {α : Type} (x0 : α) (E : El α) (ty : TypeId) (B : Nat) (hu : Try.prog.underlying ty = some (.slice E.ty)) (hcz : Try.prog.cellsOf E.ty = E.size) (hz : 0 < E.size) (hby : Try.prog.bytesOf E.ty = B + 1) (hO : Opens E)
    {H : Type} {enc : TypeId × Value → H} {W : World} (fuel : Nat) (cs : List Value) (y : DataW H × List MemPlace)
    (g : DataW.trod enc Try.prog W 0 (fun _ => true) true fuel ty cs = some y) (hw : ∀ n ∈ y.1.weights Try.prog ty, n ≤ reachBytes) :
    ∃ l : LT α, cs = [.slice l.p l.n l.c] ∧ LT.In E W (fun b => b < W.heap.size) l := by
  rcases DataW.trod_slice hu g with ⟨hc, _⟩ | ⟨a, len, cap, elems, rest, m, hm, hc, hx, hb, hl, hcm, hel, hcell, hsp, _⟩
  · exact ⟨⟨none, 0, 0, fun _ => x0⟩, hc, LT.In.none_ E W _ none 0 _ (Nat.zero_le _) (fun _ => rfl)⟩
  · have hrest : rest.length = cap - len := (hsp rfl).1
    rw [hx] at hw
    simp only [DataW.weights, hu, List.mem_cons, List.mem_append, List.length_map] at hw
    have hcb : cap * (B + 1) ≤ reachBytes := by
      have := hw _ (.inl rfl)
      rw [hby] at this
      rw [hel, hrest, show len + (cap - len) = cap by omega] at this
      exact this
    unfold reachBytes at hcb
    have hcl : cap ≤ cap * (B + 1) := Nat.le_mul_of_pos_right _ (Nat.succ_pos _)
    have each : ∀ j, j < len → ∃ t : α, (∀ r u, (E.cells t)[r]? = some u → W.cell? (a.add (j * E.size + r)) = some u) ∧ E.In W (fun b => b < W.heap.size) t := by
      intro j hj
      have h1 := hcell j hj
      have hje : j < elems.length := by omega
      rw [List.getElem?_eq_getElem hje, hcz] at h1
      obtain ⟨cs', hcs, htr⟩ := Option.bind_eq_some_iff.1 h1
      obtain ⟨t, rfl, hin⟩ := hO H enc W m cs' elems[j] htr (fun q hq => hw q (.inr (.inl (mem_weightsAll (d := elems[j].1) (List.mem_map.2 ⟨elems[j], List.getElem_mem hje, rfl⟩) hq))))
      obtain ⟨_, hln, hcc⟩ := World.cells?_some hcs
      refine ⟨t, fun r u hu => ?_, hin⟩
      have hr : r < E.size := by
        rcases Nat.lt_or_ge r E.size with h1 | h1
        · exact h1
        · rw [List.getElem?_eq_none (by rw [E.len]; exact h1)] at hu; cases hu
      have := hcc r hr
      rw [Go.Deep.add_add] at this
      exact this.trans hu
    have : Inhabited α := ⟨x0⟩
    obtain ⟨F, hF⟩ := Go.Deep.choose_lt each
    refine ⟨⟨some a, len, cap, F⟩, hc, fun hp => ?_, fun j hj => (hF j hj).2, hl, by show len ≤ 140737488355328; omega, hcm, fun h => by cases h⟩
    have hp' : 0 < len := hp
    obtain ⟨b, o, spot⟩ := a
    have l0 : 0 < (E.cells (F 0)).length := by rw [E.len]; exact hz
    have f0 := (hF 0 hp').1 0 _ (List.getElem?_eq_getElem l0)
    have hspot : spot = none := by simpa [Addr.add] using World.cell?_spot f0
    subst hspot
    have hbl : b < W.heap.size := by have := cell_lt f0; simpa [Addr.add] using this
    refine ⟨b, o, rfl, hbl, hbl, fun j hj r u hu => ?_⟩
    have q0 := (hF j hj).1 r u hu
    rw [add_plain] at q0
    rw [show o + j * E.size + r = o + (j * E.size + r) by omega]
    exact q0

theorem opens_str : Opens elStr := fun _ _ _ _ _ _ g hw => text_fit g hw
theorem opens_cell : Opens elCell := fun _ _ _ _ _ _ g hw => open_cell g hw
theorem int_fit {H : Type} {fuel : Nat} {W : World} {enc : TypeId × Value → H} {cs : List Value} {y : DataW H × List MemPlace} (g : DataW.trod enc Try.prog W 0 (fun _ => true) true fuel 3 cs = some y) : ∃ k : Int, cs = [.int .i64 k] ∧ -9223372036854775808 ≤ k ∧ k ≤ 9223372036854775807 := by
  obtain ⟨k, hk, _, wk⟩ := DataW.trod_int Try.underlying3 g
  have bk := bounds_i64 wk
  exact ⟨k, hk, bk.1, bk.2⟩
theorem cellsStrs : Try.prog.cellsOf 28 = 1 := by kernel_rfl
theorem cellsDelta : Try.prog.cellsOf 30 = 3 := by kernel_rfl
theorem bytesStr : Try.prog.bytesOf 9 = 15 + 1 := by kernel_rfl
theorem bytesCell2 : Try.prog.bytesOf 62 = 39 + 1 := by kernel_rfl
theorem open_strs {H : Type} {enc : TypeId × Value → H} {W : World} (fuel : Nat) (cs : List Value) (y : DataW H × List MemPlace) (g : DataW.trod enc Try.prog W 0 (fun _ => true) true fuel 28 cs = some y) (hw : ∀ n ∈ y.1.weights Try.prog 28, n ≤ reachBytes) :
    ∃ l : LT ByteArray, cs = [.slice l.p l.n l.c] ∧ LT.In elStr W (fun b => b < W.heap.size) l :=
  open_list ⟨#[]⟩ elStr 28 15 Try.underlying28 cellsStr (by decide) bytesStr opens_str fuel cs y g hw
theorem open_cells {H : Type} {enc : TypeId × Value → H} {W : World} (fuel : Nat) (cs : List Value) (y : DataW H × List MemPlace) (g : DataW.trod enc Try.prog W 0 (fun _ => true) true fuel 22 cs = some y) (hw : ∀ n ∈ y.1.weights Try.prog 22, n ≤ reachBytes) :
    ∃ l : LT VT, cs = [.slice l.p l.n l.c] ∧ LT.In elCell W (fun b => b < W.heap.size) l :=
  open_list .nil elCell 22 39 Try.underlying22 cellsCell (by decide) bytesCell2 opens_cell fuel cs y g hw
theorem open_delta {H : Type} {enc : TypeId × Value → H} {W : World} (fuel : Nat) (cs : List Value) (y : DataW H × List MemPlace) (g : DataW.trod enc Try.prog W 0 (fun _ => true) true fuel 30 cs = some y) (hw : ∀ n ∈ y.1.weights Try.prog 30, n ≤ reachBytes) :
    ∃ (d : Int) (l : LT VT) (q : LT ByteArray), cs = [.int .i64 d, .slice l.p l.n l.c, .slice q.p q.n q.c] ∧ (-9223372036854775808 ≤ d ∧ d ≤ 9223372036854775807) ∧ LT.In elCell W (fun b => b < W.heap.size) l ∧ LT.In elStr W (fun b => b < W.heap.size) q := by
  obtain ⟨xs, n, rfl, rfl, hlen, hxl, hfs⟩ := DataW.trod_struct Try.underlying30 g
  rw [cellsDelta] at hlen
  match xs, hxl with
  | [y0, y1, y2], _ =>
  match cs, hlen with
  | [v0, v1, v2], _ =>
  have g0 := hfs 0 _ rfl
  have g1 := hfs 1 _ rfl
  have g2 := hfs 2 _ rfl
  simp [cellsI3, cellsCells, cellsStrs] at g0 g1 g2
  have w1 : ∀ m ∈ y1.1.weights Try.prog 22, m ≤ reachBytes := fun m hm => hw m (by
    simp only [DataW.weights, Try.underlying30, List.map, DataW.weightsEach, List.mem_append]
    exact .inr (.inl hm))
  have w2 : ∀ m ∈ y2.1.weights Try.prog 28, m ≤ reachBytes := fun m hm => hw m (by
    simp only [DataW.weights, Try.underlying30, List.map, DataW.weightsEach, List.mem_append]
    exact .inr (.inr (.inl hm)))
  obtain ⟨k, hk, k0, k1⟩ := int_fit g0
  obtain ⟨l, hl, hi⟩ := open_cells _ _ _ g1 w1
  obtain ⟨q, hq, hqi⟩ := open_strs _ _ _ g2 w2
  simp only [List.cons.injEq, and_true] at hl hk hq
  subst hl hk hq
  exact ⟨k, l, q, rfl, ⟨k0, k1⟩, hi, hqi⟩

theorem open_st0 {H : Type} {enc : TypeId × Value → H} {W : World} (fuel : Nat) (cs : List Value) (y : DataW H × List MemPlace) (g : DataW.trod enc Try.prog W 0 (fun _ => true) true fuel 24 cs = some y) (hw : ∀ n ∈ y.1.weights Try.prog 24, n ≤ reachBytes) :
    ∃ (k : Int) (l : LT VT), cs = [.int .i64 k, .slice l.p l.n l.c] ∧ (-9223372036854775808 ≤ k ∧ k ≤ 9223372036854775807) ∧ LT.In elCell W (fun b => b < W.heap.size) l := by
  obtain ⟨xs, n, rfl, rfl, hlen, hxl, hfs⟩ := DataW.trod_struct Try.underlying24 g
  rw [cellsState] at hlen
  match xs, hxl with
  | [y0, y1], _ =>
  match cs, hlen with
  | [v0, v1], _ =>
  have g0 := hfs 0 _ rfl
  have g1 := hfs 1 _ rfl
  simp [cellsI3, cellsCells] at g0 g1
  have w1 : ∀ m ∈ y1.1.weights Try.prog 22, m ≤ reachBytes := fun m hm => hw m (by
    simp only [DataW.weights, Try.underlying24, List.map, DataW.weightsEach, List.mem_append]
    exact .inr (.inl hm))
  obtain ⟨k, hk, k0, k1⟩ := int_fit g0
  obtain ⟨l, hl, hi⟩ := open_cells _ _ _ g1 w1
  simp only [List.cons.injEq, and_true] at hl hk
  subst hl hk
  exact ⟨k, l, rfl, ⟨k0, k1⟩, hi⟩
/-- WHAT A STATE THAT CAME IN IS -/
theorem open_st {H : Type} {enc : TypeId × Value → H} {W : World} {v : Value} {d : DataW H} {p : List MemPlace}
    (hd : DataW.Trod enc Try.prog W 0 (fun _ => true) true 24 v d p) (hw : ∀ n ∈ d.weights Try.prog 24, n ≤ reachBytes) :
    ∃ (k : Int) (l : LT VT), v = .agg #[.int .i64 k, .slice l.p l.n l.c] ∧ (-9223372036854775808 ≤ k ∧ k ≤ 9223372036854775807) ∧ LT.In elCell W (fun b => b < W.heap.size) l := by
  obtain ⟨fuel, hf⟩ := hd
  obtain ⟨k, l, hc, hk, hl⟩ := open_st0 fuel _ (d, p) hf hw
  refine ⟨k, l, ?_, hk, hl⟩
  cases v with
  | agg cs =>
    obtain ⟨cs⟩ := cs
    simp only [Value.cells] at hc
    rw [hc]
  | _ => simp [Value.cells] at hc
/-- WHAT A DELTA THAT CAME IN IS -/
theorem open_dl {H : Type} {enc : TypeId × Value → H} {W : World} {v : Value} {d : DataW H} {p : List MemPlace}
    (hd : DataW.Trod enc Try.prog W 0 (fun _ => true) true 30 v d p) (hw : ∀ n ∈ d.weights Try.prog 30, n ≤ reachBytes) :
    ∃ t : DT, v = .agg #[.int .i64 t.num, .slice t.set.p t.set.n t.set.c, .slice t.gone.p t.gone.n t.gone.c] ∧ DT.In W (fun b => b < W.heap.size) t := by
  obtain ⟨fuel, hf⟩ := hd
  obtain ⟨k, l, q, hc, hk, hl, hq⟩ := open_delta fuel _ (d, p) hf hw
  refine ⟨⟨k, l, q⟩, ?_, ⟨hl, hq, hk.1, hk.2⟩⟩
  cases v with
  | agg cs =>
    obtain ⟨cs⟩ := cs
    simp only [Value.cells] at hc
    rw [hc]
  | _ => simp [Value.cells] at hc
end Go.Proofs.Ytckopbkhpbhljaa

namespace Go.Proofs.Ytckopbkhpbhljaa
open Go.ChangeShapes Go.WideShapes Go.ChangeAt Go.RowKit
set_option maxRecDepth 8000
theorem opens_state : Opens elS := fun H enc W fuel cs y g hw => by
  obtain ⟨k, l, rfl, hk, hl⟩ := open_st0 fuel cs y g hw
  exact ⟨(k, l), rfl, hk, hl⟩
theorem bulk_pos {H : Type} (d : DataW H) : 1 ≤ Rows.uptoBulk d := by
  cases d with
  | lit x => cases x <;> simp [Rows.uptoBulk]
  | _ => simp [Rows.uptoBulk]
theorem bulk_len {H : Type} : ∀ ds : List (DataW H), ds.length ≤ Rows.uptoBulkAll ds
  | [] => Nat.zero_le _
  | d :: r => by
    have h1 := bulk_pos d
    have h2 := bulk_len r
    simp only [Rows.uptoBulkAll, List.length_cons]
    omega
theorem cellsState2 : Try.prog.cellsOf 24 = 2 := by kernel_rfl
theorem bytesState2 : Try.prog.bytesOf 24 = 31 + 1 := by kernel_rfl
/-- WHAT A LIST OF STATES THAT CAME IN IS: not longer than its bulk -/
theorem open_sts {H : Type} {enc : TypeId × Value → H} {W : World} {base : Nat} {v : Value} {d : DataW H} {p : List MemPlace}
    (hv : Value.okWide Try.prog W .any base 45 v) (hd : DataW.Trod enc Try.prog W 0 (fun _ => true) true 45 v d p) (hw : ∀ n ∈ d.weights Try.prog 45, n ≤ reachBytes) :
    ∃ l : LT (Int × LT VT), v = .slice l.p l.n l.c ∧ LT.In elS W (fun b => b < W.heap.size) l ∧ l.n ≤ Rows.uptoBulk d := by
  obtain ⟨a0, len0, cap0, rfl⟩ := okWide_slice Try.underlying45 hv
  obtain ⟨fuel, hf⟩ := hd
  obtain ⟨l, hc, hl⟩ := open_list ((0 : Int), nL) elS 45 31 Try.underlying45 cellsState2 (by decide) bytesState2 opens_state fuel _ (d, p) hf hw
  refine ⟨l, ?_, hl, ?_⟩
  · simpa [Value.cells] using hc
  · rcases DataW.trod_slice Try.underlying45 hf with ⟨h0, _⟩ | ⟨a, len, cap, elems, rest, m, hm, h0, hx, hb, hle, hcm, hel, hcell, hsp, _⟩
    · rw [hc] at h0
      simp only [List.cons.injEq, Value.slice.injEq, and_true] at h0
      omega
    · rw [hc] at h0
      simp only [List.cons.injEq, Value.slice.injEq, and_true] at h0
      have hx' : d = _ := congrArg Prod.fst hx
      have h1 := bulk_len (elems.map fun x => x.1)
      rw [List.length_map] at h1
      rw [hx']
      simp only [Rows.uptoBulk]
      omega
end Go.Proofs.Ytckopbkhpbhljaa
