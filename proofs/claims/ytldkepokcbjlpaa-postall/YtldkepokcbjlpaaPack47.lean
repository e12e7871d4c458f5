import Derived.Test.YtldkepokcbjlpaaPack46
import Derived.Test.YtldkepokcbjlpaaPack1
import Derived.Test.YtldkepokcbjlpaaPack24
namespace Go.Proofs.Ytldkepokcbjlpaa
open Go.ChangeShapes Go.WideShapes Go.ChangeAt Go.RowKit
set_option maxRecDepth 8000

theorem cellsRec : Try.prog.cellsOf 99 = 6 := by kernel_rfl
theorem cellsState : Try.prog.cellsOf 35 = 2 := by kernel_rfl
theorem cellsCell : Try.prog.cellsOf 122 = 2 := by kernel_rfl
theorem cellsInts : Try.prog.cellsOf 32 = 1 := by kernel_rfl
theorem cellsCells : Try.prog.cellsOf 33 = 1 := by kernel_rfl
theorem bytesI3 : Try.prog.bytesOf 3 = 8 := by kernel_rfl
theorem bytesCell : Try.prog.bytesOf 122 = 40 := by kernel_rfl

/-- the values of a list -/
theorem open_vals {H : Type} {enc : TypeId × Value → H} {W : World} (fuel : Nat) (cs : List Value) (y3 : DataW H × List MemPlace)
    (g3 : DataW.trod enc Try.prog W 0 (fun _ => true) true fuel 95 cs = some y3) (hwi : ∀ n ∈ y3.1.weights Try.prog 95, n ≤ reachBytes) (k i : Int) (s : ByteArray)
    (bk : -9223372036854775808 ≤ k ∧ k ≤ 9223372036854775807) (bi : -9223372036854775808 ≤ i ∧ i ≤ 9223372036854775807) (hws : s.size ≤ 140737488355328) :
    ∃ n p c f, cs = [.slice p n c] ∧ VT.In W (fun b => b < W.heap.size) (.mk k i s n p c f) := by
  rcases DataW.trod_slice Try.underlying95 g3 with ⟨hc, _⟩ | ⟨a, len, cap, elems, rest, m, hm, hc, hx, hb, hl, hcm, hel, hcell, hsp, _⟩
  · exact ⟨0, none, 0, fun _ => .nil, hc, ⟨⟨bk.1, bk.2, bi.1, bi.2, hws, Nat.le_refl 0, by show 0 ≤ 140737488355328; omega, Nat.zero_le _, fun _ => ⟨rfl, rfl⟩⟩, fun h => absurd h (by omega), fun j hj => absurd hj (by omega)⟩⟩
  · have hrest : rest.length = cap - len := (hsp rfl).1
    rw [hx] at hwi
    simp only [DataW.weights, Try.underlying95, List.mem_cons, List.mem_append, List.length_map] at hwi
    have hcb : cap * 56 ≤ reachBytes := by
      have := hwi _ (.inl rfl)
      rw [bytesV] at this
      rw [hel, hrest, show len + (cap - len) = cap by omega] at this
      exact this
    unfold reachBytes at hcb
    have each : ∀ j, j < len → ∃ t : VT, (∀ r, r < 4 → W.cell? (a.add (j * 4 + r)) = t.cells[r]?) ∧ VT.In W (fun b => b < W.heap.size) t := by
      intro j hj
      have h1 := hcell j hj
      have hje : j < elems.length := by omega
      rw [List.getElem?_eq_getElem hje, cellsV] at h1
      obtain ⟨cs', hcs, htr⟩ := Option.bind_eq_some_iff.1 h1
      obtain ⟨t, rfl, hin⟩ := open_val m m cs' elems[j] (Nat.le_refl _) htr (fun q hq => hwi q (.inr (.inl (mem_weightsAll (d := elems[j].1) (List.mem_map.2 ⟨elems[j], List.getElem_mem hje, rfl⟩) hq))))
      obtain ⟨_, hln, hcc⟩ := World.cells?_some hcs
      refine ⟨t, fun r hr => ?_, hin⟩
      have := hcc r (by omega)
      rw [Go.Deep.add_add] at this
      exact this
    have : Inhabited VT := ⟨.nil⟩
    obtain ⟨F, hF⟩ := Go.Deep.choose_lt each
    refine ⟨len, some a, cap, F, hc, ⟨⟨bk.1, bk.2, bi.1, bi.2, hws, hl, ?_, hcm, fun h => by cases h⟩, fun hp => ?_, fun j hj => (hF j hj).2⟩⟩
    · show len ≤ 140737488355328; omega
    · obtain ⟨b, o, spot⟩ := a
      have f0 := (hF 0 hp).1 0 (by omega)
      have hspot : spot = none := by simpa [Addr.add] using World.cell?_spot f0
      subst hspot
      have hbl : b < W.heap.size := by have := cell_lt f0; simpa [Addr.add] using this
      refine ⟨b, o, rfl, hbl, hbl, fun j hj => ?_⟩
      have f := (hF j hj).1
      have q0 := f 0 (by omega)
      have q1 := f 1 (by omega)
      have q2 := f 2 (by omega)
      have q3 := f 3 (by omega)
      rw [add_plain] at q0 q1 q2 q3
      exact ⟨q0, q1, q2, q3⟩

/-- the numbers of a list -/
theorem open_ints {H : Type} {enc : TypeId × Value → H} {W : World} (fuel : Nat) (cs : List Value) (y3 : DataW H × List MemPlace)
    (g3 : DataW.trod enc Try.prog W 0 (fun _ => true) true fuel 32 cs = some y3) (hwi : ∀ n ∈ y3.1.weights Try.prog 32, n ≤ reachBytes) :
    ∃ n p c f, cs = [.slice p n c] ∧ Ints W (fun b => b < W.heap.size) p n c f := by
  rcases DataW.trod_slice Try.underlying32 g3 with ⟨hc, _⟩ | ⟨a, len, cap, elems, rest, m, hm, hc, hx, hb, hl, hcm, hel, hcell, hsp, _⟩
  · exact ⟨0, none, 0, fun _ => 0, hc, fun h => absurd h (by omega), Nat.le_refl 0, by omega, Nat.zero_le _, fun j hj => absurd hj (by omega), fun _ => ⟨rfl, rfl⟩⟩
  · have hrest : rest.length = cap - len := (hsp rfl).1
    rw [hx] at hwi
    simp only [DataW.weights, Try.underlying32, List.mem_cons, List.mem_append, List.length_map] at hwi
    have hcb : cap * 8 ≤ reachBytes := by
      have := hwi _ (.inl rfl)
      rw [bytesI3] at this
      rw [hel, hrest, show len + (cap - len) = cap by omega] at this
      exact this
    unfold reachBytes at hcb
    have each : ∀ j, j < len → ∃ t : Int, W.cell? (a.add j) = some (.int .i64 t) ∧ -9223372036854775808 ≤ t ∧ t ≤ 9223372036854775807 := by
      intro j hj
      have h1 := hcell j hj
      have hje : j < elems.length := by omega
      rw [List.getElem?_eq_getElem hje, cellsI3] at h1
      obtain ⟨cs', hcs, htr⟩ := Option.bind_eq_some_iff.1 h1
      obtain ⟨t, hk, _, wk⟩ := DataW.trod_int Try.underlying3 htr
      have bk := bounds_i64 wk
      subst hk
      obtain ⟨_, hln, hcc⟩ := World.cells?_some hcs
      refine ⟨t, ?_, bk.1, bk.2⟩
      have := hcc 0 (by omega)
      rw [Go.Deep.add_add, Nat.mul_one, Nat.add_zero] at this
      exact this
    obtain ⟨F, hF⟩ := Go.Deep.choose_lt each
    refine ⟨len, some a, cap, F, hc, fun hp => ?_, hl, by omega, hcm, fun j hj => (hF j hj).2, fun h => by cases h⟩
    obtain ⟨b, o, spot⟩ := a
    have f0 := (hF 0 hp).1
    have hspot : spot = none := by simpa [Addr.add] using World.cell?_spot f0
    subst hspot
    have hbl : b < W.heap.size := by have := cell_lt f0; simpa [Addr.add] using this
    refine ⟨b, o, rfl, hbl, hbl, fun j hj => ?_⟩
    have q0 := (hF j hj).1
    rw [add_plain] at q0
    exact q0
theorem text_fit {H : Type} {fuel : Nat} {W : World} {enc : TypeId × Value → H} {cs : List Value} {y : DataW H × List MemPlace} (g : DataW.trod enc Try.prog W 0 (fun _ => true) true fuel 9 cs = some y) (hw : ∀ n ∈ y.1.weights Try.prog 9, n ≤ reachBytes) : ∃ s : ByteArray, cs = [.string s] ∧ s.size ≤ 140737488355328 := by
  obtain ⟨s, hs, hy2, _⟩ := DataW.trod_string Try.underlying9 g
  refine ⟨s, hs, ?_⟩
  have hm := hw s.data.toList.length (by rw [hy2]; simp [DataW.weights])
  unfold reachBytes at hm
  have e : s.data.toList.length = s.size := by simp
  omega

theorem open_rec {H : Type} {enc : TypeId × Value → H} {W : World} {v : Value} {d : DataW H} {p : List MemPlace}
    (hd : DataW.Trod enc Try.prog W 0 (fun _ => true) true 99 v d p) (hw : ∀ n ∈ d.weights Try.prog 99, n ≤ reachBytes) :
    ∃ t : RT, v = t.val ∧ RT.In W (fun b => b < W.heap.size) t := by
  obtain ⟨fuel, hf⟩ := hd
  obtain ⟨xs, n, rfl, hx, hlen, hxl, hfs⟩ := DataW.trod_struct Try.underlying99 hf
  rw [cellsRec] at hlen
  obtain ⟨rfl, rfl⟩ : d = _ ∧ p = _ := by simpa using hx
  match xs, hxl with
  | [y0, y1, y2], _ =>
  cases v with
  | agg cs =>
    obtain ⟨cs⟩ := cs
    simp only [Value.cells] at hlen hfs
    match cs, hlen with
    | [v0, v1, v2, v3, v4, v5], _ =>
    have g0 := hfs 0 _ rfl
    have g1 := hfs 1 _ rfl
    have g2 := hfs 2 _ rfl
    simp [cellsStr, cellsV, cellsInts] at g0 g1 g2
    have w0 : ∀ m ∈ y0.1.weights Try.prog 9, m ≤ reachBytes := fun m hm => hw m (by
      simp only [DataW.weights, Try.underlying99, List.map, DataW.weightsEach, List.mem_append]
      exact .inl hm)
    have w1 : ∀ m ∈ y1.1.weights Try.prog 97, m ≤ reachBytes := fun m hm => hw m (by
      simp only [DataW.weights, Try.underlying99, List.map, DataW.weightsEach, List.mem_append]
      exact .inr (.inl hm))
    have w2 : ∀ m ∈ y2.1.weights Try.prog 32, m ≤ reachBytes := fun m hm => hw m (by
      simp only [DataW.weights, Try.underlying99, List.map, DataW.weightsEach, List.mem_append]
      exact .inr (.inr (.inl hm)))
    obtain ⟨s, hs, hws⟩ := text_fit g0 w0
    obtain ⟨t, ht, hin⟩ := open_val n n _ y1 (Nat.le_refl _) g1 w1
    obtain ⟨ln, lp, lc, lf, hl, hli⟩ := open_ints n _ y2 g2 w2
    simp only [List.cons.injEq, and_true] at hs hl
    simp only [VT.cells, List.cons.injEq, and_true] at ht
    obtain ⟨rfl, rfl, rfl, rfl⟩ := ht
    subst hs hl
    exact ⟨⟨s, t, lp, ln, lc, lf⟩, rfl, ⟨hin, hli, hws⟩⟩
  | _ => simp [Value.cells] at hlen

theorem open_cell {H : Type} {enc : TypeId × Value → H} {W : World} {fuel : Nat} {cs : List Value} {x : DataW H × List MemPlace} (hf : DataW.trod enc Try.prog W 0 (fun _ => true) true fuel 122 cs = some x) (hw : ∀ n ∈ x.1.weights Try.prog 122, n ≤ reachBytes) :
    ∃ t : VT, cs = t.two ∧ VT.In W (fun b => b < W.heap.size) t := by
  obtain ⟨xs, n, rfl, rfl, hlen, hxl, hfs⟩ := DataW.trod_struct Try.underlying122 hf
  rw [cellsCell] at hlen
  match xs, hxl with
  | [y0, y1], _ =>
  match cs, hlen with
  | [v0, v1], _ =>
  have g0 := hfs 0 _ rfl
  have g1 := hfs 1 _ rfl
  simp [cellsStr, cellsVs] at g0 g1
  have w0 : ∀ m ∈ y0.1.weights Try.prog 9, m ≤ reachBytes := fun m hm => hw m (by
    simp only [DataW.weights, Try.underlying122, List.map, DataW.weightsEach, List.mem_append]
    exact .inl hm)
  have w1 : ∀ m ∈ y1.1.weights Try.prog 95, m ≤ reachBytes := fun m hm => hw m (by
    simp only [DataW.weights, Try.underlying122, List.map, DataW.weightsEach, List.mem_append]
    exact .inr (.inl hm))
  obtain ⟨s, hs, hws⟩ := text_fit g0 w0
  obtain ⟨ln, lp, lc, lf, hl, hli⟩ := open_vals n _ y1 g1 w1 0 0 s ⟨by omega, by omega⟩ ⟨by omega, by omega⟩ hws
  simp only [List.cons.injEq, and_true] at hs hl
  subst hs hl
  exact ⟨_, rfl, hli⟩

theorem open_state {H : Type} {enc : TypeId × Value → H} {W : World} {v : Value} {d : DataW H} {p : List MemPlace}
    (hd : DataW.Trod enc Try.prog W 0 (fun _ => true) true 35 v d p) (hw : ∀ n ∈ d.weights Try.prog 35, n ≤ reachBytes) :
    ∃ t : ST, v = t.val ∧ ST.In W (fun b => b < W.heap.size) t := by
  obtain ⟨fuel, hf⟩ := hd
  obtain ⟨xs, n, rfl, hx, hlen, hxl, hfs⟩ := DataW.trod_struct Try.underlying35 hf
  rw [cellsState] at hlen
  obtain ⟨rfl, rfl⟩ : d = _ ∧ p = _ := by simpa using hx
  match xs, hxl with
  | [y0, y1], _ =>
  cases v with
  | agg cs =>
    obtain ⟨cs⟩ := cs
    simp only [Value.cells] at hlen hfs
    match cs, hlen with
    | [v0, v1], _ =>
    have g0 := hfs 0 _ rfl
    have g1 := hfs 1 _ rfl
    simp [cellsI3, cellsCells] at g0 g1
    have hwi : ∀ m ∈ y1.1.weights Try.prog 33, m ≤ reachBytes := fun m hm => hw m (by
      simp only [DataW.weights, Try.underlying35, List.map, DataW.weightsEach, List.mem_append]
      exact .inr (.inl hm))
    obtain ⟨k, hk, _, wk⟩ := DataW.trod_int Try.underlying3 g0
    have bk := bounds_i64 wk
    simp at hk
    subst hk
    rcases DataW.trod_slice Try.underlying33 g1 with ⟨hc, _⟩ | ⟨a, len, cap, elems, rest, m, hm, hc, hx, hb, hl, hcm, hel, hcell, hsp, _⟩
    · simp at hc
      subst hc
      exact ⟨⟨k, none, 0, 0, fun _ => .nil⟩, rfl, fun h => absurd h (by show ¬ (0 < 0); omega), fun j hj => absurd hj (by show ¬ (j < 0); omega), Nat.le_refl 0, by show 0 ≤ 140737488355328; omega, Nat.zero_le _, bk.1, bk.2⟩
    · simp at hc
      subst hc
      have hrest : rest.length = cap - len := (hsp rfl).1
      rw [hx] at hwi
      simp only [DataW.weights, Try.underlying33, List.mem_cons, List.mem_append, List.length_map] at hwi
      have hcb : cap * 40 ≤ reachBytes := by
        have := hwi _ (.inl rfl)
        rw [bytesCell] at this
        rw [hel, hrest, show len + (cap - len) = cap by omega] at this
        exact this
      unfold reachBytes at hcb
      have each : ∀ j, j < len → ∃ t : VT, (∀ r, r < 2 → W.cell? (a.add (j * 2 + r)) = t.two[r]?) ∧ VT.In W (fun b => b < W.heap.size) t := by
        intro j hj
        have h1 := hcell j hj
        have hje : j < elems.length := by omega
        rw [List.getElem?_eq_getElem hje, cellsCell] at h1
        obtain ⟨cs', hcs, htr⟩ := Option.bind_eq_some_iff.1 h1
        obtain ⟨t, rfl, hin⟩ := open_cell htr (fun q hq => hwi q (.inr (.inl (mem_weightsAll (d := elems[j].1) (List.mem_map.2 ⟨elems[j], List.getElem_mem hje, rfl⟩) hq))))
        obtain ⟨_, hln, hcc⟩ := World.cells?_some hcs
        refine ⟨t, fun r hr => ?_, hin⟩
        have := hcc r (by omega)
        rw [Go.Deep.add_add] at this
        exact this
      have : Inhabited VT := ⟨.nil⟩
      obtain ⟨F, hF⟩ := Go.Deep.choose_lt each
      refine ⟨⟨k, some a, len, cap, F⟩, rfl, fun hp => ?_, fun j hj => (hF j hj).2, hl, by show len ≤ 140737488355328; omega, hcm, bk.1, bk.2⟩
      obtain ⟨b, o, spot⟩ := a
      have f0 := (hF 0 hp).1 0 (by omega)
      have hspot : spot = none := by simpa [Addr.add] using World.cell?_spot f0
      subst hspot
      have hbl : b < W.heap.size := by have := cell_lt f0; simpa [Addr.add] using this
      refine ⟨b, o, rfl, hbl, hbl, fun j hj => ?_⟩
      have f := (hF j hj).1
      have q0 := f 0 (by omega)
      have q1 := f 1 (by omega)
      rw [add_plain] at q0 q1
      exact ⟨q0, q1⟩
  | _ => simp [Value.cells] at hlen
end Go.Proofs.Ytldkepokcbjlpaa

namespace Go.Proofs.Ytldkepokcbjlpaa
open Go.ChangeShapes Go.WideShapes Go.ChangeAt Go.RowKit
set_option maxRecDepth 8000
/-- what stands in a row, opened out of an argument -/
def Opens {α : Type} (E : El α) : Prop :=
  ∀ (H : Type) (enc : TypeId × Value → H) (W : World) (fuel : Nat) (cs : List Value) (y : DataW H × List MemPlace),
    DataW.trod enc Try.prog W 0 (fun _ => true) true fuel E.ty cs = some y → (∀ n ∈ y.1.weights Try.prog E.ty, n ≤ reachBytes) → ∃ t : α, cs = E.cells t ∧ E.In W (fun b => b < W.heap.size) t

/-- a list of what can be opened -/
theorem open_list {α : Type} (x0 : α) (E : El α) (ty : TypeId) (B : Nat) (hu : Try.prog.underlying ty = some (.slice E.ty)) (hcz : Try.prog.cellsOf E.ty = E.size) (hz : 0 < E.size) (hby : Try.prog.bytesOf E.ty = B + 1) (hO : Opens E)
    {H : Type} {enc : TypeId × Value → H} {W : World} (fuel : Nat) (cs : List Value) (y : DataW H × List MemPlace)
    (g : DataW.trod enc Try.prog W 0 (fun _ => true) true fuel ty cs = some y) (hw : ∀ n ∈ y.1.weights Try.prog ty, n ≤ reachBytes) :
    ∃ l : LT α, cs = [.slice l.p l.n l.c] ∧ LT.In E W (fun b => b < W.heap.size) l := by
  rcases DataW.trod_slice hu g with ⟨hc, _⟩ | ⟨a, len, cap, elems, rest, m, hm, hc, hx, hb, hl, hcm, hel, hcell, hsp, _⟩
  · exact ⟨⟨none, 0, 0, fun _ => x0⟩, hc, LT.In.none_ E W _ none 0 _ (Nat.zero_le _) (fun _ => rfl)⟩
  · have hrest : rest.length = cap - len := (hsp rfl).1
    rw [hx] at hw
    simp only [DataW.weights, hu, List.mem_cons, List.mem_append, List.length_map] at hw
    have hcb : cap * (B + 1) ≤ reachBytes := by
      have := hw _ (.inl rfl)
      rw [hby] at this
      rw [hel, hrest, show len + (cap - len) = cap by omega] at this
      exact this
    unfold reachBytes at hcb
    have hcl : cap ≤ cap * (B + 1) := Nat.le_mul_of_pos_right _ (Nat.succ_pos _)
    have each : ∀ j, j < len → ∃ t : α, (∀ r u, (E.cells t)[r]? = some u → W.cell? (a.add (j * E.size + r)) = some u) ∧ E.In W (fun b => b < W.heap.size) t := by
      intro j hj
      have h1 := hcell j hj
      have hje : j < elems.length := by omega
      rw [List.getElem?_eq_getElem hje, hcz] at h1
      obtain ⟨cs', hcs, htr⟩ := Option.bind_eq_some_iff.1 h1
      obtain ⟨t, rfl, hin⟩ := hO H enc W m cs' elems[j] htr (fun q hq => hw q (.inr (.inl (mem_weightsAll (d := elems[j].1) (List.mem_map.2 ⟨elems[j], List.getElem_mem hje, rfl⟩) hq))))
      obtain ⟨_, hln, hcc⟩ := World.cells?_some hcs
      refine ⟨t, fun r u hu => ?_, hin⟩
      have hr : r < E.size := by
        rcases Nat.lt_or_ge r E.size with h1 | h1
        · exact h1
        · rw [List.getElem?_eq_none (by rw [E.len]; exact h1)] at hu; cases hu
      have := hcc r hr
      rw [Go.Deep.add_add] at this
      exact this.trans hu
    have : Inhabited α := ⟨x0⟩
    obtain ⟨F, hF⟩ := Go.Deep.choose_lt each
    refine ⟨⟨some a, len, cap, F⟩, hc, fun hp => ?_, fun j hj => (hF j hj).2, hl, by show len ≤ 140737488355328; omega, hcm, fun h => by cases h⟩
    have hp' : 0 < len := hp
    obtain ⟨b, o, spot⟩ := a
    have l0 : 0 < (E.cells (F 0)).length := by rw [E.len]; exact hz
    have f0 := (hF 0 hp').1 0 _ (List.getElem?_eq_getElem l0)
    have hspot : spot = none := by simpa [Addr.add] using World.cell?_spot f0
    subst hspot
    have hbl : b < W.heap.size := by have := cell_lt f0; simpa [Addr.add] using this
    refine ⟨b, o, rfl, hbl, hbl, fun j hj r u hu => ?_⟩
    have q0 := (hF j hj).1 r u hu
    rw [add_plain] at q0
    rw [show o + j * E.size + r = o + (j * E.size + r) by omega]
    exact q0

theorem opens_cell : Opens elCell := fun _ _ _ _ _ _ g hw => open_cell g hw
theorem opens_rec : Opens elRec := by
  intro H enc W fuel cs y g hw
  obtain ⟨t, ht, hi⟩ := open_rec (v := .agg cs.toArray) (d := y.1) (p := y.2) ⟨fuel, g⟩ hw
  refine ⟨t, ?_, hi⟩
  have h2 : cs.toArray = t.cells.toArray := by
    have := ht
    simp only [RT.val, Value.agg.injEq] at this
    exact this
  show cs = t.cells
  simpa using h2
theorem int_fit {H : Type} {fuel : Nat} {W : World} {enc : TypeId × Value → H} {cs : List Value} {y : DataW H × List MemPlace} (g : DataW.trod enc Try.prog W 0 (fun _ => true) true fuel 3 cs = some y) : ∃ k : Int, cs = [.int .i64 k] ∧ -9223372036854775808 ≤ k ∧ k ≤ 9223372036854775807 := by
  obtain ⟨k, hk, _, wk⟩ := DataW.trod_int Try.underlying3 g
  have bk := bounds_i64 wk
  exact ⟨k, hk, bk.1, bk.2⟩
theorem cellsRecs : Try.prog.cellsOf 37 = 1 := by kernel_rfl
theorem bytesCell2 : Try.prog.bytesOf 122 = 39 + 1 := by kernel_rfl
theorem bytesRec : Try.prog.bytesOf 99 = 95 + 1 := by kernel_rfl
theorem open_cells {H : Type} {enc : TypeId × Value → H} {W : World} (fuel : Nat) (cs : List Value) (y : DataW H × List MemPlace) (g : DataW.trod enc Try.prog W 0 (fun _ => true) true fuel 33 cs = some y) (hw : ∀ n ∈ y.1.weights Try.prog 33, n ≤ reachBytes) :
    ∃ l : LT VT, cs = [.slice l.p l.n l.c] ∧ LT.In elCell W (fun b => b < W.heap.size) l :=
  open_list .nil elCell 33 39 Try.underlying33 cellsCell (by decide) bytesCell2 opens_cell fuel cs y g hw
theorem open_recs {H : Type} {enc : TypeId × Value → H} {W : World} (fuel : Nat) (cs : List Value) (y : DataW H × List MemPlace) (g : DataW.trod enc Try.prog W 0 (fun _ => true) true fuel 37 cs = some y) (hw : ∀ n ∈ y.1.weights Try.prog 37, n ≤ reachBytes) :
    ∃ l : LT RT, cs = [.slice l.p l.n l.c] ∧ LT.In elRec W (fun b => b < W.heap.size) l :=
  open_list rt0 elRec 37 95 Try.underlying37 cellsRec (by decide) bytesRec opens_rec fuel cs y g hw
theorem open_state3 {H : Type} {enc : TypeId × Value → H} {W : World} (fuel : Nat) (cs : List Value) (y : DataW H × List MemPlace) (g : DataW.trod enc Try.prog W 0 (fun _ => true) true fuel 35 cs = some y) (hw : ∀ n ∈ y.1.weights Try.prog 35, n ≤ reachBytes) :
    ∃ (k : Int) (l : LT VT), cs = [.int .i64 k, .slice l.p l.n l.c] ∧ LT.In elCell W (fun b => b < W.heap.size) l := by
  obtain ⟨xs, n, rfl, rfl, hlen, hxl, hfs⟩ := DataW.trod_struct Try.underlying35 g
  rw [cellsState] at hlen
  match xs, hxl with
  | [y0, y1], _ =>
  match cs, hlen with
  | [v0, v1], _ =>
  have g0 := hfs 0 _ rfl
  have g1 := hfs 1 _ rfl
  simp [cellsI3, cellsCells] at g0 g1
  have w1 : ∀ m ∈ y1.1.weights Try.prog 33, m ≤ reachBytes := fun m hm => hw m (by
    simp only [DataW.weights, Try.underlying35, List.map, DataW.weightsEach, List.mem_append]
    exact .inr (.inl hm))
  obtain ⟨k, hk, k0, k1⟩ := int_fit g0
  obtain ⟨l, hl, hi⟩ := open_cells _ _ _ g1 w1
  simp only [List.cons.injEq, and_true] at hl hk
  subst hl hk
  exact ⟨k, l, rfl, hi⟩
theorem bool_fit {H : Type} {fuel : Nat} {W : World} {enc : TypeId × Value → H} {cs : List Value} {y : DataW H × List MemPlace} (g : DataW.trod enc Try.prog W 0 (fun _ => true) true fuel 4 cs = some y) : ∃ k : Bool, cs = [.bool k] := by
  obtain ⟨k, hk, _⟩ := DataW.trod_bool Try.underlying4 g
  exact ⟨k, hk⟩
theorem cellsPartA : Try.prog.cellsOf 39 = 4 := by kernel_rfl
theorem cellsRecss : Try.prog.cellsOf 36 = 1 := by kernel_rfl
theorem cellsB4 : Try.prog.cellsOf 4 = 1 := by kernel_rfl
theorem cellsOpP : Try.prog.cellsOf 41 = 10 := by kernel_rfl
theorem bytesOpP : Try.prog.bytesOf 41 = 119 + 1 := by kernel_rfl
theorem bytesRecs : Try.prog.bytesOf 37 = 23 + 1 := by kernel_rfl
theorem opens_recs : Opens elRecs := fun _ _ _ _ _ _ g hw => open_recs _ _ _ g hw
theorem open_recss {H : Type} {enc : TypeId × Value → H} {W : World} (fuel : Nat) (cs : List Value) (y : DataW H × List MemPlace) (g : DataW.trod enc Try.prog W 0 (fun _ => true) true fuel 36 cs = some y) (hw : ∀ n ∈ y.1.weights Try.prog 36, n ≤ reachBytes) :
    ∃ l : LT (LT RT), cs = [.slice l.p l.n l.c] ∧ LT.In elRecs W (fun b => b < W.heap.size) l :=
  open_list ⟨none, 0, 0, fun _ => rt0⟩ elRecs 36 23 Try.underlying36 cellsRecs (by decide) bytesRecs opens_recs fuel cs y g hw
theorem open_part {H : Type} {enc : TypeId × Value → H} {W : World} (fuel : Nat) (cs : List Value) (y : DataW H × List MemPlace) (g : DataW.trod enc Try.prog W 0 (fun _ => true) true fuel 39 cs = some y) (hw : ∀ n ∈ y.1.weights Try.prog 39, n ≤ reachBytes) :
    ∃ t : PtT, cs = [.int .i64 t.num, .slice t.cl.p t.cl.n t.cl.c, .slice t.lg.p t.lg.n t.lg.c, .slice t.pd.p t.pd.n t.pd.c] ∧ PtIn W (fun b => b < W.heap.size) t := by
  obtain ⟨xs, n, rfl, rfl, hlen, hxl, hfs⟩ := DataW.trod_struct Try.underlying39 g
  have hlen : cs.length = 4 := hlen.trans cellsPartA
  match xs, hxl with
  | [y0, y1, y2], _ =>
  match cs, hlen with
  | [v0, v1, v2, v3], _ =>
  have g0 := hfs 0 _ rfl
  have g1 := hfs 1 _ rfl
  have g2 := hfs 2 _ rfl
  simp [cellsState, cellsRecss, cellsRecs] at g0 g1 g2
  have w0 : ∀ m ∈ y0.1.weights Try.prog 35, m ≤ reachBytes := fun m hm => hw m (by
    simp only [DataW.weights, Try.underlying39, List.map, DataW.weightsEach, List.mem_append]
    exact .inl hm)
  have w1 : ∀ m ∈ y1.1.weights Try.prog 36, m ≤ reachBytes := fun m hm => hw m (by
    simp only [DataW.weights, Try.underlying39, List.map, DataW.weightsEach, List.mem_append]
    exact .inr (.inl hm))
  have w2 : ∀ m ∈ y2.1.weights Try.prog 37, m ≤ reachBytes := fun m hm => hw m (by
    simp only [DataW.weights, Try.underlying39, List.map, DataW.weightsEach, List.mem_append]
    exact .inr (.inr (.inl hm)))
  obtain ⟨k, l, h0, i0⟩ := open_state3 _ _ _ g0 w0
  obtain ⟨q, h1, i1⟩ := open_recss _ _ _ g1 w1
  obtain ⟨r, h2, i2⟩ := open_recs _ _ _ g2 w2
  simp only [List.cons.injEq, and_true] at h0 h1 h2
  obtain ⟨h00, h01⟩ := h0
  subst h00 h01 h1 h2
  exact ⟨⟨k, l, q, r⟩, rfl, ⟨i0, i1, i2⟩⟩
set_option maxHeartbeats 1000000 in
theorem opens_opP : Opens elOpP := by
  intro H enc W fuel cs y g hw
  obtain ⟨xs, n, rfl, rfl, hlen, hxl, hfs⟩ := DataW.trod_struct Try.underlying41 g
  have hlen : cs.length = 10 := hlen.trans cellsOpP
  match xs, hxl with
  | [y0, y1, y2, y3, y4, y5, y6], _ =>
  match cs, hlen with
  | [v0, v1, v2, v3, v4, v5, v6, v7, v8, v9], _ =>
  have g0 := hfs 0 _ rfl
  have g1 := hfs 1 _ rfl
  have g2 := hfs 2 _ rfl
  have g3 := hfs 3 _ rfl
  have g4 := hfs 4 _ rfl
  have g5 := hfs 5 _ rfl
  have g6 := hfs 6 _ rfl
  simp [cellsI3, cellsB4, cellsPartA] at g0 g1 g2 g3 g4 g5 g6
  have w5 : ∀ m ∈ y5.1.weights Try.prog 39, m ≤ reachBytes := fun m hm => hw m (by
    simp only [elOpP, DataW.weights, Try.underlying41, List.map, DataW.weightsEach, List.mem_append]
    exact .inr (.inr (.inr (.inr (.inr (.inl hm))))))
  obtain ⟨k0, h0, _, _⟩ := int_fit g0
  obtain ⟨k1, h1⟩ := bool_fit g1
  obtain ⟨k2, h2⟩ := bool_fit g2
  obtain ⟨k3, h3, _, _⟩ := int_fit g3
  obtain ⟨k4, h4, _, _⟩ := int_fit g4
  obtain ⟨t, h5, i5⟩ := open_part _ _ _ g5 w5
  obtain ⟨k6, h6⟩ := bool_fit g6
  simp only [List.cons.injEq, and_true] at h0 h1 h2 h3 h4 h5 h6
  obtain ⟨h50, h51, h52, h53⟩ := h5
  subst h0 h1 h2 h3 h4 h50 h51 h52 h53 h6
  exact ⟨⟨k0, k1, k2, k3, k4, t, k6⟩, rfl, i5⟩
def opP0 : OpP := ⟨0, false, false, 0, 0, pt0, false⟩
/-- WHAT A SCRIPT THAT CAME IN IS -/
theorem open_opsP {H : Type} {enc : TypeId × Value → H} {W : World} {base : Nat} {v : Value} {d : DataW H} {p : List MemPlace}
    (hv : Value.okWide Try.prog W .any base 22 v) (hd : DataW.Trod enc Try.prog W 0 (fun _ => true) true 22 v d p) (hw : ∀ n ∈ d.weights Try.prog 22, n ≤ reachBytes) :
    ∃ s : LT OpP, v = .slice s.p s.n s.c ∧ LT.In elOpP W (fun b => b < W.heap.size) s := by
  obtain ⟨a0, len0, cap0, rfl⟩ := okWide_slice Try.underlying22 hv
  obtain ⟨fuel, hf⟩ := hd
  obtain ⟨l, h1, h2⟩ := open_list opP0 elOpP 22 119 Try.underlying22 cellsOpP (by decide) bytesOpP opens_opP fuel _ (d, p) hf hw
  refine ⟨l, ?_, h2⟩
  simpa [Value.cells] using h1
end Go.Proofs.Ytldkepokcbjlpaa
