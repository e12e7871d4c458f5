import Derived.Test.YtckopbkhpbhljaaPack0
import Derived.ProofKit
import Derived.OpenShut
import Derived.ChangeOld
import Derived.SizedLaws
import Derived.Deep.DeepHandedRow
import Derived.Deep.Strs
import Derived.Lib.LaidTab
import Derived.Test.YtckopbkhpbhljaaPack1
namespace Go.Proofs.Ytckopbkhpbhljaa
open Go.ChangeShapes Go.WideShapes Go.ChangeAt Go.RowKit
set_option maxRecDepth 8000

theorem own : ownKnob Try.prog.godebug = none := by kernel_rfl
theorem laidOut : laidOutB Try.prog = true := by kernel_rfl
theorem cell_lt {w : World} {a : Addr} {v : Value} (h : w.cell? a = some v) : a.block < w.heap.size := by
  rcases Nat.lt_or_ge a.block w.heap.size with h1 | h1
  · exact h1
  · simp [World.cell?, Array.getElem?_eq_none h1] at h
theorem cellsV : Try.prog.cellsOf 60 = 4 := by kernel_rfl
theorem bytesV : Try.prog.bytesOf 60 = 56 := by kernel_rfl
theorem cellsVs : Try.prog.cellsOf 58 = 1 := by kernel_rfl
theorem cellsI3 : Try.prog.cellsOf 3 = 1 := by kernel_rfl
theorem cellsI2 : Try.prog.cellsOf 2 = 1 := by kernel_rfl
theorem cellsStr : Try.prog.cellsOf 9 = 1 := by kernel_rfl

theorem mem_weightsAll {H : Type} {P : Program} {e : TypeId} : ∀ {l : List (DataW H)} {d : DataW H} {n : Nat}, d ∈ l → n ∈ d.weights P e → n ∈ DataW.weightsAll P e l
  | [], _, _, h, _ => by cases h
  | x :: r, d, n, h, hn => by
    simp only [DataW.weightsAll, List.mem_append]
    rcases List.mem_cons.1 h with rfl | h
    · exact .inl hn
    · exact .inr (mem_weightsAll h hn)

theorem open_val {H : Type} {enc : TypeId × Value → H} {W : World} : ∀ (N fuel : Nat) (cs : List Value) (x : DataW H × List MemPlace), fuel ≤ N →
    DataW.trod enc Try.prog W 0 (fun _ => true) true fuel 60 cs = some x → (∀ n ∈ x.1.weights Try.prog 60, n ≤ reachBytes) → ∃ t : VT, cs = t.cells ∧ VT.In W (fun b => b < W.heap.size) t := by
  intro N
  induction N with
  | zero =>
    intro fuel cs x hf h
    obtain rfl : fuel = 0 := by omega
    simp [DataW.trod] at h
  | succ N ih =>
    intro fuel cs x hf h hw
    obtain ⟨xs, n, rfl, rfl, hlen, hxl, hfs⟩ := DataW.trod_struct Try.underlying60 h
    rw [cellsV] at hlen
    match xs, hxl with
    | [y0, y1, y2, y3], _ =>
    match cs, hlen with
    | [v0, v1, v2, v3], _ =>
    have g0 := hfs 0 _ rfl
    have g1 := hfs 1 _ rfl
    have g2 := hfs 2 _ rfl
    have g3 := hfs 3 _ rfl
    simp [cellsI3, cellsI2, cellsStr, cellsVs] at g0 g1 g2 g3
    obtain ⟨k, hk, _, wk⟩ := DataW.trod_int Try.underlying3 g0
    obtain ⟨i, hi, _, wi⟩ := DataW.trod_int Try.underlying2 g1
    obtain ⟨s, hs, hy2, _⟩ := DataW.trod_string Try.underlying9 g2
    have bk := bounds_i64 wk
    have bi := bounds_i64 wi
    simp at hk hi hs
    subst hk hi hs
    have hws : s.size ≤ 140737488355328 := by
      have hm := hw s.data.toList.length (by
        rw [hy2]
        simp [DataW.weights, DataW.weightsEach, Try.underlying60])
      unfold reachBytes at hm
      have e : s.data.toList.length = s.size := by simp
      omega
    have hwi : ∀ m ∈ y3.1.weights Try.prog 58, m ≤ reachBytes := fun m hm => hw m (by
      simp only [DataW.weights, Try.underlying60, List.map, DataW.weightsEach, List.mem_append]
      exact .inr (.inr (.inr (.inl hm))))
    rcases DataW.trod_slice Try.underlying58 g3 with ⟨hc, _⟩ | ⟨a, len, cap, elems, rest, m, hm, hc, hx, hb, hl, hcm, hel, hcell, hsp, _⟩
    · simp at hc
      subst hc
      refine ⟨.mk k i s 0 none 0 (fun _ => .nil), rfl, ⟨⟨bk.1, bk.2, bi.1, bi.2, hws, Nat.le_refl 0, by show 0 ≤ 140737488355328; omega, Nat.zero_le _, fun _ => ⟨rfl, rfl⟩⟩, fun h => absurd h (by omega), fun j hj => absurd hj (by omega)⟩⟩
    · simp at hc
      subst hc
      have hrest : rest.length = cap - len := (hsp rfl).1
      rw [hx] at hwi
      simp only [DataW.weights, Try.underlying58, List.mem_cons, List.mem_append, List.length_map] at hwi
      have hcb : cap * 56 ≤ reachBytes := by
        have := hwi _ (.inl rfl)
        rw [bytesV] at this
        rw [hel, hrest, show len + (cap - len) = cap by omega] at this
        exact this
      unfold reachBytes at hcb
      have each : ∀ j, j < len → ∃ t : VT, (∀ r, r < 4 → W.cell? (a.add (j * 4 + r)) = t.cells[r]?) ∧ VT.In W (fun b => b < W.heap.size) t := by
        intro j hj
        have h1 := hcell j hj
        have hje : j < elems.length := by omega
        rw [List.getElem?_eq_getElem hje, cellsV] at h1
        obtain ⟨cs', hcs, htr⟩ := Option.bind_eq_some_iff.1 h1
        obtain ⟨t, rfl, hin⟩ := ih m cs' elems[j] (by omega) htr (fun q hq => hwi q (.inr (.inl (mem_weightsAll (d := elems[j].1) (List.mem_map.2 ⟨elems[j], List.getElem_mem hje, rfl⟩) hq))))
        obtain ⟨_, hln, hcc⟩ := World.cells?_some hcs
        refine ⟨t, fun r hr => ?_, hin⟩
        have := hcc r (by omega)
        rw [Go.Deep.add_add] at this
        exact this
      have : Inhabited VT := ⟨.nil⟩
      obtain ⟨F, hF⟩ := Go.Deep.choose_lt each
      refine ⟨.mk k i s len (some a) cap F, rfl, ⟨⟨bk.1, bk.2, bi.1, bi.2, hws, hl, ?_, hcm, fun h => by cases h⟩, fun hp => ?_, fun j hj => (hF j hj).2⟩⟩
      · show len ≤ 140737488355328; omega
      · obtain ⟨b, o, spot⟩ := a
        have f0 := (hF 0 hp).1 0 (by omega)
        have hspot : spot = none := by simpa [Addr.add] using World.cell?_spot f0
        subst hspot
        have hbl : b < W.heap.size := by have := cell_lt f0; simpa [Addr.add] using this
        refine ⟨b, o, rfl, hbl, hbl, fun j hj => ?_⟩
        have f := (hF j hj).1
        have q0 := f 0 (by omega)
        have q1 := f 1 (by omega)
        have q2 := f 2 (by omega)
        have q3 := f 3 (by omega)
        rw [add_plain] at q0 q1 q2 q3
        exact ⟨q0, q1, q2, q3⟩
/-- WHAT A VALUE THAT CAME IN IS -/
theorem open_value {H : Type} {enc : TypeId × Value → H} {W : World} {v : Value} {d : DataW H} {p : List MemPlace}
    (hd : DataW.Trod enc Try.prog W 0 (fun _ => true) true 60 v d p) (hw : ∀ n ∈ d.weights Try.prog 60, n ≤ reachBytes) :
    ∃ t : VT, v = t.val ∧ VT.In W (fun b => b < W.heap.size) t := by
  obtain ⟨fuel, hf⟩ := hd
  obtain ⟨t, hc, hin⟩ := open_val fuel fuel _ _ (Nat.le_refl _) hf hw
  refine ⟨t, ?_, hin⟩
  cases v with
  | agg cs =>
    have h2 : cs.toList = t.cells := hc
    obtain ⟨l⟩ := cs
    simp only at h2
    rw [h2]; rfl
  | _ => simp [Value.cells, VT.cells] at hc
end Go.Proofs.Ytckopbkhpbhljaa

namespace Go.Proofs.Ytckopbkhpbhljaa
open Go.ChangeShapes Go.WideShapes Go.ChangeAt Go.RowKit
set_option maxRecDepth 8000

theorem cellsState : Try.prog.cellsOf 24 = 2 := by kernel_rfl
theorem cellsCell : Try.prog.cellsOf 62 = 2 := by kernel_rfl
theorem cellsCells : Try.prog.cellsOf 22 = 1 := by kernel_rfl
theorem bytesI3 : Try.prog.bytesOf 3 = 8 := by kernel_rfl
theorem bytesCell : Try.prog.bytesOf 62 = 40 := by kernel_rfl

/-- the values of a list -/
theorem open_vals {H : Type} {enc : TypeId × Value → H} {W : World} (fuel : Nat) (cs : List Value) (y3 : DataW H × List MemPlace)
    (g3 : DataW.trod enc Try.prog W 0 (fun _ => true) true fuel 58 cs = some y3) (hwi : ∀ n ∈ y3.1.weights Try.prog 58, n ≤ reachBytes) (k i : Int) (s : ByteArray)
    (bk : -9223372036854775808 ≤ k ∧ k ≤ 9223372036854775807) (bi : -9223372036854775808 ≤ i ∧ i ≤ 9223372036854775807) (hws : s.size ≤ 140737488355328) :
    ∃ n p c f, cs = [.slice p n c] ∧ VT.In W (fun b => b < W.heap.size) (.mk k i s n p c f) := by
  rcases DataW.trod_slice Try.underlying58 g3 with ⟨hc, _⟩ | ⟨a, len, cap, elems, rest, m, hm, hc, hx, hb, hl, hcm, hel, hcell, hsp, _⟩
  · exact ⟨0, none, 0, fun _ => .nil, hc, ⟨⟨bk.1, bk.2, bi.1, bi.2, hws, Nat.le_refl 0, by show 0 ≤ 140737488355328; omega, Nat.zero_le _, fun _ => ⟨rfl, rfl⟩⟩, fun h => absurd h (by omega), fun j hj => absurd hj (by omega)⟩⟩
  · have hrest : rest.length = cap - len := (hsp rfl).1
    rw [hx] at hwi
    simp only [DataW.weights, Try.underlying58, List.mem_cons, List.mem_append, List.length_map] at hwi
    have hcb : cap * 56 ≤ reachBytes := by
      have := hwi _ (.inl rfl)
      rw [bytesV] at this
      rw [hel, hrest, show len + (cap - len) = cap by omega] at this
      exact this
    unfold reachBytes at hcb
    have each : ∀ j, j < len → ∃ t : VT, (∀ r, r < 4 → W.cell? (a.add (j * 4 + r)) = t.cells[r]?) ∧ VT.In W (fun b => b < W.heap.size) t := by
      intro j hj
      have h1 := hcell j hj
      have hje : j < elems.length := by omega
      rw [List.getElem?_eq_getElem hje, cellsV] at h1
      obtain ⟨cs', hcs, htr⟩ := Option.bind_eq_some_iff.1 h1
      obtain ⟨t, rfl, hin⟩ := open_val m m cs' elems[j] (Nat.le_refl _) htr (fun q hq => hwi q (.inr (.inl (mem_weightsAll (d := elems[j].1) (List.mem_map.2 ⟨elems[j], List.getElem_mem hje, rfl⟩) hq))))
      obtain ⟨_, hln, hcc⟩ := World.cells?_some hcs
      refine ⟨t, fun r hr => ?_, hin⟩
      have := hcc r (by omega)
      rw [Go.Deep.add_add] at this
      exact this
    have : Inhabited VT := ⟨.nil⟩
    obtain ⟨F, hF⟩ := Go.Deep.choose_lt each
    refine ⟨len, some a, cap, F, hc, ⟨⟨bk.1, bk.2, bi.1, bi.2, hws, hl, ?_, hcm, fun h => by cases h⟩, fun hp => ?_, fun j hj => (hF j hj).2⟩⟩
    · show len ≤ 140737488355328; omega
    · obtain ⟨b, o, spot⟩ := a
      have f0 := (hF 0 hp).1 0 (by omega)
      have hspot : spot = none := by simpa [Addr.add] using World.cell?_spot f0
      subst hspot
      have hbl : b < W.heap.size := by have := cell_lt f0; simpa [Addr.add] using this
      refine ⟨b, o, rfl, hbl, hbl, fun j hj => ?_⟩
      have f := (hF j hj).1
      have q0 := f 0 (by omega)
      have q1 := f 1 (by omega)
      have q2 := f 2 (by omega)
      have q3 := f 3 (by omega)
      rw [add_plain] at q0 q1 q2 q3
      exact ⟨q0, q1, q2, q3⟩

theorem text_fit {H : Type} {fuel : Nat} {W : World} {enc : TypeId × Value → H} {cs : List Value} {y : DataW H × List MemPlace} (g : DataW.trod enc Try.prog W 0 (fun _ => true) true fuel 9 cs = some y) (hw : ∀ n ∈ y.1.weights Try.prog 9, n ≤ reachBytes) : ∃ s : ByteArray, cs = [.string s] ∧ s.size ≤ 140737488355328 := by
  obtain ⟨s, hs, hy2, _⟩ := DataW.trod_string Try.underlying9 g
  refine ⟨s, hs, ?_⟩
  have hm := hw s.data.toList.length (by rw [hy2]; simp [DataW.weights])
  unfold reachBytes at hm
  have e : s.data.toList.length = s.size := by simp
  omega

theorem open_cell {H : Type} {enc : TypeId × Value → H} {W : World} {fuel : Nat} {cs : List Value} {x : DataW H × List MemPlace} (hf : DataW.trod enc Try.prog W 0 (fun _ => true) true fuel 62 cs = some x) (hw : ∀ n ∈ x.1.weights Try.prog 62, n ≤ reachBytes) :
    ∃ t : VT, cs = t.two ∧ VT.In W (fun b => b < W.heap.size) t := by
  obtain ⟨xs, n, rfl, rfl, hlen, hxl, hfs⟩ := DataW.trod_struct Try.underlying62 hf
  rw [cellsCell] at hlen
  match xs, hxl with
  | [y0, y1], _ =>
  match cs, hlen with
  | [v0, v1], _ =>
  have g0 := hfs 0 _ rfl
  have g1 := hfs 1 _ rfl
  simp [cellsStr, cellsVs] at g0 g1
  have w0 : ∀ m ∈ y0.1.weights Try.prog 9, m ≤ reachBytes := fun m hm => hw m (by
    simp only [DataW.weights, Try.underlying62, List.map, DataW.weightsEach, List.mem_append]
    exact .inl hm)
  have w1 : ∀ m ∈ y1.1.weights Try.prog 58, m ≤ reachBytes := fun m hm => hw m (by
    simp only [DataW.weights, Try.underlying62, List.map, DataW.weightsEach, List.mem_append]
    exact .inr (.inl hm))
  obtain ⟨s, hs, hws⟩ := text_fit g0 w0
  obtain ⟨ln, lp, lc, lf, hl, hli⟩ := open_vals n _ y1 g1 w1 0 0 s ⟨by omega, by omega⟩ ⟨by omega, by omega⟩ hws
  simp only [List.cons.injEq, and_true] at hs hl
  subst hs hl
  exact ⟨_, rfl, hli⟩

theorem open_state {H : Type} {enc : TypeId × Value → H} {W : World} {v : Value} {d : DataW H} {p : List MemPlace}
    (hd : DataW.Trod enc Try.prog W 0 (fun _ => true) true 24 v d p) (hw : ∀ n ∈ d.weights Try.prog 24, n ≤ reachBytes) :
    ∃ t : ST, v = t.val ∧ ST.In W (fun b => b < W.heap.size) t := by
  obtain ⟨fuel, hf⟩ := hd
  obtain ⟨xs, n, rfl, hx, hlen, hxl, hfs⟩ := DataW.trod_struct Try.underlying24 hf
  rw [cellsState] at hlen
  obtain ⟨rfl, rfl⟩ : d = _ ∧ p = _ := by simpa using hx
  match xs, hxl with
  | [y0, y1], _ =>
  cases v with
  | agg cs =>
    obtain ⟨cs⟩ := cs
    simp only [Value.cells] at hlen hfs
    match cs, hlen with
    | [v0, v1], _ =>
    have g0 := hfs 0 _ rfl
    have g1 := hfs 1 _ rfl
    simp [cellsI3, cellsCells] at g0 g1
    have hwi : ∀ m ∈ y1.1.weights Try.prog 22, m ≤ reachBytes := fun m hm => hw m (by
      simp only [DataW.weights, Try.underlying24, List.map, DataW.weightsEach, List.mem_append]
      exact .inr (.inl hm))
    obtain ⟨k, hk, _, wk⟩ := DataW.trod_int Try.underlying3 g0
    have bk := bounds_i64 wk
    simp at hk
    subst hk
    rcases DataW.trod_slice Try.underlying22 g1 with ⟨hc, _⟩ | ⟨a, len, cap, elems, rest, m, hm, hc, hx, hb, hl, hcm, hel, hcell, hsp, _⟩
    · simp at hc
      subst hc
      exact ⟨⟨k, none, 0, 0, fun _ => .nil⟩, rfl, fun h => absurd h (by show ¬ (0 < 0); omega), fun j hj => absurd hj (by show ¬ (j < 0); omega), Nat.le_refl 0, by show 0 ≤ 140737488355328; omega, Nat.zero_le _, bk.1, bk.2⟩
    · simp at hc
      subst hc
      have hrest : rest.length = cap - len := (hsp rfl).1
      rw [hx] at hwi
      simp only [DataW.weights, Try.underlying22, List.mem_cons, List.mem_append, List.length_map] at hwi
      have hcb : cap * 40 ≤ reachBytes := by
        have := hwi _ (.inl rfl)
        rw [bytesCell] at this
        rw [hel, hrest, show len + (cap - len) = cap by omega] at this
        exact this
      unfold reachBytes at hcb
      have each : ∀ j, j < len → ∃ t : VT, (∀ r, r < 2 → W.cell? (a.add (j * 2 + r)) = t.two[r]?) ∧ VT.In W (fun b => b < W.heap.size) t := by
        intro j hj
        have h1 := hcell j hj
        have hje : j < elems.length := by omega
        rw [List.getElem?_eq_getElem hje, cellsCell] at h1
        obtain ⟨cs', hcs, htr⟩ := Option.bind_eq_some_iff.1 h1
        obtain ⟨t, rfl, hin⟩ := open_cell htr (fun q hq => hwi q (.inr (.inl (mem_weightsAll (d := elems[j].1) (List.mem_map.2 ⟨elems[j], List.getElem_mem hje, rfl⟩) hq))))
        obtain ⟨_, hln, hcc⟩ := World.cells?_some hcs
        refine ⟨t, fun r hr => ?_, hin⟩
        have := hcc r (by omega)
        rw [Go.Deep.add_add] at this
        exact this
      have : Inhabited VT := ⟨.nil⟩
      obtain ⟨F, hF⟩ := Go.Deep.choose_lt each
      refine ⟨⟨k, some a, len, cap, F⟩, rfl, fun hp => ?_, fun j hj => (hF j hj).2, hl, by show len ≤ 140737488355328; omega, hcm, bk.1, bk.2⟩
      obtain ⟨b, o, spot⟩ := a
      have f0 := (hF 0 hp).1 0 (by omega)
      have hspot : spot = none := by simpa [Addr.add] using World.cell?_spot f0
      subst hspot
      have hbl : b < W.heap.size := by have := cell_lt f0; simpa [Addr.add] using this
      refine ⟨b, o, rfl, hbl, hbl, fun j hj => ?_⟩
      have f := (hF j hj).1
      have q0 := f 0 (by omega)
      have q1 := f 1 (by omega)
      rw [add_plain] at q0 q1
      exact ⟨q0, q1⟩
  | _ => simp [Value.cells] at hlen
end Go.Proofs.Ytckopbkhpbhljaa
