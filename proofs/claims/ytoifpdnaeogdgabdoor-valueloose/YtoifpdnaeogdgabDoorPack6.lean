import Derived.Test.YtoifpdnaeogdgabDoorPack4
import Derived.Test.YtoifpdnaeogdgabDoorShelf
import Derived.Lib.OthersKept
import Derived.Lib.TrimUEq
import Derived.Test.YtoifpdnaeogdgabDoorPack0
import Derived.ProofKit
import Derived.OpenShut
import Derived.ChangeOld
import Derived.SizedLaws
import Derived.Deep.DeepHandedRow
import Derived.Deep.Strs
import Derived.Lib.LaidTab
import Derived.Test.YtoifpdnaeogdgabDoorRows
import Derived.Lib.LaidU8T
import Derived.Lib.LaidIn
namespace Go.Proofs.YtoifpdnaeogdgabDoor
open Go.RowKit
set_option maxRecDepth 8000

/-- the tables that are read: whatever is done from block B on -/
structure Tabs (B : Nat) (w : World) : Prop where
  pow : Go.Lib.TabBelow Tryd.prog B w "internal/strconv.uint64pow10" .u64 Go.Lib.pow10Tab
  utf : ∀ w', Below B w w' → Go.Lib.Utf8Tabs 1 2 w'
theorem Tabs.on {B : Nat} {w w' : World} (h : Tabs B w) (hb : Below B w w') : Tabs B w' := ⟨h.pow.on hb, fun w2 h2 => h.utf w2 (hb.trans h2)⟩
theorem Tabs.mono {B C : Nat} {w : World} (h : Tabs B w) (hb : B ≤ C) : Tabs C w := ⟨fun w2 h2 => h.pow w2 (h2.mono hb), fun w2 h2 => h.utf w2 (h2.mono hb)⟩
theorem LayB.later {base : Nat} {a w w' : World} {v : Value} {zs : List Int} (h : LayB base a zs v w) (hB : base ≤ w.heap.size) (hb : Below w.heap.size w w') : LayB base a zs v w' := ⟨h.own.below hb, h.bel.trans (hb.mono hB), h.keep.trans (KeepN.below hb)⟩
/-- an iterator moves on -/
theorem LayB.iter {base k : Nat} {a w : World} {v : Value} {zs : List Int} {s : ByteArray} {pos : Nat} (h : LayB base a zs v w) (hk : w.heap[k]? = some (.stringIter s pos)) (hka : a.heap.size ≤ k) (hB : base ≤ a.heap.size) (pos' : Nat) : LayB base a zs v (w.iterAt k s pos') := by
  refine ⟨?_, Go.Lib.below_iterAt h.bel (by omega) s pos', fun B o ho hb => ?_⟩
  · refine ownsRow_keep h.own fun g hg hl => Go.Lib.iterAt_other w k g s pos' fun e => ?_
    obtain ⟨_, ⟨hv2, _⟩ | ⟨g', cap, cur, hv2, _, hh, _⟩⟩ := id h.own
    · rw [hv2] at hg; cases hg
    · rw [hv2] at hg
      simp only [Value.ownBlock, Option.some.injEq] at hg
      rw [hg, e, hk] at hh
      cases hh
  · have hl : B < a.heap.size := by
      rcases Nat.lt_or_ge B a.heap.size with h1 | h1
      · exact h1
      · rw [Array.getElem?_eq_none h1] at hb; cases hb
    rw [Go.Lib.iterAt_other w k B s pos' (by omega)]
    exact h.keep B o ho hb
theorem iter_kept {k : Nat} {w w' : World} {s : ByteArray} {pos : Nat} (h : KeepN w w') (hk : w.heap[k]? = some (.stringIter s pos)) : w'.heap[k]? = some (.stringIter s pos) := h k _ (fun _ _ e => by cases e) hk
theorem decGo (s : ByteArray) (pos : Nat) (h : pos < s.size) : Go.Lib.decodeGo (s.extract pos s.size) = Utf8.decode s pos := by
  have hx : (s.extract pos s.size).data.toList = s.data.toList.drop pos := by
    rw [Go.Lib.extract_data, List.take_of_length_le (by rw [List.length_drop, ← Go.Lib.size_eq]; omega)]
  have hsz : (s.extract pos s.size).size ≠ 0 := by rw [Go.Lib.size_eq, hx, List.length_drop, ← Go.Lib.size_eq]; omega
  unfold Go.Lib.decodeGo
  rw [if_neg hsz, ← Go.Lib.decodeL_drop s pos, ← hx]
  rfl
theorem txt_cut (s : ByteArray) (a b : Nat) : txtB (s.extract a b) = ((txtB s).drop a).take (b - a) := by
  unfold txtB
  rw [Go.Lib.extract_data, List.map_take, List.map_drop]
theorem newsB2 (w : World) (a b : Value) (e : TypeId) : ∀ j u, [a, b][j]? = some u → (w.alloc (.cells #[a, b] e)).cell? ((⟨w.heap.size, 0, none⟩ : Addr).add j) = some u := by
  intro j u h
  rw [cell_new, ← h]
  simp
theorem one8s {a b : Int} : ∀ u ∈ [Value.int .u8 a, Value.int .u8 b], u.oneCell' = true := by
  intro u hu
  simp only [List.mem_cons, List.not_mem_nil, or_false] at hu
  rcases hu with rfl | rfl <;> rfl
/-- the round's end -/
theorem quo_rel {base k pos wd f : Nat} {w w3 wr : World} {s : ByteArray} {zs ys L P : List Int} {v3 : Value} (hL : L = zs ++ [34] ++ ys) (hP : piece s pos = P) (hF : LayB base w (L ++ P) v3 w3) (hit : w3.heap[k]? = some (.stringIter s (pos + wd))) (hq : ys ++ (piece s pos ++ quoF s f (pos + wd)) = quoF s s.size 0) (hfu : s.size ≤ pos + (f + 1)) (hwd : 1 ≤ wd) (hp : pos < s.size) (hm : World.iterPos wr k = pos) :
    (∃ (pos fuel : Nat) (ys : List Int), LayB base w (zs ++ [34] ++ ys) v3 w3 ∧ w3.heap[k]? = some (.stringIter s pos) ∧ ys ++ quoF s fuel pos = quoF s s.size 0 ∧ s.size ≤ pos + fuel) ∧ s.size - World.iterPos w3 k < s.size - World.iterPos wr k := by
  refine ⟨⟨pos + wd, f, ys ++ P, ?_, hit, ?_, by omega⟩, ?_⟩
  · rw [hL] at hF
    rw [← List.append_assoc]
    exact hF
  · rw [List.append_assoc, ← hP]
    exact hq
  · rw [hm]
    simp only [World.iterPos, hit]
    omega
end Go.Proofs.YtoifpdnaeogdgabDoor

namespace Go.Proofs.YtoifpdnaeogdgabDoor
open Go.ChangeShapes Go.WideShapes Go.ChangeAt Go.RowKit
set_option maxRecDepth 8000

theorem own : ownKnob Tryd.prog.godebug = none := by kernel_rfl
theorem laidOut : laidOutB Tryd.prog = true := by kernel_rfl
theorem cell_lt {w : World} {a : Addr} {v : Value} (h : w.cell? a = some v) : a.block < w.heap.size := by
  rcases Nat.lt_or_ge a.block w.heap.size with h1 | h1
  · exact h1
  · simp [World.cell?, Array.getElem?_eq_none h1] at h
theorem cellsV : Tryd.prog.cellsOf 24 = 4 := by kernel_rfl
theorem bytesV : Tryd.prog.bytesOf 24 = 56 := by kernel_rfl
theorem cellsVs : Tryd.prog.cellsOf 22 = 1 := by kernel_rfl
theorem cellsI3 : Tryd.prog.cellsOf 3 = 1 := by kernel_rfl
theorem cellsI2 : Tryd.prog.cellsOf 2 = 1 := by kernel_rfl
theorem cellsStr : Tryd.prog.cellsOf 9 = 1 := by kernel_rfl

theorem mem_weightsAll {H : Type} {P : Program} {e : TypeId} : ∀ {l : List (DataW H)} {d : DataW H} {n : Nat}, d ∈ l → n ∈ d.weights P e → n ∈ DataW.weightsAll P e l
  | [], _, _, h, _ => by cases h
  | x :: r, d, n, h, hn => by
    simp only [DataW.weightsAll, List.mem_append]
    rcases List.mem_cons.1 h with rfl | h
    · exact .inl hn
    · exact .inr (mem_weightsAll h hn)

theorem open_val {H : Type} {enc : TypeId × Value → H} {W : World} : ∀ (N fuel : Nat) (cs : List Value) (x : DataW H × List MemPlace), fuel ≤ N →
    DataW.trod enc Tryd.prog W 0 (fun _ => true) true fuel 24 cs = some x → (∀ n ∈ x.1.weights Tryd.prog 24, n ≤ reachBytes) → ∃ t : VT, cs = t.cells ∧ VT.In W (fun b => b < W.heap.size) t := by
  intro N
  induction N with
  | zero =>
    intro fuel cs x hf h
    obtain rfl : fuel = 0 := by omega
    simp [DataW.trod] at h
  | succ N ih =>
    intro fuel cs x hf h hw
    obtain ⟨xs, n, rfl, rfl, hlen, hxl, hfs⟩ := DataW.trod_struct Tryd.underlying24 h
    rw [cellsV] at hlen
    match xs, hxl with
    | [y0, y1, y2, y3], _ =>
    match cs, hlen with
    | [v0, v1, v2, v3], _ =>
    have g0 := hfs 0 _ rfl
    have g1 := hfs 1 _ rfl
    have g2 := hfs 2 _ rfl
    have g3 := hfs 3 _ rfl
    simp [cellsI3, cellsI2, cellsStr, cellsVs] at g0 g1 g2 g3
    obtain ⟨k, hk, _, wk⟩ := DataW.trod_int Tryd.underlying3 g0
    obtain ⟨i, hi, _, wi⟩ := DataW.trod_int Tryd.underlying2 g1
    obtain ⟨s, hs, hy2, _⟩ := DataW.trod_string Tryd.underlying9 g2
    have bk := bounds_i64 wk
    have bi := bounds_i64 wi
    simp at hk hi hs
    subst hk hi hs
    have hws : s.size ≤ 140737488355328 := by
      have hm := hw s.data.toList.length (by
        rw [hy2]
        simp [DataW.weights, DataW.weightsEach, Tryd.underlying24])
      unfold reachBytes at hm
      have e : s.data.toList.length = s.size := by simp
      omega
    have hwi : ∀ m ∈ y3.1.weights Tryd.prog 22, m ≤ reachBytes := fun m hm => hw m (by
      simp only [DataW.weights, Tryd.underlying24, List.map, DataW.weightsEach, List.mem_append]
      exact .inr (.inr (.inr (.inl hm))))
    rcases DataW.trod_slice Tryd.underlying22 g3 with ⟨hc, _⟩ | ⟨a, len, cap, elems, rest, m, hm, hc, hx, hb, hl, hcm, hel, hcell, hsp, _⟩
    · simp at hc
      subst hc
      refine ⟨.mk k i s 0 none 0 (fun _ => .nil), rfl, ⟨⟨bk.1, bk.2, bi.1, bi.2, hws, Nat.le_refl 0, by show 0 ≤ 140737488355328; omega, Nat.zero_le _, fun _ => ⟨rfl, rfl⟩⟩, fun h => absurd h (by omega), fun j hj => absurd hj (by omega)⟩⟩
    · simp at hc
      subst hc
      have hrest : rest.length = cap - len := (hsp rfl).1
      rw [hx] at hwi
      simp only [DataW.weights, Tryd.underlying22, List.mem_cons, List.mem_append, List.length_map] at hwi
      have hcb : cap * 56 ≤ reachBytes := by
        have := hwi _ (.inl rfl)
        rw [bytesV] at this
        rw [hel, hrest, show len + (cap - len) = cap by omega] at this
        exact this
      unfold reachBytes at hcb
      have each : ∀ j, j < len → ∃ t : VT, (∀ r, r < 4 → W.cell? (a.add (j * 4 + r)) = t.cells[r]?) ∧ VT.In W (fun b => b < W.heap.size) t := by
        intro j hj
        have h1 := hcell j hj
        have hje : j < elems.length := by omega
        rw [List.getElem?_eq_getElem hje, cellsV] at h1
        obtain ⟨cs', hcs, htr⟩ := Option.bind_eq_some_iff.1 h1
        obtain ⟨t, rfl, hin⟩ := ih m cs' elems[j] (by omega) htr (fun q hq => hwi q (.inr (.inl (mem_weightsAll (d := elems[j].1) (List.mem_map.2 ⟨elems[j], List.getElem_mem hje, rfl⟩) hq))))
        obtain ⟨_, hln, hcc⟩ := World.cells?_some hcs
        refine ⟨t, fun r hr => ?_, hin⟩
        have := hcc r (by omega)
        rw [Go.Deep.add_add] at this
        exact this
      have : Inhabited VT := ⟨.nil⟩
      obtain ⟨F, hF⟩ := Go.Deep.choose_lt each
      refine ⟨.mk k i s len (some a) cap F, rfl, ⟨⟨bk.1, bk.2, bi.1, bi.2, hws, hl, ?_, hcm, fun h => by cases h⟩, fun hp => ?_, fun j hj => (hF j hj).2⟩⟩
      · show len ≤ 140737488355328; omega
      · obtain ⟨b, o, spot⟩ := a
        have f0 := (hF 0 hp).1 0 (by omega)
        have hspot : spot = none := by simpa [Addr.add] using World.cell?_spot f0
        subst hspot
        have hbl : b < W.heap.size := by have := cell_lt f0; simpa [Addr.add] using this
        refine ⟨b, o, rfl, hbl, hbl, fun j hj => ?_⟩
        have f := (hF j hj).1
        have q0 := f 0 (by omega)
        have q1 := f 1 (by omega)
        have q2 := f 2 (by omega)
        have q3 := f 3 (by omega)
        rw [add_plain] at q0 q1 q2 q3
        exact ⟨q0, q1, q2, q3⟩
/-- WHAT A VALUE THAT CAME IN IS -/
theorem open_value {H : Type} {enc : TypeId × Value → H} {W : World} {v : Value} {d : DataW H} {p : List MemPlace}
    (hd : DataW.Trod enc Tryd.prog W 0 (fun _ => true) true 24 v d p) (hw : ∀ n ∈ d.weights Tryd.prog 24, n ≤ reachBytes) :
    ∃ t : VT, v = t.val ∧ VT.In W (fun b => b < W.heap.size) t := by
  obtain ⟨fuel, hf⟩ := hd
  obtain ⟨t, hc, hin⟩ := open_val fuel fuel _ _ (Nat.le_refl _) hf hw
  refine ⟨t, ?_, hin⟩
  cases v with
  | agg cs =>
    have h2 : cs.toList = t.cells := hc
    obtain ⟨l⟩ := cs
    simp only at h2
    rw [h2]; rfl
  | _ => simp [Value.cells, VT.cells] at hc
end Go.Proofs.YtoifpdnaeogdgabDoor

namespace Go.Proofs.YtoifpdnaeogdgabDoor
open Go.ChangeShapes Go.WideShapes Go.ChangeAt Go.RowKit
set_option maxRecDepth 8000

/-- what the listed tables give -/
theorem pow_of_laid {W : World} {l : List (String × DataW Unit)} (h : laidMet Tryd.prog l W) (h1 : ("internal/strconv.uint64pow10", Rows.laid_internal_strconv_uint64pow10) ∈ l) : Lib.TabIs Tryd.prog W "internal/strconv.uint64pow10" .u64 Lib.pow10Tab := by
  obtain ⟨g, t, cs, fuel, p, hg, hty, hvar, hd⟩ := Lib.laidMet.reads h h1
  obtain rfl := Option.some.inj ((show Tryd.prog.globalNamed "internal/strconv.uint64pow10" = some 5 by kernel_rfl).symm.trans hg)
  obtain rfl := Option.some.inj ((show (Tryd.prog.globals[5]?).map (·.type) = some 118 by kernel_rfl).symm.trans hty)
  rw [show (Rows.laid_internal_strconv_uint64pow10 : DataW Unit) = Lib.tabData .u64 Lib.pow10Tab by kernel_rfl] at hd
  unfold Lib.TabIs
  rw [hvar, ← Lib.cells_of_tab Tryd.underlying118 Tryd.underlying89 (by kernel_rfl) (by kernel_rfl) hd]

theorem utf_of_laid {W : World} {l : List (String × DataW Unit)} (h : laidMet Tryd.prog l W) (h1 : ("unicode/utf8.first", Rows.laid_unicode_utf8_first) ∈ l) (h2 : ("unicode/utf8.acceptRanges", Rows.laid_unicode_utf8_acceptRanges) ∈ l) : Lib.Utf8Tabs 1 2 W := by
  have r1 := Lib.laidMet.reads h h1
  have r2 := Lib.laidMet.reads h h2
  rw [show Rows.laid_unicode_utf8_first = Lib.firstData by kernel_rfl] at r1
  rw [show (Rows.laid_unicode_utf8_acceptRanges : DataW Unit) = Lib.acceptData by kernel_rfl] at r2
  exact utf8Tabs_of_readsT (ρ := Tryd.lays197_ren) { Tryd.lays197 with } ⟨by kernel_rfl, by kernel_rfl, by kernel_rfl, by kernel_rfl, by kernel_rfl, by kernel_rfl, by kernel_rfl⟩ r1 r2

theorem utf_below {W w' : World} (h : Lib.Utf8Tabs 1 2 W) (hb : Below W.heap.size W w') : Lib.Utf8Tabs 1 2 w' := by
  obtain ⟨ha, hc⟩ := h
  refine ⟨fun c hc' => ?_, fun i hi => ⟨?_, ?_⟩⟩
  · exact (hb.cell (p := ⟨1, c, none⟩) (cell_lt (ha c hc'))).trans (ha c hc')
  · exact (hb.cell (p := ⟨2, _, none⟩) (cell_lt (hc i hi).1)).trans (hc i hi).1
  · exact (hb.cell (p := ⟨2, _, none⟩) (cell_lt (hc i hi).2)).trans (hc i hi).2

theorem tabs_of_laid {W : World} {l : List (String × DataW Unit)} (h : laidMet Tryd.prog l W) (h0 : ("internal/strconv.uint64pow10", Rows.laid_internal_strconv_uint64pow10) ∈ l) (h1 : ("unicode/utf8.first", Rows.laid_unicode_utf8_first) ∈ l) (h2 : ("unicode/utf8.acceptRanges", Rows.laid_unicode_utf8_acceptRanges) ∈ l) : Tabs W.heap.size W :=
  ⟨Lib.tabBelow_of_tabIs (pow_of_laid h h0), fun _ hb => utf_below (utf_of_laid h h1 h2) hb⟩

/-- FOR THE WITNESS: a world, the five tables holding what their initialisers lay -/
def putCells (cs : Array Value) : Obj → Obj
  | .cells _ t frozen => .cells cs t frozen
  | o => o
/-- the integers of a listed datum -/
def datumCells : DataW Unit → Array Value
  | .agg ds => (ds.flatMap fun
    | .lit (.int k z) => [Value.int k z]
    | .agg es => es.flatMap fun
      | .lit (.int k z) => [Value.int k z]
      | _ => []
    | _ => []).toArray
  | _ => #[]
noncomputable def layTabs (w : World) : World :=
  { w with heap := ((((w.heap.modify 1 (putCells (datumCells Rows.laid_unicode_utf8_first))).modify 2 (putCells (datumCells Rows.laid_unicode_utf8_acceptRanges))).modify 5 (putCells (datumCells Rows.laid_internal_strconv_uint64pow10))).modify 6 (putCells (datumCells Rows.laid_math_bits_deBruijn32tab))).modify 7 (putCells (datumCells Rows.laid_math_bits_deBruijn64tab)) }
end Go.Proofs.YtoifpdnaeogdgabDoor
