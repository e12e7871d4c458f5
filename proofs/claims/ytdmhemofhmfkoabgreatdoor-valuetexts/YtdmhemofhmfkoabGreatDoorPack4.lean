import Derived.Test.YtdmhemofhmfkoabGreatDoorPack2
import Derived.Test.YtdmhemofhmfkoabGreatDoorShelf
import Derived.Lib.OthersKept
import Derived.Lib.TrimUEq
import Derived.Test.YtdmhemofhmfkoabGreatDoorPack0
import Derived.ProofKit
import Derived.OpenShut
import Derived.ChangeOld
import Derived.SizedLaws
import Derived.Deep.DeepHandedRow
import Derived.Deep.Strs
import Derived.Lib.LaidTab
import Derived.Test.YtdmhemofhmfkoabGreatDoorRows
import Derived.Lib.LaidU8T
import Derived.Lib.LaidIn
import Derived.Test.YtdmhemofhmfkoabGreatDoorPack1
namespace Go.Proofs.YtdmhemofhmfkoabGreatDoor
open Go.RowKit
set_option maxRecDepth 8000

/-- the tables that are read: whatever is done from block B on -/
structure Tabs (B : Nat) (w : World) : Prop where
  pow : Go.Lib.TabBelow Tryz.prog B w "internal/strconv.uint64pow10" .u64 Go.Lib.pow10Tab
  utf : ∀ w', Below B w w' → Go.Lib.Utf8Tabs 1 2 w'
theorem Tabs.on {B : Nat} {w w' : World} (h : Tabs B w) (hb : Below B w w') : Tabs B w' := ⟨h.pow.on hb, fun w2 h2 => h.utf w2 (hb.trans h2)⟩
theorem Tabs.mono {B C : Nat} {w : World} (h : Tabs B w) (hb : B ≤ C) : Tabs C w := ⟨fun w2 h2 => h.pow w2 (h2.mono hb), fun w2 h2 => h.utf w2 (h2.mono hb)⟩
theorem LayB.later {base : Nat} {a w w' : World} {v : Value} {zs : List Int} (h : LayB base a zs v w) (hB : base ≤ w.heap.size) (hb : Below w.heap.size w w') : LayB base a zs v w' := ⟨h.own.below hb, h.bel.trans (hb.mono hB), h.keep.trans (KeepN.below hb)⟩
/-- an iterator moves on -/
theorem LayB.iter {base k : Nat} {a w : World} {v : Value} {zs : List Int} {s : ByteArray} {pos : Nat} (h : LayB base a zs v w) (hk : w.heap[k]? = some (.stringIter s pos)) (hka : a.heap.size ≤ k) (hB : base ≤ a.heap.size) (pos' : Nat) : LayB base a zs v (w.iterAt k s pos') := by
  refine ⟨?_, Go.Lib.below_iterAt h.bel (by omega) s pos', fun B o ho hb => ?_⟩
  · refine ownsRow_keep h.own fun g hg hl => Go.Lib.iterAt_other w k g s pos' fun e => ?_
    obtain ⟨_, ⟨hv2, _⟩ | ⟨g', cap, cur, hv2, _, hh, _⟩⟩ := id h.own
    · rw [hv2] at hg; cases hg
    · rw [hv2] at hg
      simp only [Value.ownBlock, Option.some.injEq] at hg
      rw [hg, e, hk] at hh
      cases hh
  · have hl : B < a.heap.size := by
      rcases Nat.lt_or_ge B a.heap.size with h1 | h1
      · exact h1
      · rw [Array.getElem?_eq_none h1] at hb; cases hb
    rw [Go.Lib.iterAt_other w k B s pos' (by omega)]
    exact h.keep B o ho hb
theorem iter_kept {k : Nat} {w w' : World} {s : ByteArray} {pos : Nat} (h : KeepN w w') (hk : w.heap[k]? = some (.stringIter s pos)) : w'.heap[k]? = some (.stringIter s pos) := h k _ (fun _ _ e => by cases e) hk
theorem decGo (s : ByteArray) (pos : Nat) (h : pos < s.size) : Go.Lib.decodeGo (s.extract pos s.size) = Utf8.decode s pos := by
  have hx : (s.extract pos s.size).data.toList = s.data.toList.drop pos := by
    rw [Go.Lib.extract_data, List.take_of_length_le (by rw [List.length_drop, ← Go.Lib.size_eq]; omega)]
  have hsz : (s.extract pos s.size).size ≠ 0 := by rw [Go.Lib.size_eq, hx, List.length_drop, ← Go.Lib.size_eq]; omega
  unfold Go.Lib.decodeGo
  rw [if_neg hsz, ← Go.Lib.decodeL_drop s pos, ← hx]
  rfl
theorem txt_cut (s : ByteArray) (a b : Nat) : txtB (s.extract a b) = ((txtB s).drop a).take (b - a) := by
  unfold txtB
  rw [Go.Lib.extract_data, List.map_take, List.map_drop]
theorem newsB2 (w : World) (a b : Value) (e : TypeId) : ∀ j u, [a, b][j]? = some u → (w.alloc (.cells #[a, b] e)).cell? ((⟨w.heap.size, 0, none⟩ : Addr).add j) = some u := by
  intro j u h
  rw [cell_new, ← h]
  simp
theorem one8s {a b : Int} : ∀ u ∈ [Value.int .u8 a, Value.int .u8 b], u.oneCell' = true := by
  intro u hu
  simp only [List.mem_cons, List.not_mem_nil, or_false] at hu
  rcases hu with rfl | rfl <;> rfl
/-- the round's end -/
theorem quo_rel {base k pos wd f : Nat} {w w3 wr : World} {s : ByteArray} {zs ys L P : List Int} {v3 : Value} (hL : L = zs ++ [34] ++ ys) (hP : piece s pos = P) (hF : LayB base w (L ++ P) v3 w3) (hit : w3.heap[k]? = some (.stringIter s (pos + wd))) (hq : ys ++ (piece s pos ++ quoF s f (pos + wd)) = quoF s s.size 0) (hfu : s.size ≤ pos + (f + 1)) (hwd : 1 ≤ wd) (hp : pos < s.size) (hm : World.iterPos wr k = pos) :
    (∃ (pos fuel : Nat) (ys : List Int), LayB base w (zs ++ [34] ++ ys) v3 w3 ∧ w3.heap[k]? = some (.stringIter s pos) ∧ ys ++ quoF s fuel pos = quoF s s.size 0 ∧ s.size ≤ pos + fuel) ∧ s.size - World.iterPos w3 k < s.size - World.iterPos wr k := by
  refine ⟨⟨pos + wd, f, ys ++ P, ?_, hit, ?_, by omega⟩, ?_⟩
  · rw [hL] at hF
    rw [← List.append_assoc]
    exact hF
  · rw [List.append_assoc, ← hP]
    exact hq
  · rw [hm]
    simp only [World.iterPos, hit]
    omega
end Go.Proofs.YtdmhemofhmfkoabGreatDoor

namespace Go.Proofs.YtdmhemofhmfkoabGreatDoor
open Go.ChangeShapes Go.WideShapes Go.ChangeAt Go.RowKit
set_option maxRecDepth 8000

theorem own : ownKnob Tryz.prog.godebug = none := by kernel_rfl
theorem laidOut : laidOutB Tryz.prog = true := by kernel_rfl
theorem cell_lt {w : World} {a : Addr} {v : Value} (h : w.cell? a = some v) : a.block < w.heap.size := by
  rcases Nat.lt_or_ge a.block w.heap.size with h1 | h1
  · exact h1
  · simp [World.cell?, Array.getElem?_eq_none h1] at h
theorem cellsV : Tryz.prog.cellsOf 24 = 4 := by kernel_rfl
theorem bytesV : Tryz.prog.bytesOf 24 = 56 := by kernel_rfl
theorem cellsVs : Tryz.prog.cellsOf 22 = 1 := by kernel_rfl
theorem cellsI3 : Tryz.prog.cellsOf 3 = 1 := by kernel_rfl
theorem cellsI2 : Tryz.prog.cellsOf 2 = 1 := by kernel_rfl
theorem cellsStr : Tryz.prog.cellsOf 9 = 1 := by kernel_rfl

theorem mem_weightsAll {H : Type} {P : Program} {e : TypeId} : ∀ {l : List (DataW H)} {d : DataW H} {n : Nat}, d ∈ l → n ∈ d.weights P e → n ∈ DataW.weightsAll P e l
  | [], _, _, h, _ => by cases h
  | x :: r, d, n, h, hn => by
    simp only [DataW.weightsAll, List.mem_append]
    rcases List.mem_cons.1 h with rfl | h
    · exact .inl hn
    · exact .inr (mem_weightsAll h hn)

theorem open_val {H : Type} {enc : TypeId × Value → H} {W : World} : ∀ (N fuel : Nat) (cs : List Value) (x : DataW H × List MemPlace), fuel ≤ N →
    DataW.trod enc Tryz.prog W 0 (fun _ => true) true fuel 24 cs = some x → (∀ n ∈ x.1.weights Tryz.prog 24, n ≤ reachBytes) → ∃ t : VT, cs = t.cells ∧ VT.In W (fun b => b < W.heap.size) t := by
  intro N
  induction N with
  | zero =>
    intro fuel cs x hf h
    obtain rfl : fuel = 0 := by omega
    simp [DataW.trod] at h
  | succ N ih =>
    intro fuel cs x hf h hw
    obtain ⟨xs, n, rfl, rfl, hlen, hxl, hfs⟩ := DataW.trod_struct Tryz.underlying24 h
    rw [cellsV] at hlen
    match xs, hxl with
    | [y0, y1, y2, y3], _ =>
    match cs, hlen with
    | [v0, v1, v2, v3], _ =>
    have g0 := hfs 0 _ rfl
    have g1 := hfs 1 _ rfl
    have g2 := hfs 2 _ rfl
    have g3 := hfs 3 _ rfl
    simp [cellsI3, cellsI2, cellsStr, cellsVs] at g0 g1 g2 g3
    obtain ⟨k, hk, _, wk⟩ := DataW.trod_int Tryz.underlying3 g0
    obtain ⟨i, hi, _, wi⟩ := DataW.trod_int Tryz.underlying2 g1
    obtain ⟨s, hs, hy2, _⟩ := DataW.trod_string Tryz.underlying9 g2
    have bk := bounds_i64 wk
    have bi := bounds_i64 wi
    simp at hk hi hs
    subst hk hi hs
    have hws : s.size ≤ 140737488355328 := by
      have hm := hw s.data.toList.length (by
        rw [hy2]
        simp [DataW.weights, DataW.weightsEach, Tryz.underlying24])
      unfold reachBytes at hm
      have e : s.data.toList.length = s.size := by simp
      omega
    have hwi : ∀ m ∈ y3.1.weights Tryz.prog 22, m ≤ reachBytes := fun m hm => hw m (by
      simp only [DataW.weights, Tryz.underlying24, List.map, DataW.weightsEach, List.mem_append]
      exact .inr (.inr (.inr (.inl hm))))
    rcases DataW.trod_slice Tryz.underlying22 g3 with ⟨hc, _⟩ | ⟨a, len, cap, elems, rest, m, hm, hc, hx, hb, hl, hcm, hel, hcell, hsp, _⟩
    · simp at hc
      subst hc
      refine ⟨.mk k i s 0 none 0 (fun _ => .nil), rfl, ⟨⟨bk.1, bk.2, bi.1, bi.2, hws, Nat.le_refl 0, by show 0 ≤ 140737488355328; omega, Nat.zero_le _, fun _ => ⟨rfl, rfl⟩⟩, fun h => absurd h (by omega), fun j hj => absurd hj (by omega)⟩⟩
    · simp at hc
      subst hc
      have hrest : rest.length = cap - len := (hsp rfl).1
      rw [hx] at hwi
      simp only [DataW.weights, Tryz.underlying22, List.mem_cons, List.mem_append, List.length_map] at hwi
      have hcb : cap * 56 ≤ reachBytes := by
        have := hwi _ (.inl rfl)
        rw [bytesV] at this
        rw [hel, hrest, show len + (cap - len) = cap by omega] at this
        exact this
      unfold reachBytes at hcb
      have each : ∀ j, j < len → ∃ t : VT, (∀ r, r < 4 → W.cell? (a.add (j * 4 + r)) = t.cells[r]?) ∧ VT.In W (fun b => b < W.heap.size) t := by
        intro j hj
        have h1 := hcell j hj
        have hje : j < elems.length := by omega
        rw [List.getElem?_eq_getElem hje, cellsV] at h1
        obtain ⟨cs', hcs, htr⟩ := Option.bind_eq_some_iff.1 h1
        obtain ⟨t, rfl, hin⟩ := ih m cs' elems[j] (by omega) htr (fun q hq => hwi q (.inr (.inl (mem_weightsAll (d := elems[j].1) (List.mem_map.2 ⟨elems[j], List.getElem_mem hje, rfl⟩) hq))))
        obtain ⟨_, hln, hcc⟩ := World.cells?_some hcs
        refine ⟨t, fun r hr => ?_, hin⟩
        have := hcc r (by omega)
        rw [Go.Deep.add_add] at this
        exact this
      have : Inhabited VT := ⟨.nil⟩
      obtain ⟨F, hF⟩ := Go.Deep.choose_lt each
      refine ⟨.mk k i s len (some a) cap F, rfl, ⟨⟨bk.1, bk.2, bi.1, bi.2, hws, hl, ?_, hcm, fun h => by cases h⟩, fun hp => ?_, fun j hj => (hF j hj).2⟩⟩
      · show len ≤ 140737488355328; omega
      · obtain ⟨b, o, spot⟩ := a
        have f0 := (hF 0 hp).1 0 (by omega)
        have hspot : spot = none := by simpa [Addr.add] using World.cell?_spot f0
        subst hspot
        have hbl : b < W.heap.size := by have := cell_lt f0; simpa [Addr.add] using this
        refine ⟨b, o, rfl, hbl, hbl, fun j hj => ?_⟩
        have f := (hF j hj).1
        have q0 := f 0 (by omega)
        have q1 := f 1 (by omega)
        have q2 := f 2 (by omega)
        have q3 := f 3 (by omega)
        rw [add_plain] at q0 q1 q2 q3
        exact ⟨q0, q1, q2, q3⟩
/-- WHAT A VALUE THAT CAME IN IS -/
theorem open_value {H : Type} {enc : TypeId × Value → H} {W : World} {v : Value} {d : DataW H} {p : List MemPlace}
    (hd : DataW.Trod enc Tryz.prog W 0 (fun _ => true) true 24 v d p) (hw : ∀ n ∈ d.weights Tryz.prog 24, n ≤ reachBytes) :
    ∃ t : VT, v = t.val ∧ VT.In W (fun b => b < W.heap.size) t := by
  obtain ⟨fuel, hf⟩ := hd
  obtain ⟨t, hc, hin⟩ := open_val fuel fuel _ _ (Nat.le_refl _) hf hw
  refine ⟨t, ?_, hin⟩
  cases v with
  | agg cs =>
    have h2 : cs.toList = t.cells := hc
    obtain ⟨l⟩ := cs
    simp only at h2
    rw [h2]; rfl
  | _ => simp [Value.cells, VT.cells] at hc
end Go.Proofs.YtdmhemofhmfkoabGreatDoor

namespace Go.Proofs.YtdmhemofhmfkoabGreatDoor
open Go.ChangeShapes Go.WideShapes Go.ChangeAt Go.RowKit
set_option maxRecDepth 8000

/-- what the listed tables give -/
theorem pow_of_laid {W : World} {l : List (String × DataW Unit)} (h : laidMet Tryz.prog l W) (h1 : ("internal/strconv.uint64pow10", Rows.laid_internal_strconv_uint64pow10) ∈ l) : Lib.TabIs Tryz.prog W "internal/strconv.uint64pow10" .u64 Lib.pow10Tab := by
  obtain ⟨g, t, cs, fuel, p, hg, hty, hvar, hd⟩ := Lib.laidMet.reads h h1
  obtain rfl := Option.some.inj ((show Tryz.prog.globalNamed "internal/strconv.uint64pow10" = some 3 by kernel_rfl).symm.trans hg)
  obtain rfl := Option.some.inj ((show (Tryz.prog.globals[3]?).map (·.type) = some 181 by kernel_rfl).symm.trans hty)
  rw [show (Rows.laid_internal_strconv_uint64pow10 : DataW Unit) = Lib.tabData .u64 Lib.pow10Tab by kernel_rfl] at hd
  unfold Lib.TabIs
  rw [hvar, ← Lib.cells_of_tab Tryz.underlying181 Tryz.underlying106 (by kernel_rfl) (by kernel_rfl) hd]

theorem utf_of_laid {W : World} {l : List (String × DataW Unit)} (h : laidMet Tryz.prog l W) (h1 : ("unicode/utf8.first", Rows.laid_unicode_utf8_first) ∈ l) (h2 : ("unicode/utf8.acceptRanges", Rows.laid_unicode_utf8_acceptRanges) ∈ l) : Lib.Utf8Tabs 1 2 W := by
  have r1 := Lib.laidMet.reads h h1
  have r2 := Lib.laidMet.reads h h2
  rw [show Rows.laid_unicode_utf8_first = Lib.firstData by kernel_rfl] at r1
  rw [show (Rows.laid_unicode_utf8_acceptRanges : DataW Unit) = Lib.acceptData by kernel_rfl] at r2
  exact utf8Tabs_of_readsT (ρ := Tryz.lays197_ren) { Tryz.lays197 with } ⟨by kernel_rfl, by kernel_rfl, by kernel_rfl, by kernel_rfl, by kernel_rfl, by kernel_rfl, by kernel_rfl⟩ r1 r2

theorem utf_below {W w' : World} (h : Lib.Utf8Tabs 1 2 W) (hb : Below W.heap.size W w') : Lib.Utf8Tabs 1 2 w' := by
  obtain ⟨ha, hc⟩ := h
  refine ⟨fun c hc' => ?_, fun i hi => ⟨?_, ?_⟩⟩
  · exact (hb.cell (p := ⟨1, c, none⟩) (cell_lt (ha c hc'))).trans (ha c hc')
  · exact (hb.cell (p := ⟨2, _, none⟩) (cell_lt (hc i hi).1)).trans (hc i hi).1
  · exact (hb.cell (p := ⟨2, _, none⟩) (cell_lt (hc i hi).2)).trans (hc i hi).2

theorem tabs_of_laid {W : World} {l : List (String × DataW Unit)} (h : laidMet Tryz.prog l W) (h0 : ("internal/strconv.uint64pow10", Rows.laid_internal_strconv_uint64pow10) ∈ l) (h1 : ("unicode/utf8.first", Rows.laid_unicode_utf8_first) ∈ l) (h2 : ("unicode/utf8.acceptRanges", Rows.laid_unicode_utf8_acceptRanges) ∈ l) : Tabs W.heap.size W :=
  ⟨Lib.tabBelow_of_tabIs (pow_of_laid h h0), fun _ hb => utf_below (utf_of_laid h h1 h2) hb⟩

/-- FOR THE WITNESS: a world, the five tables holding what their initialisers lay -/
def putCells (cs : Array Value) : Obj → Obj
  | .cells _ t frozen => .cells cs t frozen
  | o => o
/-- the integers of a listed datum -/
def datumCells : DataW Unit → Array Value
  | .agg ds => (ds.flatMap fun
    | .lit (.int k z) => [Value.int k z]
    | .agg es => es.flatMap fun
      | .lit (.int k z) => [Value.int k z]
      | _ => []
    | _ => []).toArray
  | _ => #[]
noncomputable def layTabs (w : World) : World :=
  { w with heap := ((((w.heap.modify 1 (putCells (datumCells Rows.laid_unicode_utf8_first))).modify 2 (putCells (datumCells Rows.laid_unicode_utf8_acceptRanges))).modify 3 (putCells (datumCells Rows.laid_internal_strconv_uint64pow10))).modify 6 (putCells (datumCells Rows.laid_math_bits_deBruijn32tab))).modify 7 (putCells (datumCells Rows.laid_math_bits_deBruijn64tab)) }
end Go.Proofs.YtdmhemofhmfkoabGreatDoor

namespace Go.Proofs.YtdmhemofhmfkoabGreatDoor
open Go.RowKit
set_option maxRecDepth 8000
/-- bytes in a row, in a block of S -/
structure Byts (w : World) (S : Nat → Prop) (p : Option Addr) (n c : Nat) (f : Nat → Int) : Prop where
  at_ : 0 < n → ∃ b o, p = some ⟨b, o, none⟩ ∧ S b ∧ b < w.heap.size ∧ ∀ j, j < n → w.cell? ⟨b, o + j, none⟩ = some (.int .u8 (f j))
  nc : n ≤ c
  nn : n ≤ 140737488355328
  cc : c ≤ maxLen
  fit : ∀ j, j < n → 0 ≤ f j ∧ f j < 256
  nil : p = none → n = 0 ∧ c = 0
theorem Byts.kept {w w' : World} {S : Nat → Prop} {p : Option Addr} {n c : Nat} {f : Nat → Int} (h : Byts w S p n c f) (hs : w.heap.size ≤ w'.heap.size) (hb : ∀ b, S b → b < w.heap.size → w'.heap[b]? = w.heap[b]?) : Byts w' S p n c f := by
  refine ⟨fun hn => ?_, h.nc, h.nn, h.cc, h.fit, h.nil⟩
  obtain ⟨b, o, e, hS, hl, ha⟩ := h.at_ hn
  exact ⟨b, o, e, hS, Nat.lt_of_lt_of_le hl hs, fun j hj => (World.cell?_of_block (a := ⟨b, o + j, none⟩) (hb b hS hl)).trans (ha j hj)⟩
theorem Byts.mono {w : World} {S S' : Nat → Prop} {p : Option Addr} {n c : Nat} {f : Nat → Int} (h : Byts w S p n c f) (hb : ∀ b, S b → b < w.heap.size → S' b) : Byts w S' p n c f := by
  refine ⟨fun hn => ?_, h.nc, h.nn, h.cc, h.fit, h.nil⟩
  obtain ⟨b, o, e, hS, hl, ha⟩ := h.at_ hn
  exact ⟨b, o, e, hb b hS hl, hl, ha⟩
theorem Byts.src {w : World} {S : Nat → Prop} {p : Option Addr} {n c : Nat} {f : Nat → Int} (h : Byts w S p n c f) : Src w p n c 1 ((List.range n).map fun j => .int .u8 (f j)) := by
  cases p with
  | none => obtain ⟨rfl, rfl⟩ := h.nil rfl; exact .inl ⟨rfl, rfl, rfl, rfl⟩
  | some ad =>
    refine .inr ⟨ad, rfl, by simp, fun j u hu => ?_⟩
    by_cases hj : j < n
    · obtain ⟨b, o, e, _, _, ha⟩ := h.at_ (by omega)
      cases e
      rw [Go.WideShapes.add_plain, ha j hj]
      simp [List.getElem?_range hj] at hu
      rw [hu]
    · simp [List.getElem?_eq_none (show ((List.range n).map fun j => Value.int .u8 (f j)).length ≤ j by simp; omega)] at hu
theorem oneCell_byts (n : Nat) (f : Nat → Int) : ∀ u ∈ ((List.range n).map fun j => Value.int .u8 (f j)), u.oneCell' = true := by
  intro u hu
  obtain ⟨j, _, rfl⟩ := List.mem_map.1 hu
  rfl
end Go.Proofs.YtdmhemofhmfkoabGreatDoor

namespace Go.Proofs.YtdmhemofhmfkoabGreatDoor
open Go.RowKit
set_option maxRecDepth 8000

/-- what a reading function panics with -/
def faultV (a e : Int) : Value := .iface 64 (.agg #[.int .i64 a, .int .i64 e])
def Fails (e : Int) (x : Ending) : Prop := ∃ a : Int, x = .panicked [{ v := faultV a e, recovered := false }]

set_option maxHeartbeats 1000000 in
theorem giveUp_any (a e : Int) (w : World) : Calls Tryz.prog 65 #[.int .i64 a, .int .i64 e] w fun x w' => x = .panicked [{ v := faultV a e, recovered := false }] ∧ w' = w := by
  unfold faultV
  go_enter Tryz.func65, Tryz.ntmps65
  go_wp2
  exact ⟨rfl, rfl, rfl⟩
set_option maxHeartbeats 1000000 in
theorem fail_any (db : Nat) (s : Value) (a q : Int) (e : Int) (w : World) (hb : Box w db #[s, .int .i64 a, .int .i64 q] 70) : Calls Tryz.prog 73 #[.pointer (some ⟨db, 0, none⟩), .int .i64 e] w fun x w' => Fails e x ∧ w' = w := by
  have x1 := hb.cell 1
  simp at x1
  have HG := fun W => giveUp_any a e W
  go_enter Tryz.func73, Tryz.ntmps73
  go_wp2_with fail
  refine (HG _).mono ?_
  rintro e2 w2 ⟨rfl, hw⟩
  subst w2
  exact ⟨rfl, ⟨a, rfl⟩, rfl⟩

/-- the piece of a list from a place on -/
def from_ (p : Option Addr) (k : Nat) : Option Addr := p.map fun a => a.add k

/-- what taking k bytes comes to -/
def TakePost (w : World) (db : Nat) (p : Option Addr) (n c a q k : Nat) (x : Ending) (w' : World) : Prop :=
  (a + k ≤ n → (∃ p' c', x = .returned (.slice p' k c') ∧ (0 < k → p' = from_ p a)) ∧ Box w' db #[.slice p n c, .int .i64 ((a + k : Nat) : Int), .int .i64 q] 70 ∧ But (fun y => y = db) w w') ∧ (n < a + k → Fails 28 x ∧ But (fun y => y = db) w w')

set_option maxHeartbeats 2000000 in
theorem take_any (db : Nat) (p : Option Addr) (n c a q k : Nat) (w : World) (S : Nat → Prop) (f : Nat → Int) (hB : Byts w S p n c f) (hb : Box w db #[.slice p n c, .int .i64 a, .int .i64 q] 70) (ha : a ≤ n) (hk : k ≤ 1000) :
    Calls Tryz.prog 77 #[.pointer (some ⟨db, 0, none⟩), .int .i64 k] w fun x w' => TakePost w db p n c a q k x w' := by
  have x0 := hb.cell 0
  have x1 := hb.cell 1
  have f1 := hb.frozen 1
  have hbl := hb.lt
  simp at x0 x1
  have HB := hid hb
  have hnn := hB.nn
  have hcn := hB.nc
  have HY := hid hB
  clear hb hB
  by_cases h : a + k ≤ n
  · have h1 : ¬ ((n : Int) - (a : Int) < (k : Int)) := by omega
    have h2 : IntKind.i64.wrap ((a : Int) + (k : Int)) = (a : Int) + (k : Int) := by rw [IntKind.wrap_i64]; omega
    have h3 : (a : Int) + (k : Int) - (k : Int) = (a : Int) := by omega
    have h4 : (a : Int) ≤ (a : Int) + (k : Int) := by omega
    have h5 : (a : Int) + (k : Int) ≤ (c : Int) := by omega
    have h6 : (0 : Int) ≤ (a : Int) + (k : Int) := by omega
    have h7 : ((a : Int) + (k : Int)).toNat = a + k := by omega
    have hbx : Box (w.setCell ⟨db, 1, none⟩ (.int .i64 ((a : Int) + (k : Int)))) db #[.slice p n c, .int .i64 ((a + k : Nat) : Int), .int .i64 q] 70 := by
      have h := HB.out.set 1 (.int .i64 ((a : Int) + (k : Int)))
      simpa using h
    have HB2 := hid hbx
    have HK2 := hid ((But.one w db).setAt 1 (.int .i64 ((a : Int) + (k : Int))))
    clear hbx
    cases p with
    | none =>
      obtain ⟨rfl, rfl⟩ := HY.out.nil rfl
      obtain rfl : a = 0 := by omega
      obtain rfl : k = 0 := by omega
      go_enter Tryz.func77, Tryz.ntmps77
      go_wp2_with fail
      go_region
      go_wp2_with fail
      go_region
      go_wp2
      go_ret
      exact ⟨fun _ => ⟨⟨none, 0, rfl, fun h => by omega⟩, HB2.out.below (Below.refl _ _).drew.drew, HK2.out.drew.drew⟩, fun h => by omega⟩
    | some ad =>
      by_cases hca : c = a
      · subst hca
        obtain rfl : k = 0 := by omega
        go_enter Tryz.func77, Tryz.ntmps77
        go_wp2_with fail
        go_region
        go_wp2_with fail
        go_region
        go_wp2
        go_ret
        exact ⟨fun _ => ⟨⟨_, _, rfl, fun h => by omega⟩, HB2.out.below (Below.refl _ _).drew.drew, HK2.out.drew.drew⟩, fun h => by omega⟩
      · go_enter Tryz.func77, Tryz.ntmps77
        go_wp2_with fail
        go_region
        go_wp2_with fail
        go_region
        go_wp2
        go_ret
        exact ⟨fun _ => ⟨⟨_, _, rfl, fun _ => rfl⟩, HB2.out.below (Below.refl _ _).drew.drew, HK2.out.drew.drew⟩, fun h => by omega⟩
  · have h1 : (n : Int) - (a : Int) < (k : Int) := by omega
    have HF := fun W hb => fail_any db (.slice p n c) a q 28 W hb
    go_enter Tryz.func77, Tryz.ntmps77
    go_wp2_with fail
    go_region
    go_wp2_with fail
    refine (HF _ ?_).mono ?_
    · exact HB.out.below (Below.refl _ _).drew
    · rintro e w2 ⟨⟨a2, rfl⟩, hw⟩
      subst w2
      exact ⟨rfl, fun h2 => absurd h2 h, fun _ => ⟨⟨a2, rfl⟩, (But.refl _ _).drew⟩⟩
end Go.Proofs.YtdmhemofhmfkoabGreatDoor
