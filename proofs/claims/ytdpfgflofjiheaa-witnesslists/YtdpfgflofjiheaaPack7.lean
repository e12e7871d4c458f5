import Derived.Test.YtdpfgflofjiheaaPack6
namespace Go.Proofs.Ytdpfgflofjiheaa
open Go.RowKit
set_option maxRecDepth 8000
/-- the one copy of a task between two places -/
def OneCp (f : Nat → TR) (a b : Nat) (i k : Int) (m : Nat) : Prop := a ≤ m ∧ m < b ∧ (f m).cp i k ∧ ∀ q, a ≤ q → q < b → (f q).cp i k → q = m
def AllCp (f : Nat → TR) (a b : Nat) (i : Int) (T : Nat) : Prop := ∀ k : Nat, k < T → ∃ m, OneCp f a b i (k : Int) m
def CSeek (f : Nat → TR) (a : Nat) (i k : Int) (j : Nat) (x : Int) : Prop := (x = -1 ∧ ∀ q, a ≤ q → q < j → ¬ (f q).cp i k) ∨ ∃ m : Nat, x = (m : Int) ∧ OneCp f a j i k m
theorem CSeek.start (f : Nat → TR) (a : Nat) (i k : Int) : CSeek f a i k a (-1) := .inl ⟨rfl, fun q h1 h2 => by omega⟩
theorem CSeek.miss {f : Nat → TR} {a : Nat} {i k : Int} {j : Nat} {x : Int} (h : CSeek f a i k j x) (hn : ¬ (f j).cp i k) : CSeek f a i k (j + 1) x := by
  rcases h with ⟨rfl, h⟩ | ⟨m, rfl, h1, h2, h3, h4⟩
  · refine .inl ⟨rfl, fun q h1 h2 => ?_⟩
    by_cases hq : q = j
    · subst hq; exact hn
    · exact h q h1 (by omega)
  · refine .inr ⟨m, rfl, h1, by omega, h3, fun q g1 g2 g3 => ?_⟩
    by_cases hq : q = j
    · subst hq; exact (hn g3).elim
    · exact h4 q g1 (by omega) g3
theorem CSeek.hit {f : Nat → TR} {a : Nat} {i k : Int} {j : Nat} {x : Int} (h : CSeek f a i k j x) (hj : a ≤ j) (hx : x < 0) (hn : (f j).cp i k) : CSeek f a i k (j + 1) (j : Int) := by
  rcases h with ⟨rfl, h⟩ | ⟨m, rfl, h1, h2, h3, h4⟩
  · refine .inr ⟨j, rfl, hj, by omega, hn, fun q h1 h2 h3 => ?_⟩
    by_cases hq : q = j
    · exact hq
    · exact (h q h1 (by omega) h3).elim
  · omega
theorem CSeek.two {f : Nat → TR} {a : Nat} {i k : Int} {j b : Nat} {x : Int} (h : CSeek f a i k j x) (hx : ¬ x < 0) (hj : a ≤ j) (hb : j < b) (hn : (f j).cp i k) : ¬ ∃ m, OneCp f a b i k m := by
  rintro ⟨m, g1, g2, g3, g4⟩
  rcases h with ⟨rfl, h⟩ | ⟨y, rfl, h1, h2, h3, h4⟩
  · omega
  · have e1 := g4 y h1 (by omega) h3
    have e2 := g4 j hj hb hn
    omega
theorem CSeek.done {f : Nat → TR} {a : Nat} {i k : Int} {b : Nat} {x : Int} (h : CSeek f a i k b x) : (x = -1 ∧ ¬ ∃ m, OneCp f a b i k m) ∨ ∃ m : Nat, x = (m : Int) ∧ OneCp f a b i k m := by
  rcases h with ⟨rfl, h⟩ | h
  · refine .inl ⟨rfl, ?_⟩
    rintro ⟨m, g1, g2, g3, g4⟩
    exact h m g1 g2 g3
  · exact .inr h
theorem OneCp.uniq {f : Nat → TR} {a b : Nat} {i k : Int} {m m' : Nat} (h : OneCp f a b i k m) (g : OneCp f a b i k m') : m = m' := g.2.2.2 m h.1 h.2.1 h.2.2.1
/-- the events of the d entries from a on for which P holds -/
def evsF (f : Nat → TR) (P : Nat → Bool) (a : Nat) : Nat → List EV
  | 0 => []
  | d + 1 => if (f (a + d)).kind = 1 ∧ P (a + d) = true then evsF f P a d ++ [(f (a + d)).ev] else evsF f P a d
theorem evsF_yes {f : Nat → TR} {P : Nat → Bool} {a d : Nat} (h : (f (a + d)).kind = 1) (hp : P (a + d) = true) : evsF f P a (d + 1) = evsF f P a d ++ [(f (a + d)).ev] := by
  rw [evsF, if_pos ⟨h, hp⟩]
theorem evsF_no {f : Nat → TR} {P : Nat → Bool} {a d : Nat} (h : ¬ ((f (a + d)).kind = 1 ∧ P (a + d) = true)) : evsF f P a (d + 1) = evsF f P a d := by
  rw [evsF, if_neg h]
theorem evsF_len (f : Nat → TR) (P : Nat → Bool) (a d : Nat) : (evsF f P a d).length ≤ d := by
  induction d with
  | zero => exact Nat.le_refl _
  | succ d ih =>
    rw [evsF]
    split
    · simp; exact ih
    · omega
theorem evsF_congr {f : Nat → TR} {P P' : Nat → Bool} {a : Nat} : ∀ {d : Nat}, (∀ q, a ≤ q → q < a + d → (f q).kind = 1 → P q = P' q) → evsF f P a d = evsF f P' a d := by
  intro d
  induction d with
  | zero => intro _; rfl
  | succ d ih =>
    intro h
    rw [evsF, evsF, ih (fun q h1 h2 h3 => h q h1 (by omega) h3)]
    by_cases hk : (f (a + d)).kind = 1
    · rw [h (a + d) (by omega) (by omega) hk]
    · rw [if_neg (fun h => hk h.1), if_neg (fun h => hk h.1)]
/-- events in a row of the call's own -/
def EvRow (base : Nat) (w : World) (v : Value) (xs : List EV) : Prop := w.ownsRow base 39 2 v xs.length (xs.flatMap EV.cells)
theorem EvRow.nil (base : Nat) (w : World) : EvRow base w (.slice none 0 0) [] := World.ownsRow_nil _ _ _ _
theorem EvRow.keep {base : Nat} {w w' : World} {v : Value} {xs : List EV} (h : EvRow base w v xs) (hb : ∀ k, base ≤ k → k < w.heap.size → w'.heap[k]? = w.heap[k]?) : EvRow base w' v xs := ownsRow_keep h fun g hg hl => hb g (h.lt g hg).1 hl
theorem EvRow.below {base : Nat} {w w' : World} {v : Value} {xs : List EV} (h : EvRow base w v xs) (hb : Below w.heap.size w w') : EvRow base w' v xs := h.keep fun k _ hl => hb.block k hl
theorem EvRow.mono {base base' : Nat} {w : World} {v : Value} {xs : List EV} (h : EvRow base w v xs) (hb : base' ≤ base) : EvRow base' w v xs := ownsRow_mono h hb
theorem EvRow.push {base : Nat} {w : World} {v : Value} {xs : List EV} {x : EV} (h : w.ownsRow base 39 2 v (xs.length + 1) (xs.flatMap EV.cells ++ x.cells)) : EvRow base w v (xs ++ [x]) := by
  unfold EvRow
  rw [List.length_append, List.flatMap_append]
  simpa using h
theorem range_getD {α : Type} (d : α) (xs : List α) : (List.range xs.length).map (fun j => xs.getD j d) = xs := by
  apply List.ext_getElem
  · simp
  · intro i h1 h2
    simp [h2]
theorem EvRow.own {base : Nat} {w : World} {v : Value} {xs : List EV} (h : EvRow base w v xs) : OwnL elEv base w v xs.length (fun j => xs.getD j ⟨0, 0⟩) := by
  refine ⟨?_, fun _ _ => trivial⟩
  have e : ((List.range xs.length).flatMap fun j => elEv.cells (xs.getD j ⟨0, 0⟩)) = xs.flatMap EV.cells := by
    conv => rhs; rw [← range_getD ⟨0, 0⟩ xs]
    rw [List.flatMap_map]
    rfl
  rw [e]
  exact h
theorem EvRow.in_ {base : Nat} {w : World} {v : Value} {xs : List EV} (h : EvRow base w v xs) (hn : xs.length ≤ 140737488355328) : ∃ p c, v = .slice p xs.length c ∧ LT.In elEv w (fun b => base ≤ b) ⟨p, xs.length, c, fun j => xs.getD j ⟨0, 0⟩⟩ := h.own.in_ hn
theorem kindEv : ∃ i, Kind 31 39 i (.agg #[.int .i64 0, .int .i64 0]) 2 16 := by
  obtain ⟨i0, hi, hz0, hz1, hz2⟩ := info_parts (show (Try.prog.info? 39).map (fun i => (i.zero, i.size, i.bytes)) = some (some (.agg #[.int .i64 0, .int .i64 0]), 2, 16) by kernel_rfl)
  exact ⟨i0, Try.underlying31, hi, hz0, hz1, hz2, rfl, by decide⟩
theorem kindTr : ∃ i, Kind 22 37 i (.agg #[.int .i64 0, .int .i64 0, .int .i64 0, .int .i64 0]) 4 32 := by
  obtain ⟨i0, hi, hz0, hz1, hz2⟩ := info_parts (show (Try.prog.info? 37).map (fun i => (i.zero, i.size, i.bytes)) = some (some (.agg #[.int .i64 0, .int .i64 0, .int .i64 0, .int .i64 0]), 4, 32) by kernel_rfl)
  exact ⟨i0, Try.underlying22, hi, hz0, hz1, hz2, rfl, by decide⟩
theorem kindIn : ∃ i, Kind 23 3 i (.int .i64 0) 1 8 := by
  obtain ⟨i0, hi, hz0, hz1, hz2⟩ := info_parts (show (Try.prog.info? 3).map (fun i => (i.zero, i.size, i.bytes)) = some (some (.int .i64 0), 1, 8) by kernel_rfl)
  exact ⟨i0, Try.underlying23, hi, hz0, hz1, hz2, rfl, by decide⟩
/-- ints in a row of the call's own -/
def InRow (base : Nat) (w : World) (v : Value) (xs : List Int) : Prop := w.ownsRow base 3 1 v xs.length (xs.flatMap elInt.cells)
theorem InRow.nil (base : Nat) (w : World) : InRow base w (.slice none 0 0) [] := World.ownsRow_nil _ _ _ _
theorem InRow.keep {base : Nat} {w w' : World} {v : Value} {xs : List Int} (h : InRow base w v xs) (hb : ∀ k, base ≤ k → k < w.heap.size → w'.heap[k]? = w.heap[k]?) : InRow base w' v xs := ownsRow_keep h fun g hg hl => hb g (h.lt g hg).1 hl
theorem InRow.below {base : Nat} {w w' : World} {v : Value} {xs : List Int} (h : InRow base w v xs) (hb : Below w.heap.size w w') : InRow base w' v xs := h.keep fun k _ hl => hb.block k hl
theorem InRow.mono {base base' : Nat} {w : World} {v : Value} {xs : List Int} (h : InRow base w v xs) (hb : base' ≤ base) : InRow base' w v xs := ownsRow_mono h hb
theorem InRow.push {base : Nat} {w : World} {v : Value} {xs : List Int} {x : Int} (h : w.ownsRow base 3 1 v (xs.length + 1) (xs.flatMap elInt.cells ++ [.int .i64 x])) : InRow base w v (xs ++ [x]) := by
  unfold InRow
  rw [List.length_append, List.flatMap_append]
  simpa [elInt] using h
/-- an int of such a row -/
theorem InRow.at_ {base : Nat} {w : World} {v : Value} {xs : List Int} (h : InRow base w v xs) (hn : 0 < xs.length) : ∃ g c, v = .slice (some ⟨g, 0, none⟩) xs.length c ∧ base ≤ g ∧ g < w.heap.size ∧ xs.length ≤ c ∧ ∀ (j : Nat) (x : Int), xs[j]? = some x → w.cell? ⟨g, j, none⟩ = some (.int .i64 x) ∧ w.frozen? ⟨g, j, none⟩ = false := by
  have hlt := h.lt
  have hce := @World.ownsRow.cells _ _ _ _ _ _ _ h
  obtain ⟨_, ⟨hv, h0⟩ | ⟨gb, cap, cur, hv, hbg, hh, hnc, hcm, hcs, htake⟩⟩ := id h
  · omega
  · refine ⟨gb, cap, hv, hbg, (hlt gb (by rw [hv]; rfl)).2, hnc, fun j x hx => ?_⟩
    have hfl : ∀ (xs : List Int) (j : Nat), (xs.flatMap elInt.cells)[j]? = (xs[j]?).map (Value.int .i64) := by
      intro xs
      induction xs with
      | nil => intro j; simp
      | cons y ys ih =>
        intro j
        cases j with
        | zero => simp [elInt]
        | succ j => simpa [elInt] using ih j
    have := hce (g := gb) (by rw [hv]; rfl) j (.int .i64 x) (by rw [hfl, hx]; rfl)
    rw [Go.WideShapes.add_plain, Nat.zero_add] at this
    exact ⟨this, by simp [World.frozen?, hh]⟩
end Go.Proofs.Ytdpfgflofjiheaa

namespace Go.Proofs.Ytdpfgflofjiheaa
open Go.RowKit
set_option maxRecDepth 8000
def CpQ (f : Nat → TR) (a b : Nat) (i k : Int) (e : Ending) : Prop := ∃ x : Int, e = .returned (.int .i64 x) ∧ ((x = -1 ∧ ¬ ∃ m, OneCp f a b i k m) ∨ ∃ m : Nat, x = (m : Int) ∧ OneCp f a b i k m)
set_option maxHeartbeats 8000000 in
theorem copyAt_any (l : LT TR) (a b : Nat) (i t : Int) (w : World) (S : Nat → Prop) (hl : LT.In elTr w S l) (hab : a ≤ b) (hb : b ≤ l.n) :
    Calls Try.prog 41 #[.slice l.p l.n l.c, .int .i64 (a : Int), .int .i64 (b : Int), .int .i64 i, .int .i64 t] w fun e w' => CpQ l.item a b i t e ∧ w' = w := by
  have hnn := hl.nn
  have H := hid hl
  clear hl
  go_enter Try.func41, Try.ntmps41
  go_wp2_with fail
  go_loopw [11, 12] (fun x y wr => ∃ (k : Nat) (z : Int), a ≤ k ∧ k ≤ b ∧ y = .int .i64 (k : Int) ∧ x = .int .i64 z ∧ CSeek l.item a i t k z ∧ wr = w) (fun _ y _ => b - (intOf y).toNat)
  case atStart => exact ⟨a, -1, Nat.le_refl _, hab, rfl, rfl, CSeek.start _ _ _ _, rfl⟩
  case round =>
    obtain ⟨k, z, hak, hk, rfl, rfl, hs, rfl⟩ := hrel
    have HS := hid hs
    clear hs
    by_cases hkb : k < b
    · have hlt : k < l.n := by omega
      have hlt' : (k : Int) < (l.n : Int) := by omega
      have hkb' : (k : Int) < (b : Int) := by omega
      obtain ⟨b1, o1, hp, _, hl1, ha⟩ := H.out.tr (by omega)
      obtain ⟨a0, a1, a2, a3⟩ := ha k hlt
      rw [hp]
      clear ha hp
      by_cases hc : (l.item k).cp i t
      · obtain ⟨h3, hi, ht⟩ := id hc
        have HC := hid hc
        rw [h3] at a0
        rw [hi] at a3
        rw [ht] at a1
        clear h3 hi ht hc
        by_cases hz : z < 0
        · go_wp2
          go_roundw
          case rel => exact ⟨k + 1, (k : Int), by omega, by omega, by go_num, rfl, HS.out.hit hak hz HC.out, by first | rfl | trivial⟩
          case measure => simp [intOf]; omega
        · go_wp2
          go_ret
          exact ⟨⟨-1, rfl, .inl ⟨rfl, HS.out.two (by omega) hak hkb HC.out⟩⟩, rfl⟩
      · have HC := hid hc
        by_cases h3 : (l.item k).kind = 3
        · by_cases hi : (l.item k).id = i
          · have ht : ¬ (l.item k).task = t := fun h => hc ⟨h3, hi, h⟩
            rw [h3] at a0
            rw [hi] at a3
            clear h3 hi hc
            go_wp2
            go_roundw
            case rel => exact ⟨k + 1, z, by omega, by omega, by go_num, rfl, HS.out.miss HC.out, by first | rfl | trivial⟩
            case measure => simp [intOf]; omega
          · rw [h3] at a0
            clear h3 hc
            go_wp2
            go_roundw
            case rel => exact ⟨k + 1, z, by omega, by omega, by go_num, rfl, HS.out.miss HC.out, by first | rfl | trivial⟩
            case measure => simp [intOf]; omega
        · clear hc
          go_wp2
          go_roundw
          case rel => exact ⟨k + 1, z, by omega, by omega, by go_num, rfl, HS.out.miss HC.out, by first | rfl | trivial⟩
          case measure => simp [intOf]; omega
    · obtain rfl : k = b := by omega
      go_wp2
      go_ret
      exact ⟨⟨z, rfl, HS.out.done⟩, rfl⟩
/-- the places of all tasks' copies -/
def CopsQ (f : Nat → TR) (a b : Nat) (i : Int) (T : Nat) (w : World) (e : Ending) (w' : World) : Prop := Below w.heap.size w w' ∧ ((∃ (m : Nat → Nat) (v : Value), e = .returned (.tuple #[v, .bool true]) ∧ InRow w.heap.size w' v ((List.range T).map fun k => (m k : Int)) ∧ ∀ k : Nat, k < T → OneCp f a b i (k : Int) (m k)) ∨ (¬ AllCp f a b i T ∧ e = .returned (.tuple #[.slice none 0 0, .bool false])))
set_option maxHeartbeats 8000000 in
theorem copies_any (l : LT TR) (a b : Nat) (i : Int) (T : Nat) (w : World) (S : Nat → Prop) (hl : LT.In elTr w S l) (hab : a ≤ b) (hb : b ≤ l.n) (hT : T ≤ 12) :
    Calls Try.prog 30 #[.slice l.p l.n l.c, .int .i64 (a : Int), .int .i64 (b : Int), .int .i64 i, .int .i64 (T : Int)] w fun e w' => CopsQ l.item a b i T w e w' := by
  have hnn := hl.nn
  have H := hid hl
  obtain ⟨i0, Kd⟩ := kindIn
  have HKd := hid Kd
  clear hl Kd
  go_enter Try.func30, Try.ntmps30
  go_wp2_with fail
  go_loopw [12, 13] (fun x y wr => ∃ (k : Nat) (m : Nat → Nat), k ≤ T ∧ y = .int .i64 (k : Int) ∧ InRow w.heap.size wr x ((List.range k).map fun k => (m k : Int)) ∧ (∀ q : Nat, q < k → OneCp l.item a b i (q : Int) (m q)) ∧ Below w.heap.size w wr) (fun _ y _ => T - (intOf y).toNat)
  case atStart => exact ⟨0, fun _ => 0, Nat.zero_le _, rfl, InRow.nil _ _, fun q hq => by omega, Below.refl _ _⟩
  case round =>
    obtain ⟨k, m, hk, rfl, hr, hm, hbl⟩ := hrel
    have HR := hid hr
    have HM := hid hm
    have HB := hid hbl
    obtain ⟨p0, c0, hv⟩ := ownsRow_slice hr
    have hlen : ((List.range k).map fun k => (m k : Int)).length = k := by simp
    rw [hlen] at hv
    have HV := hid hv
    clear hr hm hbl hlen hv
    by_cases hlt : k < T
    · have hlt' : (k : Int) < (T : Int) := by omega
      have HC := hid (copyAt_any l a b i (k : Int) wr S (H.out.below HB.out) hab hb)
      go_wp2_with fail
      refine HC.out.mono ?_
      rintro e w2 ⟨⟨x, rfl, hx⟩, rfl⟩
      rcases hx with ⟨rfl, hno⟩ | ⟨y, rfl, hy⟩
      · have HNo := hid hno
        clear hno HC
        go_wp2
        exact bodyPost_ret (v := .tuple #[.slice none 0 0, .bool false]) (by simp [results, Try.results30, go_sem]) rfl ⟨HB.out, .inr ⟨fun h => HNo.out (h k hlt), rfl⟩⟩
      · have HY := hid hy
        have hy0 : ¬ (y : Int) < 0 := by omega
        clear hy HC
        have hO : w2.ownsRow w.heap.size 3 1 u12 k (((List.range k).map fun k => (m k : Int)).flatMap elInt.cells) := by have := HR.out; unfold InRow at this; simpa using this
        have HO := hid hO
        have HNw : Hid (∀ j' u', [Value.int .i64 (y : Int)][j']? = some u' → (w2.alloc (.cells #[.int .i64 (y : Int)] 3)).cell? ((⟨w2.heap.size, 0, none⟩ : Addr).add j') = some u') := fun j' u' hu => by
          rw [Go.WideShapes.add_plain, (Box.new w2 #[.int .i64 (y : Int)] 3).cell]
          rw [show 0 + j' = j' by omega]
          simpa using hu
        have hsz : w.heap.size ≤ w2.heap.size := HB.out.size
        clear hO
        go_wp2_with (at_builtin; refine wpList_app rfl (.tmp 28) (.tmp 30) 23 3 i0 _ 1 8 HKd.out rfl w.heap.size u12 k _ rfl (HO.out.alloc _) ⟨w2.heap.size, 0, none⟩ 1 1 [.int .i64 (y : Int)] rfl rfl HNw.out (by simp [Value.oneCell']) (by omega) (by omega) (by simp; omega) ?_)
        intro v3 w3 ho3 hg3 hn3
        obtain ⟨pp, cc, rfl⟩ := ownsRow_slice ho3
        have HR3 : Hid (InRow w.heap.size w3 (.slice pp (k + 1) cc) ((List.range (k + 1)).map fun q => ((if q < k then m q else y : Nat) : Int))) := by
          have e1 : ((List.range (k + 1)).map fun q => ((if q < k then m q else y : Nat) : Int)) = ((List.range k).map fun q => (m q : Int)) ++ [(y : Int)] := by
            rw [List.range_succ, List.map_append]
            congr 1
            · apply List.map_congr_left
              intro q hq
              rw [if_pos (List.mem_range.1 hq)]
            · simp
          have e2 : ((List.range k).map fun q => (m q : Int)).length = k := by simp
          show InRow _ _ _ _
          rw [e1]
          exact InRow.push (by rw [e2]; exact ho3)
        have HB3 : Hid (Below w.heap.size w w3) := (HB.out.trans ((below1 _ _).mono HB.out.size)).grown hg3 (by simp; omega) (fun q hq => (HO.out.lt q hq).1)
        clear ho3 hg3 hn3 HO HNw
        go_wp2
        go_roundw
        case rel =>
          refine ⟨k + 1, fun q => if q < k then m q else y, by omega, by go_num, HR3.out, fun q hq => ?_, HB3.out⟩
          by_cases hqk : q < k
          · simp only [if_pos hqk]; exact HM.out q hqk
          · obtain rfl : q = k := by omega
            simp only [if_neg hqk]; exact HY.out
        case measure => simp [intOf]; omega
    · obtain rfl : k = T := by omega
      have hv := HV.out
      subst hv
      go_wp2
      exact bodyPost_ret (v := .tuple #[.slice p0 k c0, .bool true]) (by simp [results, Try.results30, go_sem]) rfl ⟨HB.out, .inl ⟨m, _, rfl, HR.out, HM.out⟩⟩
end Go.Proofs.Ytdpfgflofjiheaa
