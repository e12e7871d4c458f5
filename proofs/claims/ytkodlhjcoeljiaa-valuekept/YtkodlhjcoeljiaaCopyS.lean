import Derived.Test.YtkodlhjcoeljiaaStepC
import Derived.Test.YtkodlhjcoeljiaaDeepC
namespace Go.Proofs.Ytkodlhjcoeljiaa
open Go.RowKit
set_option maxRecDepth 8000

theorem kindC : ∃ i, Kind 48 87 i (.agg #[.string ⟨#[]⟩, .slice none 0 0]) 2 40 := by
  obtain ⟨i0, hi, hz0, hz1, hz2⟩ := info_parts (show (Try.prog.info? 87).map (fun i => (i.zero, i.size, i.bytes)) = some (some (.agg #[.string ⟨#[]⟩, .slice none 0 0]), 2, 40) by kernel_rfl)
  exact ⟨i0, Try.underlying48, hi, hz0, hz1, hz2, rfl, by decide⟩

theorem flat_two (g : Nat → VT) : ∀ (n j r : Nat), j < n → r < 2 → ((List.range n).flatMap fun j => (g j).two)[j * 2 + r]? = (g j).two[r]? := by
  intro n
  induction n with
  | zero => intro j r h; omega
  | succ n ih =>
    intro j r hj hr
    have hl : ∀ m, ((List.range m).flatMap fun j => (g j).two).length = m * 2 := by
      intro m
      induction m with
      | zero => rfl
      | succ m ih => rw [List.range_succ, List.flatMap_append, List.length_append, ih]; simp [VT.two]; omega
    rw [List.range_succ, List.flatMap_append]
    by_cases h : j < n
    · rw [List.getElem?_append_left (by rw [hl]; omega)]
      exact ih j r h hr
    · obtain rfl : j = n := by omega
      rw [List.getElem?_append_right (by rw [hl]; omega), hl]
      simp only [List.flatMap_cons, List.flatMap_nil, List.append_nil]
      congr 1
      omega
theorem flat_push {f : VT → List Value} (g : Nat → VT) (u : VT) (n : Nat) : ((List.range (n + 1)).flatMap fun j => f (if j < n then g j else u)) = ((List.range n).flatMap fun j => f (g j)) ++ f u := by
  rw [List.range_succ, List.flatMap_append]
  congr 1
  · rw [List.flatMap_def, List.flatMap_def]
    congr 1
    apply List.map_congr_left
    intro j hj
    rw [if_pos (List.mem_range.1 hj)]
  · simp
/-- cells in a row of the call's own, and what they hold in other blocks -/
structure OwnC (base : Nat) (w : World) (v : Value) (n : Nat) (g : Nat → VT) : Prop where
  own : w.ownsRow base 87 2 v n ((List.range n).flatMap fun j => (g j).two)
  each : ∀ j, j < n → VT.In w (fun b => base ≤ b ∧ v.ownBlock ≠ some b) (g j)
theorem OwnC.nil (base : Nat) (w : World) (g : Nat → VT) : OwnC base w (.slice none 0 0) 0 g := ⟨World.ownsRow_nil _ _ _ _, fun j h => absurd h (by omega)⟩
theorem OwnC.below {base : Nat} {w w' : World} {v : Value} {n : Nat} {g : Nat → VT} (h : OwnC base w v n g) (hb : Below w.heap.size w w') : OwnC base w' v n g :=
  ⟨ownsRow_keep h.own (fun k _ hl => hb.block k hl), fun j hj => (h.each j hj).below hb⟩
theorem OwnC.keep {base : Nat} {w w' : World} {v : Value} {n : Nat} {g : Nat → VT} (h : OwnC base w v n g) (hs : w.heap.size ≤ w'.heap.size) (hb : ∀ k, base ≤ k → k < w.heap.size → w'.heap[k]? = w.heap[k]?) : OwnC base w' v n g :=
  ⟨ownsRow_keep h.own (fun k hk hl => hb k (h.own.lt k hk).1 hl), fun j hj => (h.each j hj).kept hs (fun b hS hl => hb b hS.1 hl)⟩
theorem OwnC.push {base : Nat} {w w' : World} {v v' : Value} {n : Nat} {g : Nat → VT} {u : VT} (h : OwnC base w v n g) (hu : VT.In w (fun b => base ≤ b ∧ v.ownBlock ≠ some b) u)
    (hown : w'.ownsRow base 87 2 v' (n + 1) (((List.range n).flatMap fun j => (g j).two) ++ u.two)) (hg : w.grownBy w' v.ownBlock) (hn : Near w v v') :
    OwnC base w' v' (n + 1) (fun j => if j < n then g j else u) := by
  have key : ∀ x, VT.In w (fun b => base ≤ b ∧ v.ownBlock ≠ some b) x → VT.In w' (fun b => base ≤ b ∧ v'.ownBlock ≠ some b) x := by
    intro x hx
    have h1 : VT.In w (fun b => base ≤ b ∧ v.ownBlock ≠ some b ∧ v'.ownBlock ≠ some b) x := by
      refine hx.mono fun b hb hl => ⟨hb.1, hb.2, fun e => ?_⟩
      rcases hn with h1 | h1
      · exact hb.2 (h1 ▸ e)
      · have := h1 b e; omega
    have h2 := h1.kept hg.size (fun b hb hl => hg.block b hl (fun e => hb.2.1 e.symm))
    exact h2.mono fun b hb _ => ⟨hb.1, hb.2.2⟩
  refine ⟨?_, fun j hj => ?_⟩
  · rw [flat_push (f := VT.two)]
    exact hown
  · by_cases hjn : j < n
    · rw [if_pos hjn]; exact key _ (h.each j hjn)
    · rw [if_neg hjn]; exact key _ hu
/-- the row as a state's cells -/
theorem OwnC.in_ {base : Nat} {w : World} {v : Value} {n : Nat} {g : Nat → VT} (h : OwnC base w v n g) (num : Int) (hn : n ≤ 140737488355328) (h0 : -9223372036854775808 ≤ num) (h1 : num ≤ 9223372036854775807) :
    ∃ p c, v = .slice p n c ∧ ST.In w (fun b => base ≤ b) ⟨num, p, n, c, g⟩ := by
  have hlt := h.own.lt
  obtain ⟨_, ⟨hv, h0⟩ | ⟨gb, cap, cur, hv, hbg, hh, hnc, hcm, hcs, htake⟩⟩ := id h.own
  · subst h0
    exact ⟨none, 0, hv, fun hn => absurd hn (by show ¬ (0 < 0); omega), fun j hj => absurd hj (by show ¬ (j < 0); omega), Nat.le_refl _, hn, Nat.zero_le _, by assumption, by assumption⟩
  · refine ⟨_, cap, hv, fun _ => ⟨gb, 0, rfl, hbg, (hlt gb (by rw [hv]; rfl)).2, fun j hj => ?_⟩, fun j hj => (h.each j hj).mono fun b hb _ => hb.1, hnc, hn, hcm, h0, h1⟩
    have hc := h.own.cells (g := gb) (by rw [hv]; rfl)
    have k : ∀ r u, r < 2 → (g j).two[r]? = some u → w.cell? ⟨gb, 0 + j * 2 + r, none⟩ = some u := by
      intro r u hr hu
      have := hc (j * 2 + r) u (by rw [flat_two g n j r hj hr]; exact hu)
      rw [Go.WideShapes.add_plain] at this
      rw [show 0 + j * 2 + r = 0 + (j * 2 + r) by omega]
      exact this
    exact ⟨k 0 _ (by omega) rfl, k 1 _ (by omega) rfl⟩

/-- one more value laid behind those of a cell that is being made -/
theorem inner_push {B : Nat} {wo wr w2 w3 : World} {v2 v3 : Value} {q : Nat} {f g2 : Nat → VT} {u : VT} {fs : ByteArray} (hB : B = wo.heap.size) (hO2 : OwnV (B + 1) wr v2 q g2) (hal : ∀ z, z < q → VT.Alike (f z) (g2 z)) (hC2 : Box wr B #[.string fs, v2] 87) (hbel2 : Below B wo wr)
    (hk3 : Below wr.heap.size wr w2) (hin4 : VT.In w2 (fun b => wr.heap.size ≤ b) u) (hau : VT.Alike (f q) u) (ho3 : w3.ownsRow (B + 1) 24 4 v3 (q + 1) (((List.range q).flatMap fun j => (g2 j).cells) ++ u.cells))
    (hg3 : (w2.alloc (.cells #[.int .i64 u.kind, .int .i64 u.int, .string u.text, .slice u.p u.n u.c] 24)).grownBy w3 v2.ownBlock) (hn3 : Near (w2.alloc (.cells #[.int .i64 u.kind, .int .i64 u.int, .string u.text, .slice u.p u.n u.c] 24)) v2 v3) :
    OwnV (B + 1) (w3.setCell ⟨B, 1, none⟩ v3) v3 (q + 1) (fun z => if z < q then g2 z else u) ∧ (∀ z, z < q + 1 → VT.Alike (f z) (if z < q then g2 z else u)) ∧ Box (w3.setCell ⟨B, 1, none⟩ v3) B #[.string fs, v3] 87 ∧ Below B wo (w3.setCell ⟨B, 1, none⟩ v3) := by
  have ha : Below w2.heap.size w2 (w2.alloc (.cells #[.int .i64 u.kind, .int .i64 u.int, .string u.text, .slice u.p u.n u.c] 24)) := (Below.refl _ _).alloc (Nat.le_refl _) _
  have hCl := hC2.lt
  have hs3 := hk3.size
  have hs2 := hbel2.size
  have hu : VT.In w2 (fun b => B + 1 ≤ b ∧ v2.ownBlock ≠ some b) u := hin4.mono fun b hb hl => ⟨by omega, fun e => by have := (hO2.own.lt b e).2; omega⟩
  have hO3 := ((hO2.below hk3).below ha).push (hu.below ha) ho3 hg3 hn3
  have hC3 : Box w3 B #[.string fs, v2] 87 := ((hC2.below hk3).below ha).kept (hg3.block _ (by simp; omega) (fun e => by have := (hO2.own.lt _ e.symm).1; omega))
  have hC4 := hC3.set 1 v3
  refine ⟨hO3.keep (by simp [World.setCell]) fun k hk _ => Below.heap_setCell _ _ _ _ (show k ≠ B by omega), fun z hz => ?_, by simpa using hC4, ?_⟩
  · by_cases h : z < q
    · rw [if_pos h]; exact hal z h
    · rw [if_neg h]
      obtain rfl : z = q := by omega
      exact hau
  · have h1 : Below B wo w3 := ((hbel2.trans (hk3.mono (by omega))).trans (ha.mono (by omega))).grown hg3 (by simp; omega) (fun k hk => by have := (hO2.own.lt k hk).1; omega)
    exact h1.trans (((But.one w3 B).setAt 1 v3).below (by have := hC3.lt; omega) (fun x hx => by omega))

theorem news2 (w : World) (a b : Value) (e : TypeId) : ∀ j u, [a, b][j]? = some u → (w.alloc (.cells #[a, b] e)).cell? ((⟨w.heap.size, 0, none⟩ : Addr).add j) = some u := by
  intro j u h
  rw [cell_new, ← h]
  simp
theorem oneCell_two (t : VT) : ∀ u ∈ t.two, u.oneCell' = true := by
  intro u hu
  simp only [VT.two, List.mem_cons, List.not_mem_nil, or_false] at hu
  rcases hu with rfl | rfl <;> rfl
/-- one more cell laid behind those of a state that is being made -/
theorem outer_push {B C : Nat} {w wr w3 : World} {v v3 : Value} {j : Nat} {f g : Nat → VT} {u : VT} {num : Int} {x0 x1 : Array Value} (hO : OwnC (B + 3) wr v j g) (hal : ∀ z, z < j → VT.Alike (f z) (g z)) (hB2 : Box wr (B + 2) #[.int .i64 num, v] 50) (hB0 : Box wr B x0 50) (hB1 : Box wr (B + 1) x1 50) (hbel : Below B w wr)
    (hin : VT.In wr (fun b => C ≤ b) u) (hC : B + 3 ≤ C) (hCv : ∀ b, v.ownBlock = some b → b < C) (hau : VT.Alike (f j) u) (ho3 : w3.ownsRow (B + 3) 87 2 v3 (j + 1) (((List.range j).flatMap fun j => (g j).two) ++ u.two))
    (hg3 : (wr.alloc (.cells #[.string u.text, .slice u.p u.n u.c] 87)).grownBy w3 v.ownBlock) (hn3 : Near (wr.alloc (.cells #[.string u.text, .slice u.p u.n u.c] 87)) v v3) :
    OwnC (B + 3) (w3.setCell ⟨B + 2, 1, none⟩ v3) v3 (j + 1) (fun z => if z < j then g z else u) ∧ (∀ z, z < j + 1 → VT.Alike (f z) (if z < j then g z else u)) ∧ Box (w3.setCell ⟨B + 2, 1, none⟩ v3) (B + 2) #[.int .i64 num, v3] 50 ∧ Box (w3.setCell ⟨B + 2, 1, none⟩ v3) B x0 50 ∧ Box (w3.setCell ⟨B + 2, 1, none⟩ v3) (B + 1) x1 50 ∧ Below B w (w3.setCell ⟨B + 2, 1, none⟩ v3) := by
  have ha : Below wr.heap.size wr (wr.alloc (.cells #[.string u.text, .slice u.p u.n u.c] 87)) := (Below.refl _ _).alloc (Nat.le_refl _) _
  have hl2 := hB2.lt
  have hu : VT.In wr (fun b => B + 3 ≤ b ∧ v.ownBlock ≠ some b) u := hin.mono fun b hb _ => ⟨by omega, fun e => by have := hCv b e; omega⟩
  have hO3 := (hO.below ha).push (hu.below ha) ho3 hg3 hn3
  have key : ∀ k x, k < B + 3 → Box wr k x 50 → Box w3 k x 50 := fun k x hk hx => (hx.below ha).kept (hg3.block _ (by simp; omega) (fun e => by have := (hO.own.lt _ e.symm).1; omega))
  have hC3 := key _ _ (by omega) hB2
  have hC4 := hC3.set 1 v3
  refine ⟨hO3.keep (by simp [World.setCell]) fun k hk _ => Below.heap_setCell _ _ _ _ (show k ≠ B + 2 by omega), fun z hz => ?_, by simpa using hC4, (key _ _ (by omega) hB0).kept (Below.heap_setCell _ _ _ _ (show B ≠ B + 2 by omega)), (key _ _ (by omega) hB1).kept (Below.heap_setCell _ _ _ _ (show B + 1 ≠ B + 2 by omega)), ?_⟩
  · by_cases h : z < j
    · rw [if_pos h]; exact hal z h
    · rw [if_neg h]
      obtain rfl : z = j := by omega
      exact hau
  · have h1 : Below B w w3 := (hbel.trans (ha.mono (by omega))).grown hg3 (by simp; omega) (fun k hk => by have := (hO.own.lt k hk).1; omega)
    exact h1.trans (((But.one w3 (B + 2)).setAt 1 v3).below (by have := hC3.lt; omega) (fun x hx => by omega))

set_option maxHeartbeats 1000000 in
theorem copyState_any (s : ST) (w : World) (S : Nat → Prop) (hin : ST.In w S s) (hn1 : s.total ≤ 10000) :
    Calls Try.prog 19 #[s.val] w fun e w' => ∃ u : ST, e = .returned u.val ∧ ST.Alike s u ∧ ST.In w' (fun b => w.heap.size ≤ b) u ∧ Below w.heap.size w w' := by
  obtain ⟨num, p, n, c, f⟩ := s
  have HI : Hid (ST.In w S ⟨num, p, n, c, f⟩) := hin
  unfold ST.val
  have hnn : n ≤ 10000 := by unfold ST.total at hn1; simp only at hn1; omega
  clear hin
  go_enter Try.func19, Try.ntmps19
  go_wp2_with fail
  have hS0 : Box (w.alloc (.cells #[.int .i64 num, .slice p n c] 50)) w.heap.size #[.int .i64 num, .slice p n c] 50 := Box.new _ _ _
  have hS1 := Box.new (w.alloc (.cells #[.int .i64 num, .slice p n c] 50)) #[.int .i64 0, .slice none 0 0] 50
  have hS2 := Box.new ((w.alloc (.cells #[.int .i64 num, .slice p n c] 50)).alloc (.cells #[.int .i64 0, .slice none 0 0] 50)) #[.int .i64 num, .slice none 0 0] 50
  rw [show (w.alloc (.cells #[.int .i64 num, .slice p n c] 50)).heap.size = w.heap.size + 1 by simp] at hS1
  rw [show ((w.alloc (.cells #[.int .i64 num, .slice p n c] 50)).alloc (.cells #[.int .i64 0, .slice none 0 0] 50)).heap.size = w.heap.size + 2 by simp] at hS2
  have hS01 := (hS0.below ((Below.refl _ _).alloc (Nat.le_refl _) (.cells #[.int .i64 0, .slice none 0 0] 50))).below ((Below.refl _ _).alloc (Nat.le_refl _) (.cells #[.int .i64 num, .slice none 0 0] 50))
  have hS11 := hS1.below ((Below.refl _ _).alloc (Nat.le_refl _) (.cells #[.int .i64 num, .slice none 0 0] 50))
  have hS4 : Below w.heap.size w (((w.alloc (.cells #[.int .i64 num, .slice p n c] 50)).alloc (.cells #[.int .i64 0, .slice none 0 0] 50)).alloc (.cells #[.int .i64 num, .slice none 0 0] 50)) := (((Below.refl _ _).alloc (Nat.le_refl _) _).alloc (by simp) _).alloc (by simp; omega) _
  go_loopw [4] (fun x wr => ∃ (j : Nat) (g : Nat → VT) (v : Value), j ≤ n ∧ x = .int .i64 j ∧ OwnC (w.heap.size + 3) wr v j g ∧ (∀ q, q < j → VT.Alike (f q) (g q)) ∧ Box wr (w.heap.size + 2) #[.int .i64 num, v] 50 ∧ Box wr w.heap.size #[.int .i64 num, .slice p n c] 50 ∧ Box wr (w.heap.size + 1) #[.int .i64 0, .slice none 0 0] 50 ∧ Below w.heap.size w wr) (fun x _ => n - (intOf x).toNat)
  case atStart => exact ⟨0, f, _, Nat.zero_le _, rfl, OwnC.nil _ _ _, fun q hq => absurd hq (by omega), hS2, hS01, hS11, hS4⟩
  case round =>
    obtain ⟨j, g, v, hj, rfl, hO, hal, hB2, hB0, hB1, hbel⟩ := hrel
    obtain ⟨wo, hwo⟩ : ∃ wo : World, wo = wr := ⟨wr, rfl⟩
    subst hwo
    clear hS0 hS1 hS2 hS01 hS11 hS4
    have hl0 := hB0.lt
    have hl1 := hB1.lt
    have hl2 := hB2.lt
    have b0 := hB0.cell 0
    have b1 := hB0.cell 1
    simp at b0 b1
    by_cases hlt : j < n
    · have hlt' : (j : Int) < (n : Int) := by omega
      obtain ⟨bb, o, hp, hSb, hbl, hat⟩ := HI.out.at_ (show 0 < n by omega)
      simp only at hp
      subst hp
      have hA := (hat j hlt).kept (hbel.block bb hbl)
      obtain ⟨c0, c1⟩ := hA
      simp only at c0 c1
      have hbl' : bb < wo.heap.size := Nat.lt_of_lt_of_le hbl hbel.size
      have HX : Hid (OwnC (w.heap.size + 3) wo v j g ∧ (∀ q, q < j → VT.Alike (f q) (g q)) ∧ Box wo (w.heap.size + 2) #[.int .i64 num, v] 50 ∧ Box wo w.heap.size #[.int .i64 num, .slice (some ⟨bb, o, none⟩) n c] 50 ∧ Box wo (w.heap.size + 1) #[.int .i64 0, .slice none 0 0] 50 ∧ Below w.heap.size w wo) := ⟨hO, hal, hB2, hB0, hB1, hbel⟩
      clear hO hal hB2 hB0 hB1 hbel hat
      have hc1 : Box (wo.alloc (.cells #[.string (f j).text, .slice none 0 0] 87)) wo.heap.size #[.string (f j).text, .slice none 0 0] 87 := Box.new _ _ _
      have hb1 : Below wo.heap.size wo (wo.alloc (.cells #[.string (f j).text, .slice none 0 0] 87)) := (Below.refl _ _).alloc (Nat.le_refl _) _
      have hfin := HI.out.each j hlt
      obtain ⟨fk, fi, fs, fn, fp, fc, ff, hfe⟩ := hfin.mk_
      simp only at hfe
      have hfn : fn ≤ 10000 := by
        have h1 := ST.cell_total ⟨num, some ⟨bb, o, none⟩, n, c, f⟩ (j := j) hlt
        simp only at h1
        rw [hfe, VT.total_upto] at h1
        simp only [VT.n_mk] at h1
        omega
      have HT : Hid (∀ q, q < fn → (ff q).total ≤ 10000) := fun q hq => by
        have h1 := ST.cell_total ⟨num, some ⟨bb, o, none⟩, n, c, f⟩ (j := j) hlt
        have h2 := VT.item_total (.mk fk fi fs fn fp fc ff) (j := q) hq
        simp only [VT.item_mk] at h1 h2
        rw [hfe] at h1
        omega
      have HF : Hid (VT.In wo (fun b => S b ∧ b < w.heap.size) (.mk fk fi fs fn fp fc ff)) := by
        have h := (hfin.mono fun b hb hl => (⟨hb, hl⟩ : S b ∧ b < w.heap.size)).kept HX.out.2.2.2.2.2.size (fun b hb _ => HX.out.2.2.2.2.2.block b hb.2)
        simp only at h
        rw [hfe] at h
        exact h
      have HFit := HF.out.fit
      rw [hfe] at c0 c1
      simp only [VT.text_mk, VT.p_mk, VT.n_mk, VT.c_mk] at c0 c1
      rw [hfe] at hc1 hb1
      simp only [VT.text_mk] at hc1 hb1
      obtain ⟨i0, Kd⟩ := kindV
      obtain ⟨i1, Kd1⟩ := kindC
      clear hfin
      go_wp2_with fail
      go_loopw [6] (fun x wr => ∃ (q : Nat) (g2 : Nat → VT) (v2 : Value), q ≤ fn ∧ x = .int .i64 q ∧ OwnV (wo.heap.size + 1) wr v2 q g2 ∧ (∀ z, z < q → VT.Alike (ff z) (g2 z)) ∧ Box wr wo.heap.size #[.string fs, v2] 87 ∧ Below wo.heap.size wo wr) (fun x _ => fn - (intOf x).toNat)
      case atStart => exact ⟨0, ff, _, Nat.zero_le _, rfl, OwnV.nil _ _ _, fun q hq => absurd hq (by omega), hc1, hb1⟩
      case round =>
        obtain ⟨q, g2, v2, hq, rfl, hO2, hal2, hC2, hbel2⟩ := hrel
        clear hc1 hb1
        have b1' := (hbel2.cell (p := ⟨w.heap.size, 1, none⟩) hl0).trans b1
        have c0' := (hbel2.cell (p := ⟨bb, o + j * 2, none⟩) hbl').trans c0
        have c1' := (hbel2.cell (p := ⟨bb, o + j * 2 + 1, none⟩) hbl').trans c1
        have hs2 := hbel2.size
        have k0 := hC2.cell 0
        have k1 := hC2.cell 1
        simp at k0 k1
        have hkl := hC2.lt
        clear c0 c1 b0 b1
        by_cases hltq : q < fn
        · have hltq' : (q : Int) < (fn : Int) := by omega
          obtain ⟨bb2, o2, hp2, hSb2, hbl2, hat2⟩ := HF.out.at_ (show 0 < (VT.mk fk fi fs fn fp fc ff).n from by simp only [VT.n]; omega)
          simp only [VT.p_mk] at hp2
          subst hp2
          obtain ⟨d0, d1, d2, d3⟩ := (hat2 q hltq).kept (hbel2.block bb2 hbl2)
          simp only [VT.item_mk] at d0 d1 d2 d3
          have HC : Hid (∀ W, Below wr.heap.size wr W → Calls Try.prog 8 #[(ff q).val] W fun e w' => ∃ u, e = .returned u.val ∧ VT.Alike (ff q) u ∧ VT.In w' (fun b => W.heap.size ≤ b) u ∧ Below W.heap.size W w') :=
            fun W hW => deep_any (ff q) W (fun b => (S b ∧ b < w.heap.size) ∧ b < wo.heap.size) ((((HF.out.sub hltq).mono fun b hb hl => ⟨hb, hl⟩).kept hbel2.size (fun b hb _ => hbel2.block b hb.2)).below hW) (HT.out q hltq)
          unfold VT.val at HC
          have HY : Hid (OwnV (wo.heap.size + 1) wr v2 q g2 ∧ (∀ z, z < q → VT.Alike (ff z) (g2 z)) ∧ Box wr wo.heap.size #[.string fs, v2] 87 ∧ Below wo.heap.size wo wr) := ⟨hO2, hal2, hC2, hbel2⟩
          clear hO2 hal2 hC2 hbel2 hat2 HI
          go_wp2_with fail
          go_region_law (first
            | (refine step_call rfl 8 #[.tmp 45] #[24] rfl Try.f8 Try.func8 (by kernel_rfl) rfl #[.agg #[.int .i64 (ff q).kind, .int .i64 (ff q).int, .string (ff q).text, .slice (ff q).p (ff q).n (ff q).c]] rfl _ (HC.out _ ?_) ?_
               · exact (Below.refl _ _).drew
               rintro e w2 ⟨u, rfl, hal3, hin3, hb3⟩
               refine ⟨_, rfl, ?_⟩
               have hk3 : Below wr.heap.size wr w2 := (Below.refl wr.heap.size wr).drew.trans hb3
               have hin4 : VT.In w2 (fun b => wr.heap.size ≤ b) u := hin3
               have hR := (HY.out.1.below hk3).own
               have y1 := (HY.out.2.2.1.below hk3).cell 1
               have y2 := (HY.out.2.2.1.below hk3).lt
               have hs3 := hk3.size
               simp at y1)
            | (refine step_app rfl (.tmp 36) (.tmp 47) 22 24 i0 _ 4 56 Kd rfl (wo.heap.size + 1) v2 q _ rfl (hR.alloc _) ⟨w2.heap.size, 0, none⟩ 1 1 [.int .i64 u.kind, .int .i64 u.int, .string u.text, .slice u.p u.n u.c] rfl rfl (news4 _ _ _ _ _ _) (oneCell_cells u) (by omega) (by omega) (by simp; omega) ?_
               intro v3 w3 ho3 hg3 hn3
               obtain ⟨p3, c3, rfl⟩ := ownsRow_slice ho3
               have ha : Below w2.heap.size w2 (w2.alloc (.cells #[.int .i64 u.kind, .int .i64 u.int, .string u.text, .slice u.p u.n u.c] 24)) := (Below.refl _ _).alloc (Nat.le_refl _) _
               have hC3 : Box w3 wo.heap.size #[.string fs, v2] 87 := ((HY.out.2.2.1.below hk3).below ha).kept (hg3.block _ (by simp; omega) (fun e => by have := (hR.lt _ e.symm).1; omega))
               have z0 := hC3.cell 0
               have z1 := hC3.cell 1
               have zf := hC3.frozen 1
               have zl := hC3.lt
               simp at z0 z1))
          all_goals
            obtain ⟨hI1, hI2, hI3, hI4⟩ := inner_push rfl HY.out.1 HY.out.2.1 HY.out.2.2.1 HY.out.2.2.2 hk3 hin4 hal3 ho3 hg3 hn3
            have HZ : Hid (OwnV (wo.heap.size + 1) (w3.setCell ⟨wo.heap.size, 1, none⟩ (.slice p3 (q + 1) c3)) (.slice p3 (q + 1) c3) (q + 1) (fun z => if z < q then g2 z else u) ∧ (∀ z, z < q + 1 → VT.Alike (ff z) (if z < q then g2 z else u)) ∧ Box (w3.setCell ⟨wo.heap.size, 1, none⟩ (.slice p3 (q + 1) c3)) wo.heap.size #[.string fs, .slice p3 (q + 1) c3] 87 ∧ Below wo.heap.size wo (w3.setCell ⟨wo.heap.size, 1, none⟩ (.slice p3 (q + 1) c3))) := ⟨hI1, hI2, hI3, hI4⟩
            clear hI1 hI2 hI3 hI4 ho3 hg3 hn3 hk3 hin4 hal3 hb3 hin3 hR hC3 ha
            go_wp2
            go_roundw
            case rel => exact ⟨q + 1, _, _, by omega, by go_num, HZ.out.1, HZ.out.2.1, HZ.out.2.2.1, HZ.out.2.2.2⟩
            case measure => simp [intOf]; omega
        · obtain rfl : q = fn := by omega
          have HY : Hid (OwnV (wo.heap.size + 1) wr v2 q g2 ∧ (∀ z, z < q → VT.Alike (ff z) (g2 z)) ∧ Box wr wo.heap.size #[.string fs, v2] 87 ∧ Below wo.heap.size wo wr) := ⟨hO2, hal2, hC2, hbel2⟩
          obtain ⟨p2, c2, rfl⟩ := ownsRow_slice hO2.own
          have e1 := (HX.out.2.2.1.below hbel2).cell 1
          have e0 := (HX.out.2.2.1.below hbel2).cell 0
          simp at e0 e1
          clear hO2 hal2 hC2 hbel2 HI
          have hOc := (HX.out.1.below HY.out.2.2.2)
          have hR := hOc.own
          have hl2' := (HX.out.2.2.1.below HY.out.2.2.2).lt
          go_wp2_with (at_builtin; refine wpList_app rfl (.tmp 51) (.tmp 53) 48 87 i1 _ 2 40 Kd1 rfl (w.heap.size + 3) v j _ rfl (hR.alloc _) ⟨wr.heap.size, 0, none⟩ 1 1 [.string fs, .slice p2 q c2] rfl rfl (news2 _ _ _ _) (oneCell_two (.mk fk fi fs q p2 c2 g2)) ?_ ?_ ?_ ?_)
          · omega
          · omega
          · simp; omega
          intro v3 w3 ho3 hg3 hn3
          obtain ⟨p4, c4, hv4, h1, h2, h3, h4, h5⟩ := HY.out.1.in_
          obtain ⟨rfl, rfl⟩ : p2 = p4 ∧ c2 = c4 := by simpa using hv4
          have hu : VT.In wr (fun b => wo.heap.size + 1 ≤ b) (.mk fk fi fs q p2 c2 g2) := ⟨⟨HFit.k0, HFit.k1, HFit.i0, HFit.i1, HFit.s1, h1, HFit.nn, h2, h3⟩, h4, h5⟩
          have hau : VT.Alike (f j) (.mk fk fi fs q p2 c2 g2) := by rw [hfe]; exact ⟨rfl, rfl, rfl, rfl, HY.out.2.1⟩
          obtain ⟨q1, q2, q3, q4, q5, q6⟩ := outer_push hOc HX.out.2.1 (HX.out.2.2.1.below HY.out.2.2.2) (HX.out.2.2.2.1.below HY.out.2.2.2) (HX.out.2.2.2.2.1.below HY.out.2.2.2) (HX.out.2.2.2.2.2.trans (HY.out.2.2.2.mono HX.out.2.2.2.2.2.size)) hu (by omega) (fun b hb => by have := (HX.out.1.own.lt b hb).2; omega) hau ho3 hg3 hn3
          have ho3' := ho3
          obtain ⟨p3, c3, rfl⟩ := ownsRow_slice ho3'
          have HZ : Hid (_ ∧ _ ∧ _ ∧ _ ∧ _ ∧ _) := ⟨q1, q2, q3, q4, q5, q6⟩
          have hB3 : Box w3 (w.heap.size + 1 + 1) #[.int .i64 num, v] 50 := ((HX.out.2.2.1.below HY.out.2.2.2).below ((Below.refl _ _).alloc (Nat.le_refl _) (.cells #[.string fs, .slice p2 q c2] 87))).kept (hg3.block _ (by simp; omega) (fun e => by have := (hR.lt _ e.symm).1; omega))
          have z0 := hB3.cell 0
          have z1 := hB3.cell 1
          have zf := hB3.frozen 1
          have zl := hB3.lt
          simp at z0 z1
          clear q1 q2 q3 q4 q5 q6 ho3 ho3' hg3 hn3 hu hau h1 h2 h3 h4 h5 hB3 hR hOc HFit HF
          go_wp2
          go_roundw
          case rel => exact ⟨j + 1, _, _, by omega, by go_num, HZ.out.1, HZ.out.2.1, HZ.out.2.2.1, HZ.out.2.2.2.1, HZ.out.2.2.2.2.1, HZ.out.2.2.2.2.2⟩
          case measure => simp [intOf]; omega
    · obtain rfl : j = n := by omega
      obtain ⟨p3, c3, rfl, hin3⟩ := hO.in_ num (by omega) HI.out.u0 HI.out.u1
      have HL : Hid (ST.Alike ⟨num, p, j, c, f⟩ ⟨num, p3, j, c3, g⟩ ∧ ST.In wo (fun b => w.heap.size + 3 ≤ b) ⟨num, p3, j, c3, g⟩) := ⟨⟨rfl, rfl, hal⟩, hin3⟩
      have hlt' : ¬ (j : Int) < (j : Int) := by omega
      have g0 := hB1.frozen 0
      have g1 := hB1.frozen 1
      have e0 := hB1.cell 0
      have e1 := hB1.cell 1
      have hB2' : Box wo (w.heap.size + 1 + 1) #[.int .i64 num, .slice p3 j c3] 50 := hB2
      have d0 := hB2'.cell 0
      have d1 := hB2'.cell 1
      simp at d0 d1 e0 e1
      have hl2' : w.heap.size + 1 + 1 < wo.heap.size := hl2
      clear hO hal hin3 hB0 hB1 hB2 hB2' HI
      go_wp2
      have hk : But (fun x => x = w.heap.size + 1) wo ((wo.setCell ⟨w.heap.size + 1, 0, none⟩ (.int .i64 num)).setCell ⟨w.heap.size + 1, 1, none⟩ (.slice p3 j c3)) :=
        ((But.one wo (w.heap.size + 1)).setAt 0 _).setAt 1 _
      refine bodyPost_ret (v := .agg #[.int .i64 num, .slice p3 j c3]) (by simp [results, Try.results19, go_sem, e0, e1]) rfl ⟨⟨num, p3, j, c3, g⟩, rfl, HL.out.1, ?_, ?_⟩
      · exact (HL.out.2.but hk (fun b hb _ => by omega)).mono fun b hb _ => by omega
      · exact hbel.trans (hk.below (by omega) (fun x hx => by omega))
end Go.Proofs.Ytkodlhjcoeljiaa
