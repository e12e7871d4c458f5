import Derived.Test.YtpldokahoamdpaaPack39
import Derived.Test.YtpldokahoamdpaaPack26
namespace Go.Proofs.Ytpldokahoamdpaa
open Go.RowKit
set_option maxRecDepth 8000

/-- a row of items that is being filled, beside a room -/
structure FillT (B : Nat) (w : World) (R : RS) (v : Value) (n : Nat) (g : Nat → IT) : Prop where
  row : w.ownsRow B 35 7 v n ((List.range n).flatMap fun j => elItem.cells (g j))
  each : ∀ j, j < n → IT.In w (fun b => B ≤ b ∧ v.ownBlock ≠ some b ∧ ¬ R.hot b) (g j)
  sep : ∀ b, v.ownBlock = some b → ¬ R.foot b
theorem FillT.call {B : Nat} {w w2 : World} {R R2 : RS} {v : Value} {n : Nat} {g : Nat → IT} (h : FillT B w R v n g) (hb : But R.hot w w2) (hn : Nx w R R2) : FillT B w2 R2 v n g := by
  have hlt := h.row.lt
  refine ⟨ownsRow_keep h.row fun k hk hl => hb.block k hl fun e => h.sep k hk (.inl e), fun j hj => ?_, fun b hb2 hf => ?_⟩
  · have h1 : IT.In w (fun b => (B ≤ b ∧ v.ownBlock ≠ some b ∧ ¬ R2.hot b) ∧ ¬ R.hot b) (g j) := (h.each j hj).mono fun b hb2 hl => ⟨⟨hb2.1, hb2.2.1, fun e => by
      rcases hn.hot b e with h2 | h2
      · exact hb2.2.2 h2
      · omega⟩, hb2.2.2⟩
    exact (h1.kept hb.size fun b hb2 hl => hb.block b hl hb2.2).mono fun b hb2 _ => hb2.1
  · rcases hn.foot b hf with h2 | h2
    · exact h.sep b hb2 h2
    · have := (hlt b hb2).2; omega
theorem FillT.push {B : Nat} {w w' : World} {R : RS} {v v' : Value} {n : Nat} {g : Nat → IT} {u : IT} (h : FillT B w R v n g) (hf : ∀ b, R.foot b → b < w.heap.size) (hu : IT.In w (fun b => B ≤ b ∧ v.ownBlock ≠ some b ∧ ¬ R.hot b) u)
    (hown : w'.ownsRow B 35 7 v' (n + 1) (((List.range n).flatMap fun j => elItem.cells (g j)) ++ elItem.cells u)) (hg : w.grownBy w' v.ownBlock) (hn : Near w v v') :
    FillT B w' R v' (n + 1) (fun j => if j < n then g j else u) := by
  have key : ∀ x, IT.In w (fun b => B ≤ b ∧ v.ownBlock ≠ some b ∧ ¬ R.hot b) x → IT.In w' (fun b => B ≤ b ∧ v'.ownBlock ≠ some b ∧ ¬ R.hot b) x := by
    intro x hx
    have h1 : IT.In w (fun b => (B ≤ b ∧ v'.ownBlock ≠ some b ∧ ¬ R.hot b) ∧ v.ownBlock ≠ some b) x := by
      refine hx.mono fun b hb hl => ⟨⟨hb.1, fun e => ?_, hb.2.2⟩, hb.2.1⟩
      rcases hn with h1 | h1
      · exact hb.2.1 (h1 ▸ e)
      · have := h1 b e; omega
    exact (h1.kept hg.size (fun b hb hl => hg.block b hl (fun e => hb.2 e.symm))).mono fun b hb _ => hb.1
  refine ⟨?_, fun j hj => ?_, fun b hb hft => ?_⟩
  · have e : ((List.range (n + 1)).flatMap fun j => elItem.cells (if j < n then g j else u)) = ((List.range n).flatMap fun j => elItem.cells (g j)) ++ elItem.cells u := by
      rw [List.range_succ, List.flatMap_append]
      congr 1
      · rw [List.flatMap_def, List.flatMap_def]
        congr 1
        apply List.map_congr_left
        intro j hj
        rw [if_pos (List.mem_range.1 hj)]
      · simp
    rw [e]
    exact hown
  · by_cases hjn : j < n
    · rw [if_pos hjn]; exact key _ (h.each j hjn)
    · rw [if_neg hjn]; exact key _ hu
  · rcases hn with h1 | h1
    · exact h.sep b (h1 ▸ hb) hft
    · have := h1 b hb
      have := hf b hft
      omega
theorem FillT.below {B : Nat} {w w' : World} {R : RS} {v : Value} {n : Nat} {g : Nat → IT} (h : FillT B w R v n g) (hb : Below w.heap.size w w') : FillT B w' R v n g :=
  ⟨ownsRow_keep h.row fun k _ hl => hb.block k hl, fun j hj => (h.each j hj).below hb, h.sep⟩
theorem FillT.room {B base : Nat} {w w' : World} {R : RS} {v : Value} {n : Nat} {g : Nat → IT} (h : FillT B w R v n g) (hr : Rm base w R) (hg : w.grownBy w' v.ownBlock) : Rm base w' R :=
  hr.keep hg.size fun b hb => hg.block b (hr.footlt hb) fun e => h.sep b e.symm hb
theorem FillT.congr {B : Nat} {w : World} {R : RS} {v : Value} {n : Nat} {g g' : Nat → IT} (h : FillT B w R v n g) (e : ∀ j, j < n → g j = g' j) : FillT B w R v n g' := by
  refine ⟨?_, fun j hj => e j hj ▸ h.each j hj, h.sep⟩
  have e2 : ((List.range n).flatMap fun j => elItem.cells (g' j)) = ((List.range n).flatMap fun j => elItem.cells (g j)) := by
    rw [List.flatMap_def, List.flatMap_def]
    congr 1
    apply List.map_congr_left
    intro j hj
    rw [e j (List.mem_range.1 hj)]
  rw [e2]; exact h.row
theorem FillT.nil (B : Nat) (w : World) (R : RS) (g : Nat → IT) (hB : B ≤ w.heap.size) (hf : ∀ b, R.foot b → b < w.heap.size) : FillT B (w.alloc (.cells #[] 35)) R (.slice (some ⟨w.heap.size, 0, none⟩) 0 0) 0 g := by
  refine ⟨?_, fun j hj => absurd hj (by omega), fun b hb hft => ?_⟩
  · have h := World.ownsRow_made (base := B) (e := 35) (size := 7) w #[] 0 hB (Nat.zero_le _) (by simp)
    simpa using h
  · have := hf b hft
    simp only [Value.ownBlock, Option.some.injEq] at hb
    omega
/-- the k-th mark behind a list of items -/
def markI (k : Nat) : IT := ⟨lotN k, rz⟩
theorem markI_in (w : World) (S : Nat → Prop) (i : Nat) : IT.In w S (markI i) := by
  have hl : -7702 ≤ lotN i ∧ lotN i ≤ -7701 := by unfold lotN; split <;> omega
  exact ⟨rz_in w S, by show -9223372036854775808 ≤ lotN i; omega, by show lotN i ≤ 9223372036854775807; omega⟩
theorem FillT.at_ {B : Nat} {w : World} {R : RS} {v : Value} {n : Nat} {g : Nat → IT} (h : FillT B w R v n g) {b c : Nat} (hv : v = .slice (some ⟨b, 0, none⟩) n c) {j : Nat} (hj : j < n) {r : Nat} {u : Value} (hu : (elItem.cells (g j))[r]? = some u) : w.cell? ⟨b, 0 + j * 7 + r, none⟩ = some u := by
  have hc := h.row.cells (g := b) (by rw [hv]; rfl)
  have hr : r < 7 := by
    rcases Nat.lt_or_ge r 7 with h | h
    · exact h
    · rw [List.getElem?_eq_none (by rw [elItem.len]; exact h)] at hu; cases hu
  have := hc (j * 7 + r) u ((range_flat_get elItem g n j r hj hr).trans hu)
  rw [Go.WideShapes.add_plain] at this
  rw [show 0 + j * 7 + r = 0 + (j * 7 + r) by omega]
  exact this
/-- what comes of a list of items with room -/
structure RoomedT (base : Nat) (w : World) (R : RS) (l u : LT IT) (w' : World) (R' : RS) : Prop where
  n : u.n = l.n
  alike : ∀ j, j < l.n → IT.Alike (l.item j) (u.item j)
  in_ : LT.In elItem w' (fun b => w.heap.size ≤ b ∧ ¬ R'.hot b) u
  blk : ∃ g cur, u.p = some ⟨g, 0, none⟩ ∧ w.heap.size ≤ g ∧ ¬ R'.hot g ∧ Box w' g cur 35 ∧ l.n * 7 ≤ cur.size ∧ ∀ j, j < l.n → IT.In w' (fun b => b ≠ g) (u.item j)
  rm : Rm base w' R'
  nx : Nx w R R'
  but : But R.hot w w'
def TPost (base : Nat) (w : World) (R : RS) (l : LT IT) (e : Ending) (w' : World) : Prop := ∃ u R', e = .returned (.slice u.p u.n u.c) ∧ RoomedT base w R l u w' R'
theorem items_post {base : Nat} {w wr w' : World} {R Rj : RS} {l : LT IT} {g : Nat → IT} {gb cap : Nat} {v5 : Value} (hl : l.n ≤ 10000)
    (hal : ∀ q, q < l.n → IT.Alike (l.item q) (g q)) (hNx : Nx w R Rj)
    (hgB : w.heap.size ≤ gb) (hgl : gb < wr.heap.size) (hFm : FillT w.heap.size wr Rj (.slice (some ⟨gb, 0, none⟩) (l.n + 40) cap) (l.n + 40) (fun q => if q < l.n then g q else markI (q - l.n))) (hBm : But R.hot w wr)
    (hput : Rm base w' (Rj.put 8 v5 ⟨gb, l.n + 40, cap⟩) ∧ ((∀ b, (Rj.put 8 v5 ⟨gb, l.n + 40, cap⟩).hot b → Rj.hot b ∨ wr.heap.size ≤ b) ∧ ∀ b, (Rj.put 8 v5 ⟨gb, l.n + 40, cap⟩).foot b → Rj.foot b ∨ wr.heap.size ≤ b ∨ b = gb) ∧ But Rj.hot wr w') :
    TPost base w R l (.returned (.slice (some ⟨gb, 0, none⟩) l.n (l.n + 40))) w' := by
  obtain ⟨hrm, ⟨hhot, hfoot⟩, hbut⟩ := hput
  have hsw := hBm.size
  have hcool : ∀ b, b < wr.heap.size → ¬ Rj.hot b → ¬ (Rj.put 8 v5 ⟨gb, l.n + 40, cap⟩).hot b := fun b hb h h2 => by
    rcases hhot b h2 with h3 | h3
    · exact h h3
    · omega
  have hgc : ¬ Rj.hot gb := fun h => hFm.sep gb rfl (.inl h)
  have hin : ∀ j, j < l.n → IT.In w' (fun b => (w.heap.size ≤ b ∧ ¬ (Rj.put 8 v5 ⟨gb, l.n + 40, cap⟩).hot b) ∧ b ≠ gb) (g j) := fun q hq => by
    have h := hFm.each q (by omega)
    simp only [if_pos hq] at h
    have h1 : IT.In wr (fun b => ((w.heap.size ≤ b ∧ ¬ (Rj.put 8 v5 ⟨gb, l.n + 40, cap⟩).hot b) ∧ b ≠ gb) ∧ ¬ Rj.hot b) (g q) := h.mono fun b hb hl => ⟨⟨⟨hb.1, hcool b hl hb.2.2⟩, fun e => hb.2.1 (by rw [e]; rfl)⟩, hb.2.2⟩
    exact (h1.kept hbut.size fun b hb hl => hbut.block b hl hb.2).mono fun b hb _ => hb.1
  refine ⟨⟨some ⟨gb, 0, none⟩, l.n, l.n + 40, g⟩, Rj.put 8 v5 ⟨gb, l.n + 40, cap⟩, rfl, ⟨rfl, hal, ⟨fun _ => ⟨gb, 0, rfl, ⟨hgB, hcool gb hgl hgc⟩, Nat.lt_of_lt_of_le hgl hbut.size, fun j hj r u hu => ?_⟩, fun j hj => (hin j hj).mono fun b hb _ => hb.1, by show l.n ≤ l.n + 40; omega, by show l.n ≤ 140737488355328; omega, by show l.n + 40 ≤ maxLen; unfold maxLen; omega, fun h => by cases h⟩, ?_, hrm, ⟨hNx.rb, fun b hb => ?_, fun b hb => ?_, fun hp => (hNx.plain hp).put (.inr (.inr (.inr rfl))) _ _⟩, hBm.nx hNx hbut⟩⟩
  · have h := hFm.at_ rfl (show j < l.n + 40 by have : j < l.n := hj; omega) (r := r) (u := u) (by rw [if_pos (show j < l.n from hj)]; exact hu)
    exact (World.cell?_of_block (a := ⟨gb, 0 + j * 7 + r, none⟩) (hbut.block gb hgl hgc)).trans h
  · obtain ⟨_, ⟨hv, h0⟩ | ⟨gb2, cap2, cur, hv, hbg, hh, hnc, _, hsz, _⟩⟩ := id hFm.row
    · omega
    · simp only [Value.slice.injEq, Option.some.injEq, Addr.mk.injEq] at hv
      obtain ⟨⟨rfl, _⟩, _, rfl⟩ := hv
      refine ⟨gb, cur, rfl, hgB, hcool gb hgl hgc, Box.kept (w := wr) hh (hbut.block gb hgl hgc), ?_, fun j hj => (hin j hj).mono fun b hb _ => hb.2⟩
      rw [hsz]; omega
  · rcases hhot b hb with h1 | h1
    · exact hNx.hot b h1
    · exact .inr (by omega)
  · rcases hfoot b hb with h1 | h1 | h1
    · exact hNx.foot b h1
    · exact .inr (by omega)
    · exact .inr (by omega)
end Go.Proofs.Ytpldokahoamdpaa
