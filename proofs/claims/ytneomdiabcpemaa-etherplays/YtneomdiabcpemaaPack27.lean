import Derived.Test.YtneomdiabcpemaaPack0
import Derived.Test.YtneomdiabcpemaaPack25
import Derived.Test.YtneomdiabcpemaaPack26
namespace Go.Proofs.Ytneomdiabcpemaa
open Go.RowKit
set_option maxRecDepth 8000

end Go.Proofs.Ytneomdiabcpemaa

namespace Go.Proofs.Ytneomdiabcpemaa
open Go.RowKit
set_option maxRecDepth 8000

/-- a row of values that is being filled, beside a room -/
structure Fill (B : Nat) (w : World) (R : RS) (v : Value) (n : Nat) (g : Nat → VT) : Prop where
  row : w.ownsRow B 96 4 v n ((List.range n).flatMap fun j => (g j).cells)
  each : ∀ j, j < n → VT.In w (fun b => B ≤ b ∧ v.ownBlock ≠ some b ∧ ¬ R.hot b) (g j)
  sep : ∀ b, v.ownBlock = some b → ¬ R.foot b
theorem Fill.call {B : Nat} {w w2 : World} {R R2 : RS} {v : Value} {n : Nat} {g : Nat → VT} (h : Fill B w R v n g) (hb : But R.hot w w2) (hn : Next w R R2) : Fill B w2 R2 v n g := by
  have hlt := h.row.lt
  refine ⟨ownsRow_keep h.row fun k hk hl => hb.block k hl fun e => h.sep k hk (.inl e), fun j hj => ?_, fun b hb2 hf => ?_⟩
  · have h1 : VT.In w (fun b => (B ≤ b ∧ v.ownBlock ≠ some b ∧ ¬ R2.hot b) ∧ ¬ R.hot b) (g j) := (h.each j hj).mono fun b hb2 hl => ⟨⟨hb2.1, hb2.2.1, fun e => by
      rcases hn.hot b e with h2 | h2
      · exact hb2.2.2 h2
      · omega⟩, hb2.2.2⟩
    exact (h1.but hb fun b hb2 _ => hb2.2).mono fun b hb2 _ => hb2.1
  · rcases hn.foot b hf with h2 | h2
    · exact h.sep b hb2 h2
    · have := (hlt b hb2).2; omega
theorem Fill.push {B : Nat} {w w' : World} {R : RS} {v v' : Value} {n : Nat} {g : Nat → VT} {u : VT} (h : Fill B w R v n g) (hf : ∀ b, R.foot b → b < w.heap.size) (hu : VT.In w (fun b => B ≤ b ∧ v.ownBlock ≠ some b ∧ ¬ R.hot b) u)
    (hown : w'.ownsRow B 96 4 v' (n + 1) (((List.range n).flatMap fun j => (g j).cells) ++ u.cells)) (hg : w.grownBy w' v.ownBlock) (hn : Near w v v') :
    Fill B w' R v' (n + 1) (fun j => if j < n then g j else u) := by
  have key : ∀ x, VT.In w (fun b => B ≤ b ∧ v.ownBlock ≠ some b ∧ ¬ R.hot b) x → VT.In w' (fun b => B ≤ b ∧ v'.ownBlock ≠ some b ∧ ¬ R.hot b) x := by
    intro x hx
    have h1 : VT.In w (fun b => (B ≤ b ∧ v'.ownBlock ≠ some b ∧ ¬ R.hot b) ∧ v.ownBlock ≠ some b) x := by
      refine hx.mono fun b hb hl => ⟨⟨hb.1, fun e => ?_, hb.2.2⟩, hb.2.1⟩
      rcases hn with h1 | h1
      · exact hb.2.1 (h1 ▸ e)
      · have := h1 b e; omega
    exact (h1.kept hg.size (fun b hb hl => hg.block b hl (fun e => hb.2 e.symm))).mono fun b hb _ => hb.1
  refine ⟨?_, fun j hj => ?_, fun b hb hft => ?_⟩
  · have e : ((List.range (n + 1)).flatMap fun j => (if j < n then g j else u).cells) = ((List.range n).flatMap fun j => (g j).cells) ++ u.cells := by
      rw [List.range_succ, List.flatMap_append]
      congr 1
      · rw [List.flatMap_def, List.flatMap_def]
        congr 1
        apply List.map_congr_left
        intro j hj
        rw [if_pos (List.mem_range.1 hj)]
      · simp
    rw [e]
    exact hown
  · by_cases hjn : j < n
    · rw [if_pos hjn]; exact key _ (h.each j hjn)
    · rw [if_neg hjn]; exact key _ hu
  · rcases hn with h1 | h1
    · exact h.sep b (h1 ▸ hb) hft
    · have := h1 b hb
      have := hf b hft
      omega
theorem Fill.below {B : Nat} {w w' : World} {R : RS} {v : Value} {n : Nat} {g : Nat → VT} (h : Fill B w R v n g) (hb : Below w.heap.size w w') : Fill B w' R v n g :=
  ⟨ownsRow_keep h.row fun k _ hl => hb.block k hl, fun j hj => (h.each j hj).below hb, h.sep⟩
theorem Fill.room {B base : Nat} {w w' : World} {R : RS} {v : Value} {n : Nat} {g : Nat → VT} (h : Fill B w R v n g) (hr : Rm base w R) (hg : w.grownBy w' v.ownBlock) : Rm base w' R :=
  hr.keep hg.size fun b hb => hg.block b (hr.footlt hb) fun e => h.sep b e.symm hb
theorem Fill.congr {B : Nat} {w : World} {R : RS} {v : Value} {n : Nat} {g g' : Nat → VT} (h : Fill B w R v n g) (e : ∀ j, j < n → g j = g' j) : Fill B w R v n g' := by
  refine ⟨?_, fun j hj => e j hj ▸ h.each j hj, h.sep⟩
  have e2 : ((List.range n).flatMap fun j => (g' j).cells) = ((List.range n).flatMap fun j => (g j).cells) := by
    rw [List.flatMap_def, List.flatMap_def]
    congr 1
    apply List.map_congr_left
    intro j hj
    rw [e j (List.mem_range.1 hj)]
  rw [e2]; exact h.row
theorem Fill.nil (B : Nat) (w : World) (R : RS) (g : Nat → VT) (hB : B ≤ w.heap.size) (hf : ∀ b, R.foot b → b < w.heap.size) : Fill B (w.alloc (.cells #[] 96)) R (.slice (some ⟨w.heap.size, 0, none⟩) 0 0) 0 g := by
  refine ⟨?_, fun j hj => absurd hj (by omega), fun b hb hft => ?_⟩
  · have h := World.ownsRow_made (base := B) (e := 96) (size := 4) w #[] 0 hB (Nat.zero_le _) (by simp)
    simpa using h
  · have := hf b hft
    simp only [Value.ownBlock, Option.some.injEq] at hb
    omega
theorem markV_in (w : World) (S : Nat → Prop) (i : Nat) : VT.In w S (markV i) := by
  have hl : -7702 ≤ lotN i ∧ lotN i ≤ -7701 := by unfold lotN; split <;> omega
  refine ⟨⟨?_, ?_, ?_, ?_, ?_, ?_, ?_, ?_, fun _ => ⟨rfl, rfl⟩⟩, fun h => absurd h (by omega), fun j hj => absurd hj (by omega)⟩
  · show (-9223372036854775808 : Int) ≤ 1; omega
  · show (1 : Int) ≤ 9223372036854775807; omega
  · show -9223372036854775808 ≤ lotN i; omega
  · show lotN i ≤ 9223372036854775807; omega
  · show (⟨#[]⟩ : ByteArray).size ≤ 140737488355328; decide
  · exact Nat.le_refl 0
  · show 0 ≤ 140737488355328; omega
  · exact Nat.zero_le _
theorem But.next {w w1 w2 : World} {R R1 : RS} (h : But R.hot w w1) (hn : Next w R R1) (k : But R1.hot w1 w2) : But R.hot w w2 :=
  ⟨k.os.trans h.os, k.tape.trans h.tape, k.output.trans h.output, Nat.le_trans h.size k.size, fun b hb hx => (k.block b (Nat.lt_of_lt_of_le hb h.size) fun e => by
    rcases hn.hot b e with h2 | h2
    · exact hx h2
    · omega).trans (h.block b hb hx)⟩

/-- what comes of a copy with room -/
structure Roomed (base : Nat) (w : World) (R : RS) (t u : VT) (w' : World) (R' : RS) : Prop where
  alike : VT.Alike t u
  in_ : VT.In w' (fun b => w.heap.size ≤ b ∧ ¬ R'.hot b) u
  rm : Rm base w' R'
  next : Next w R R'
  but : But R.hot w w'
  cnt : ∀ i, i < 10 → (R'.L i).length ≤ (R.L i).length + 1 + t.total
def WPost (base : Nat) (w : World) (R : RS) (t : VT) (e : Ending) (w' : World) : Prop := ∃ u R', e = .returned u.val ∧ Roomed base w R t u w' R'
def FPost (base : Nat) (w : World) (R : RS) (t : VT) (e : Ending) (w' : World) : Prop := ∃ u R', e = .returned u.row ∧ Roomed base w R t u w' R'
theorem Fill.at_ {B : Nat} {w : World} {R : RS} {v : Value} {n : Nat} {g : Nat → VT} (h : Fill B w R v n g) {b c : Nat} (hv : v = .slice (some ⟨b, 0, none⟩) n c) {j : Nat} (hj : j < n) : VT.At w b (0 + j * 4) (g j) := by
  have hc := h.row.cells (g := b) (by rw [hv]; rfl)
  have k : ∀ r u, r < 4 → (g j).cells[r]? = some u → w.cell? ⟨b, 0 + j * 4 + r, none⟩ = some u := by
    intro r u hr hu
    have := hc (j * 4 + r) u (by rw [flat_get g n j r hj hr]; exact hu)
    rw [Go.WideShapes.add_plain] at this
    rw [show 0 + j * 4 + r = 0 + (j * 4 + r) by omega]
    exact this
  exact ⟨k 0 _ (by omega) rfl, k 1 _ (by omega) rfl, k 2 _ (by omega) rfl, k 3 _ (by omega) rfl⟩

/-- a list with its marks, put into field z of the room, and handed out up to its length -/
theorem few_post {base : Nat} {w wr w' : World} {R Rj : RS} {k i : Int} {s : ByteArray} {j : Nat} {p : Option Addr} {c : Nat} {f g : Nat → VT} {gb cap z x : Nat} {v5 : Value}
    (hal : ∀ q, q < j → VT.Alike (f q) (g q)) (hNx : Next w R Rj) (hcn : ∀ q, q < 10 → (Rj.L q).length ≤ (R.L q).length + j + VT.upto (.mk k i s j p c f) j) (hfit : VT.Fit (.mk k i s j p c f))
    (hgB : w.heap.size ≤ gb) (hgl : gb < wr.heap.size) (_hcap : j + x ≤ cap) (hFm : Fill w.heap.size wr Rj (.slice (some ⟨gb, 0, none⟩) (j + x) cap) (j + x) (fun q => if q < j then g q else markV (q - j))) (hBm : But R.hot w wr)
    (hput : Rm base w' (Rj.put z v5 ⟨gb, j + x, cap⟩) ∧ ((∀ b, (Rj.put z v5 ⟨gb, j + x, cap⟩).hot b → Rj.hot b ∨ wr.heap.size ≤ b) ∧ ∀ b, (Rj.put z v5 ⟨gb, j + x, cap⟩).foot b → Rj.foot b ∨ wr.heap.size ≤ b ∨ b = gb) ∧ But Rj.hot wr w') (hx : x ≤ 1000) (hz : z = 2 ∨ z = 3) :
    FPost base w R (.mk k i s j p c f) (.returned (.slice (some ⟨gb, 0, none⟩) j (j + x))) w' := by
  obtain ⟨hrm, ⟨hhot, hfoot⟩, hbut⟩ := hput
  have hsw := hBm.size
  have hnn := hfit.nn
  simp only [VT.n_mk] at hnn
  have hcool : ∀ b, b < wr.heap.size → ¬ Rj.hot b → ¬ (Rj.put z v5 ⟨gb, j + x, cap⟩).hot b := fun b hb h h2 => by
    rcases hhot b h2 with h3 | h3
    · exact h h3
    · omega
  have hgc : ¬ Rj.hot gb := fun h => hFm.sep gb rfl (.inl h)
  refine ⟨.mk k i s j (some ⟨gb, 0, none⟩) (j + x) (fun q => if q < j then g q else markV (q - j)), Rj.put z v5 ⟨gb, j + x, cap⟩, rfl, ⟨⟨rfl, rfl, rfl, rfl, fun q hq => ?_⟩, ⟨⟨hfit.k0, hfit.k1, hfit.i0, hfit.i1, hfit.s1, ?_, hnn, ?_, fun h => by cases h⟩, fun _ => ⟨gb, 0, rfl, ⟨hgB, hcool gb hgl hgc⟩, Nat.lt_of_lt_of_le hgl hbut.size, fun q hq => ?_⟩, fun q hq => ?_⟩, hrm, ⟨hNx.rb, fun b hb => ?_, fun b hb => ?_, fun q h2 h3 => ?_⟩, hBm.next hNx hbut, fun q hq => ?_⟩⟩
  · simp only [VT.item_mk, if_pos hq]; exact hal q hq
  · show j ≤ j + x; omega
  · show j + x ≤ maxLen; unfold maxLen; omega
  · exact (hFm.at_ rfl (show q < j + x by omega)).kept (hbut.block gb hgl hgc)
  · have h := hFm.each q (by omega)
    have h1 : VT.In wr (fun b => (w.heap.size ≤ b ∧ ¬ (Rj.put z v5 ⟨gb, j + x, cap⟩).hot b) ∧ ¬ Rj.hot b) _ := h.mono fun b hb hl => ⟨⟨hb.1, hcool b hl hb.2.2⟩, hb.2.2⟩
    exact (h1.but hbut fun b hb _ => hb.2).mono fun b hb _ => hb.1
  · rcases hhot b hb with h1 | h1
    · exact hNx.hot b h1
    · exact .inr (by omega)
  · rcases hfoot b hb with h1 | h1 | h1
    · exact hNx.foot b h1
    · exact .inr (by omega)
    · exact .inr (by omega)
  · have hq : ¬ q = z := by omega
    simp only [RS.put, if_neg hq]
    exact hNx.same q h2 h3
  · have h1 := hcn q hq
    rw [VT.total_upto]
    simp only [VT.n_mk]
    by_cases hqz : q = z
    · simp only [RS.put, if_pos hqz, List.length_append, List.length_singleton]; omega
    · simp only [RS.put, if_neg hqz]; omega

end Go.Proofs.Ytneomdiabcpemaa
