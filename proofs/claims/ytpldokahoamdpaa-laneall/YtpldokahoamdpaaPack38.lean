import Derived.Test.YtpldokahoamdpaaPack37
import Derived.Test.YtpldokahoamdpaaPack32
namespace Go.Proofs.Ytpldokahoamdpaa
open Go.RowKit
set_option maxRecDepth 8000

/-- a row of values that is being filled, beside a room -/
structure Fill (B : Nat) (w : World) (R : RS) (v : Value) (n : Nat) (g : Nat → VT) : Prop where
  row : w.ownsRow B 30 4 v n ((List.range n).flatMap fun j => (g j).cells)
  each : ∀ j, j < n → VT.In w (fun b => B ≤ b ∧ v.ownBlock ≠ some b ∧ ¬ R.hot b) (g j)
  sep : ∀ b, v.ownBlock = some b → ¬ R.foot b
theorem Fill.call {B : Nat} {w w2 : World} {R R2 : RS} {v : Value} {n : Nat} {g : Nat → VT} (h : Fill B w R v n g) (hb : But R.hot w w2) (hn : Next w R R2) : Fill B w2 R2 v n g := by
  have hlt := h.row.lt
  refine ⟨ownsRow_keep h.row fun k hk hl => hb.block k hl fun e => h.sep k hk (.inl e), fun j hj => ?_, fun b hb2 hf => ?_⟩
  · have h1 : VT.In w (fun b => (B ≤ b ∧ v.ownBlock ≠ some b ∧ ¬ R2.hot b) ∧ ¬ R.hot b) (g j) := (h.each j hj).mono fun b hb2 hl => ⟨⟨hb2.1, hb2.2.1, fun e => by
      rcases hn.hot b e with h2 | h2
      · exact hb2.2.2 h2
      · omega⟩, hb2.2.2⟩
    exact (h1.but hb fun b hb2 _ => hb2.2).mono fun b hb2 _ => hb2.1
  · rcases hn.foot b hf with h2 | h2
    · exact h.sep b hb2 h2
    · have := (hlt b hb2).2; omega
theorem Fill.push {B : Nat} {w w' : World} {R : RS} {v v' : Value} {n : Nat} {g : Nat → VT} {u : VT} (h : Fill B w R v n g) (hf : ∀ b, R.foot b → b < w.heap.size) (hu : VT.In w (fun b => B ≤ b ∧ v.ownBlock ≠ some b ∧ ¬ R.hot b) u)
    (hown : w'.ownsRow B 30 4 v' (n + 1) (((List.range n).flatMap fun j => (g j).cells) ++ u.cells)) (hg : w.grownBy w' v.ownBlock) (hn : Near w v v') :
    Fill B w' R v' (n + 1) (fun j => if j < n then g j else u) := by
  have key : ∀ x, VT.In w (fun b => B ≤ b ∧ v.ownBlock ≠ some b ∧ ¬ R.hot b) x → VT.In w' (fun b => B ≤ b ∧ v'.ownBlock ≠ some b ∧ ¬ R.hot b) x := by
    intro x hx
    have h1 : VT.In w (fun b => (B ≤ b ∧ v'.ownBlock ≠ some b ∧ ¬ R.hot b) ∧ v.ownBlock ≠ some b) x := by
      refine hx.mono fun b hb hl => ⟨⟨hb.1, fun e => ?_, hb.2.2⟩, hb.2.1⟩
      rcases hn with h1 | h1
      · exact hb.2.1 (h1 ▸ e)
      · have := h1 b e; omega
    exact (h1.kept hg.size (fun b hb hl => hg.block b hl (fun e => hb.2 e.symm))).mono fun b hb _ => hb.1
  refine ⟨?_, fun j hj => ?_, fun b hb hft => ?_⟩
  · have e : ((List.range (n + 1)).flatMap fun j => (if j < n then g j else u).cells) = ((List.range n).flatMap fun j => (g j).cells) ++ u.cells := by
      rw [List.range_succ, List.flatMap_append]
      congr 1
      · rw [List.flatMap_def, List.flatMap_def]
        congr 1
        apply List.map_congr_left
        intro j hj
        rw [if_pos (List.mem_range.1 hj)]
      · simp
    rw [e]
    exact hown
  · by_cases hjn : j < n
    · rw [if_pos hjn]; exact key _ (h.each j hjn)
    · rw [if_neg hjn]; exact key _ hu
  · rcases hn with h1 | h1
    · exact h.sep b (h1 ▸ hb) hft
    · have := h1 b hb
      have := hf b hft
      omega
theorem Fill.below {B : Nat} {w w' : World} {R : RS} {v : Value} {n : Nat} {g : Nat → VT} (h : Fill B w R v n g) (hb : Below w.heap.size w w') : Fill B w' R v n g :=
  ⟨ownsRow_keep h.row fun k _ hl => hb.block k hl, fun j hj => (h.each j hj).below hb, h.sep⟩
theorem Fill.room {B base : Nat} {w w' : World} {R : RS} {v : Value} {n : Nat} {g : Nat → VT} (h : Fill B w R v n g) (hr : Rm base w R) (hg : w.grownBy w' v.ownBlock) : Rm base w' R :=
  hr.keep hg.size fun b hb => hg.block b (hr.footlt hb) fun e => h.sep b e.symm hb
theorem Fill.congr {B : Nat} {w : World} {R : RS} {v : Value} {n : Nat} {g g' : Nat → VT} (h : Fill B w R v n g) (e : ∀ j, j < n → g j = g' j) : Fill B w R v n g' := by
  refine ⟨?_, fun j hj => e j hj ▸ h.each j hj, h.sep⟩
  have e2 : ((List.range n).flatMap fun j => (g' j).cells) = ((List.range n).flatMap fun j => (g j).cells) := by
    rw [List.flatMap_def, List.flatMap_def]
    congr 1
    apply List.map_congr_left
    intro j hj
    rw [e j (List.mem_range.1 hj)]
  rw [e2]; exact h.row
theorem Fill.nil (B : Nat) (w : World) (R : RS) (g : Nat → VT) (hB : B ≤ w.heap.size) (hf : ∀ b, R.foot b → b < w.heap.size) : Fill B (w.alloc (.cells #[] 30)) R (.slice (some ⟨w.heap.size, 0, none⟩) 0 0) 0 g := by
  refine ⟨?_, fun j hj => absurd hj (by omega), fun b hb hft => ?_⟩
  · have h := World.ownsRow_made (base := B) (e := 30) (size := 4) w #[] 0 hB (Nat.zero_le _) (by simp)
    simpa using h
  · have := hf b hft
    simp only [Value.ownBlock, Option.some.injEq] at hb
    omega
theorem markV_in (w : World) (S : Nat → Prop) (i : Nat) : VT.In w S (markV i) := by
  have hl : -7702 ≤ lotN i ∧ lotN i ≤ -7701 := by unfold lotN; split <;> omega
  refine ⟨⟨?_, ?_, ?_, ?_, ?_, ?_, ?_, ?_, fun _ => ⟨rfl, rfl⟩⟩, fun h => absurd h (by omega), fun j hj => absurd hj (by omega)⟩
  · show (-9223372036854775808 : Int) ≤ 1; omega
  · show (1 : Int) ≤ 9223372036854775807; omega
  · show -9223372036854775808 ≤ lotN i; omega
  · show lotN i ≤ 9223372036854775807; omega
  · show (⟨#[]⟩ : ByteArray).size ≤ 140737488355328; decide
  · exact Nat.le_refl 0
  · show 0 ≤ 140737488355328; omega
  · exact Nat.zero_le _
theorem But.next {w w1 w2 : World} {R R1 : RS} (h : But R.hot w w1) (hn : Next w R R1) (k : But R1.hot w1 w2) : But R.hot w w2 :=
  ⟨k.os.trans h.os, k.tape.trans h.tape, k.output.trans h.output, Nat.le_trans h.size k.size, fun b hb hx => (k.block b (Nat.lt_of_lt_of_le hb h.size) fun e => by
    rcases hn.hot b e with h2 | h2
    · exact hx h2
    · omega).trans (h.block b hb hx)⟩

/-- what comes of a copy with room -/
structure Roomed (base : Nat) (w : World) (R : RS) (t u : VT) (w' : World) (R' : RS) : Prop where
  alike : VT.Alike t u
  in_ : VT.In w' (fun b => w.heap.size ≤ b ∧ ¬ R'.hot b) u
  rm : Rm base w' R'
  next : Next w R R'
  but : But R.hot w w'
  cnt : ∀ i, i < 10 → (R'.L i).length ≤ (R.L i).length + 1 + t.total
def WPost (base : Nat) (w : World) (R : RS) (t : VT) (e : Ending) (w' : World) : Prop := ∃ u R', e = .returned u.val ∧ Roomed base w R t u w' R'
def FPost (base : Nat) (w : World) (R : RS) (t : VT) (e : Ending) (w' : World) : Prop := ∃ u R', e = .returned u.row ∧ Roomed base w R t u w' R'
def WithinC (t : VT) : Prop := ∀ (base : Nat) (w : World) (R : RS) (S : Nat → Prop), Rm base w R → base ≤ w.heap.size → VT.In w S t → (∀ b, S b → ¬ R.hot b) → (∀ i, i < 10 → (R.L i).length + 1 + t.total ≤ 100000) →
  Calls Try.prog 77 #[.pointer (some ⟨R.rb, 0, none⟩), t.val] w fun e w' => WPost base w R t e w'

theorem Fill.at_ {B : Nat} {w : World} {R : RS} {v : Value} {n : Nat} {g : Nat → VT} (h : Fill B w R v n g) {b c : Nat} (hv : v = .slice (some ⟨b, 0, none⟩) n c) {j : Nat} (hj : j < n) : VT.At w b (0 + j * 4) (g j) := by
  have hc := h.row.cells (g := b) (by rw [hv]; rfl)
  have k : ∀ r u, r < 4 → (g j).cells[r]? = some u → w.cell? ⟨b, 0 + j * 4 + r, none⟩ = some u := by
    intro r u hr hu
    have := hc (j * 4 + r) u (by rw [flat_get g n j r hj hr]; exact hu)
    rw [Go.WideShapes.add_plain] at this
    rw [show 0 + j * 4 + r = 0 + (j * 4 + r) by omega]
    exact this
  exact ⟨k 0 _ (by omega) rfl, k 1 _ (by omega) rfl, k 2 _ (by omega) rfl, k 3 _ (by omega) rfl⟩

/-- a list with its marks, put into field z of the room, and handed out up to its length -/
theorem few_post {base : Nat} {w wr w' : World} {R Rj : RS} {k i : Int} {s : ByteArray} {j : Nat} {p : Option Addr} {c : Nat} {f g : Nat → VT} {gb cap z x : Nat} {v5 : Value}
    (hal : ∀ q, q < j → VT.Alike (f q) (g q)) (hNx : Next w R Rj) (hcn : ∀ q, q < 10 → (Rj.L q).length ≤ (R.L q).length + j + VT.upto (.mk k i s j p c f) j) (hfit : VT.Fit (.mk k i s j p c f))
    (hgB : w.heap.size ≤ gb) (hgl : gb < wr.heap.size) (_hcap : j + x ≤ cap) (hFm : Fill w.heap.size wr Rj (.slice (some ⟨gb, 0, none⟩) (j + x) cap) (j + x) (fun q => if q < j then g q else markV (q - j))) (hBm : But R.hot w wr)
    (hput : Rm base w' (Rj.put z v5 ⟨gb, j + x, cap⟩) ∧ ((∀ b, (Rj.put z v5 ⟨gb, j + x, cap⟩).hot b → Rj.hot b ∨ wr.heap.size ≤ b) ∧ ∀ b, (Rj.put z v5 ⟨gb, j + x, cap⟩).foot b → Rj.foot b ∨ wr.heap.size ≤ b ∨ b = gb) ∧ But Rj.hot wr w') (hx : x ≤ 1000) (hz : z = 2 ∨ z = 3) :
    FPost base w R (.mk k i s j p c f) (.returned (.slice (some ⟨gb, 0, none⟩) j (j + x))) w' := by
  obtain ⟨hrm, ⟨hhot, hfoot⟩, hbut⟩ := hput
  have hsw := hBm.size
  have hnn := hfit.nn
  simp only [VT.n_mk] at hnn
  have hcool : ∀ b, b < wr.heap.size → ¬ Rj.hot b → ¬ (Rj.put z v5 ⟨gb, j + x, cap⟩).hot b := fun b hb h h2 => by
    rcases hhot b h2 with h3 | h3
    · exact h h3
    · omega
  have hgc : ¬ Rj.hot gb := fun h => hFm.sep gb rfl (.inl h)
  refine ⟨.mk k i s j (some ⟨gb, 0, none⟩) (j + x) (fun q => if q < j then g q else markV (q - j)), Rj.put z v5 ⟨gb, j + x, cap⟩, rfl, ⟨⟨rfl, rfl, rfl, rfl, fun q hq => ?_⟩, ⟨⟨hfit.k0, hfit.k1, hfit.i0, hfit.i1, hfit.s1, ?_, hnn, ?_, fun h => by cases h⟩, fun _ => ⟨gb, 0, rfl, ⟨hgB, hcool gb hgl hgc⟩, Nat.lt_of_lt_of_le hgl hbut.size, fun q hq => ?_⟩, fun q hq => ?_⟩, hrm, ⟨hNx.rb, fun b hb => ?_, fun b hb => ?_, fun q h2 h3 => ?_⟩, hBm.next hNx hbut, fun q hq => ?_⟩⟩
  · simp only [VT.item_mk, if_pos hq]; exact hal q hq
  · show j ≤ j + x; omega
  · show j + x ≤ maxLen; unfold maxLen; omega
  · exact (hFm.at_ rfl (show q < j + x by omega)).kept (hbut.block gb hgl hgc)
  · have h := hFm.each q (by omega)
    have h1 : VT.In wr (fun b => (w.heap.size ≤ b ∧ ¬ (Rj.put z v5 ⟨gb, j + x, cap⟩).hot b) ∧ ¬ Rj.hot b) _ := h.mono fun b hb hl => ⟨⟨hb.1, hcool b hl hb.2.2⟩, hb.2.2⟩
    exact (h1.but hbut fun b hb _ => hb.2).mono fun b hb _ => hb.1
  · rcases hhot b hb with h1 | h1
    · exact hNx.hot b h1
    · exact .inr (by omega)
  · rcases hfoot b hb with h1 | h1 | h1
    · exact hNx.foot b h1
    · exact .inr (by omega)
    · exact .inr (by omega)
  · have hq : ¬ q = z := by omega
    simp only [RS.put, if_neg hq]
    exact hNx.same q h2 h3
  · have h1 := hcn q hq
    rw [VT.total_upto]
    simp only [VT.n_mk]
    by_cases hqz : q = z
    · simp only [RS.put, if_pos hqz, List.length_append, List.length_singleton]; omega
    · simp only [RS.put, if_neg hqz]; omega

set_option maxHeartbeats 4000000 in
theorem few_of (k i : Int) (s : ByteArray) (n : Nat) (p : Option Addr) (c : Nat) (f : Nat → VT) (ih : ∀ j, WithinC (f j)) (base : Nat) (w : World) (R : RS) (S : Nat → Prop) (hR : Rm base w R) (hbase : base ≤ w.heap.size) (hin : VT.In w S (.mk k i s n p c f)) (hS : ∀ b, S b → ¬ R.hot b) (hcnt : ∀ q, q < 10 → (R.L q).length + 1 + (VT.mk k i s n p c f).total ≤ 100000) :
    Calls Try.prog 79 #[.pointer (some ⟨R.rb, 0, none⟩), .slice p n c] w fun e w' => FPost base w R (.mk k i s n p c f) e w' := by
  have hnn : n ≤ 100000 := by have := hcnt 0 (by omega); rw [VT.total_upto] at this; simp only [VT.n_mk] at this; omega
  obtain ⟨i0, Kd⟩ := kindV
  obtain ⟨i1, Kd1⟩ := kindVs
  have HI : Hid (VT.In w S (.mk k i s n p c f)) := hin
  have HSS : Hid (∀ b, S b → ¬ R.hot b) := hS
  have HCn : Hid (∀ q, q < 10 → (R.L q).length + 1 + (VT.mk k i s n p c f).total ≤ 100000) := hcnt
  have HR : Hid (Rm base w R) := hR
  clear hin hS hcnt hR
  go_enter Try.func79, Try.ntmps79
  go_wp2_with fail
  have hF0 : Fill w.heap.size (w.alloc (.cells #[] 30)) R (.slice (some ⟨w.heap.size, 0, none⟩) 0 0) 0 f := Fill.nil _ _ _ _ (Nat.le_refl _) fun b hb => HR.out.footlt hb
  have hb0 : Below w.heap.size w (w.alloc (.cells #[] 30)) := (Below.refl _ _).alloc (Nat.le_refl _) _
  have hR0 : Rm base (w.alloc (.cells #[] 30)) R := HR.out.below hb0
  go_loopw [5, 6] (fun v x wr => ∃ (j : Nat) (g : Nat → VT) (Rj : RS), j ≤ n ∧ x = .int .i64 j ∧ Fill w.heap.size wr Rj v j g ∧ (∀ q, q < j → VT.Alike (f q) (g q)) ∧ Rm base wr Rj ∧ Next w R Rj ∧ But R.hot w wr ∧ (∀ q, q < 10 → (Rj.L q).length ≤ (R.L q).length + j + VT.upto (.mk k i s n p c f) j)) (fun _ x _ => n - (intOf x).toNat)
  case atStart => exact ⟨0, f, R, Nat.zero_le _, rfl, hF0, fun q hq => absurd hq (by omega), hR0, Next.refl _ _, But.ofBelow hb0, fun q hq => by omega⟩
  case round =>
    obtain ⟨j, g, Rj, hj, rfl, hF, hal, hRj, hNx, hBt, hCn⟩ := hrel
    clear hF0 hb0 hR0
    have hrb := hNx.rb
    by_cases hlt : j < n
    · have hlt' : (j : Int) < (n : Int) := by omega
      obtain ⟨bb, o, hp, hSb, hbl, hat⟩ := HI.out.at_ (show 0 < (VT.mk k i s n p c f).n from by simp only [VT.n]; omega)
      simp only [VT.p_mk] at hp
      subst hp
      obtain ⟨c0, c1, c2, c3⟩ := (hat j hlt).kept (hBt.block bb hbl (HSS.out bb hSb))
      simp only [VT.item_mk] at c0 c1 c2 c3
      have HC : Hid (Calls Try.prog 77 #[.pointer (some ⟨R.rb, 0, none⟩), (f j).val] wr fun e w' => WPost base wr Rj (f j) e w') := by
        have h := ih j base wr Rj (fun b => S b ∧ b < w.heap.size) hRj (Nat.le_trans hbase hBt.size) (((HI.out.sub hlt).mono fun b hb hl => ⟨hb, hl⟩).kept hBt.size (fun b hb hl => hBt.block b hb.2 (HSS.out b hb.1))) (fun b hb hh => ?_) (fun q hq => ?_)
        · rw [hrb] at h; exact h
        · rcases hNx.hot b hh with h2 | h2
          · exact HSS.out b hb.1 h2
          · have := hb.2; omega
        · have h1 := hCn q hq
          have h2 := HCn.out q hq
          have h3 := VT.upto_succ (.mk k i s n (some ⟨bb, o, none⟩) c f) j
          have h4 := VT.upto_mono (.mk k i s n (some ⟨bb, o, none⟩) c f) (show j + 1 ≤ n from hlt)
          rw [VT.total_upto] at h2
          simp only [VT.n_mk, VT.item_mk] at h2 h3 h4
          omega
      have HU : Hid (VT.upto (.mk k i s n (some ⟨bb, o, none⟩) c f) (j + 1) = VT.upto (.mk k i s n (some ⟨bb, o, none⟩) c f) j + (f j).total) := VT.upto_succ _ j
      unfold VT.val at HC
      have HX : Hid (Fill w.heap.size wr Rj u5 j g ∧ (∀ q, q < j → VT.Alike (f q) (g q)) ∧ Rm base wr Rj ∧ Next w R Rj ∧ But R.hot w wr ∧ (∀ q, q < 10 → (Rj.L q).length ≤ (R.L q).length + j + VT.upto (.mk k i s n (some ⟨bb, o, none⟩) c f) j)) := ⟨hF, hal, hRj, hNx, hBt, hCn⟩
      clear hat hF hal hRj hNx hBt hCn ih
      go_wp2_with (go_at_call 77; refine HC.out.mono ?_)
      intro e w2 hP
      obtain ⟨u, R2, rfl, hu⟩ := hP
      obtain ⟨k', i', s', n', p', c', f', rfl⟩ := hu.in_.mk_
      simp only [VT.val, VT.kind_mk, VT.int_mk, VT.text_mk, VT.p_mk, VT.n_mk, VT.c_mk]
      obtain ⟨hF, hal, hRj, hNx, hBt, hCn⟩ := HX.out
      have hF2 := hF.call hu.but hu.next
      have hs2 := hu.but.size
      have hsw := hBt.size
      have hu2 : VT.In w2 (fun b => w.heap.size ≤ b ∧ u5.ownBlock ≠ some b ∧ ¬ R2.hot b) (.mk k' i' s' n' p' c' f') := by
        refine hu.in_.mono fun b hb hl => ⟨by omega, fun e => ?_, hb.2⟩
        have := (hF.row.lt b e).2
        omega
      have HY : Hid (Fill w.heap.size w2 R2 u5 j g ∧ VT.In w2 (fun b => w.heap.size ≤ b ∧ u5.ownBlock ≠ some b ∧ ¬ R2.hot b) (.mk k' i' s' n' p' c' f') ∧ Roomed base wr Rj (f j) (.mk k' i' s' n' p' c' f') w2 R2) := ⟨hF2, hu2, hu⟩
      have hRow := hF2.row
      have hsz2 : w.heap.size ≤ w2.heap.size := by omega
      clear hF hal hRj hNx hBt hCn hF2 hu2 hu c0 c1 c2 c3 HC hs2 hsw
      go_wp2_with (at_builtin; refine wpList_app rfl (.tmp 15) (.tmp 22) 28 30 i0 _ 4 56 Kd rfl w.heap.size u5 j _ rfl (hRow.alloc _) ⟨w2.heap.size, 0, none⟩ 1 1 [.int .i64 k', .int .i64 i', .string s', .slice p' n' c'] rfl rfl (news4 _ _ _ _ _ _) (oneCell_cells (.mk k' i' s' n' p' c' f')) ?_ ?_ ?_ ?_)
      · omega
      · omega
      · simp; omega
      intro v3 w3 ho3 hg3 hn3
      obtain ⟨hF, hal, hRj, hNx, hBt, hCn⟩ := HX.out
      obtain ⟨hF2, hu2, hu⟩ := HY.out
      have ha : Below w2.heap.size w2 (w2.alloc (.cells #[.int .i64 k', .int .i64 i', .string s', .slice p' n' c'] 30)) := (Below.refl _ _).alloc (Nat.le_refl _) _
      have HF3 : Hid (Fill w.heap.size w3 R2 v3 (j + 1) (fun q => if q < j then g q else .mk k' i' s' n' p' c' f')) := (hF2.below ha).push (fun b hb => (hu.rm.below ha).footlt hb) (hu2.below ha) ho3 hg3 hn3
      have HA3 : Hid (∀ q, q < j + 1 → VT.Alike (f q) (if q < j then g q else .mk k' i' s' n' p' c' f')) := by
        intro q hq
        by_cases hqj : q < j
        · rw [if_pos hqj]; exact hal q hqj
        · rw [if_neg hqj]
          obtain rfl : q = j := by omega
          exact hu.alike
      have HR3 : Hid (Rm base w3 R2) := (hF2.below ha).room (hu.rm.below ha) hg3
      have HN3 : Hid (Next w R R2) := hNx.trans hu.next hBt.size
      have HB3 : Hid (But R.hot w w3) := ((hBt.next hNx hu.but).alloc _).grown hg3 fun b hb hl => absurd (hF2.row.lt b hb).1 (by omega)
      have HC3 : Hid (∀ q, q < 10 → (R2.L q).length ≤ (R.L q).length + (j + 1) + VT.upto (.mk k i s n (some ⟨bb, o, none⟩) c f) (j + 1)) := by
        intro q hq
        have h1 := hCn q hq
        have h2 := hu.cnt q hq
        rw [HU.out]; omega
      clear hF hal hRj hNx hBt hCn hF2 hu2 hu ha ho3 hg3 hn3 hRow HX HY
      go_wp2
      go_roundw
      case rel => exact ⟨j + 1, _, R2, by omega, by go_num, HF3.out, HA3.out, HR3.out, HN3.out, HB3.out, HC3.out⟩
      case measure => simp [intOf]; omega
    · obtain rfl : j = n := by omega
      have HA : Hid ((∀ q, q < j → VT.Alike (f q) (g q)) ∧ Next w R Rj ∧ (∀ q, q < 10 → (Rj.L q).length ≤ (R.L q).length + j + VT.upto (.mk k i s j p c f) j)) := ⟨hal, hNx, hCn⟩
      have HRj : Hid (Rm base wr Rj) := hRj
      have hF1 : Fill w.heap.size wr Rj u5 (j + 0) (fun q => if q < j then g q else markV (q - j)) := hF.congr fun q hq => by rw [if_pos hq]
      clear hal hNx hCn ih hF hRj
      go_wp2_with fail
      go_loopw [5, 7] (fun v x wr => ∃ m : Nat, m ≤ 4 ∧ x = .int .i64 m ∧ Fill w.heap.size wr Rj v (j + m) (fun q => if q < j then g q else markV (q - j)) ∧ Rm base wr Rj ∧ But R.hot w wr) (fun _ x _ => 4 - (intOf x).toNat)
      case atStart => exact ⟨0, by omega, rfl, hF1, HRj.out, hBt⟩
      case round =>
        obtain ⟨m, hm, rfl, hFm, hRm, hBm⟩ := hrel
        clear hF1 hBt
        by_cases hlt4 : m < 4
        · have hlt4' : (m : Int) < 4 := by omega
          have HLo := lot_any m (by omega)
          have HMk := fun W => mark_any (lotN m) W
          have HX : Hid (Fill w.heap.size wr Rj u5 (j + m) (fun q => if q < j then g q else markV (q - j)) ∧ Rm base wr Rj ∧ But R.hot w wr) := ⟨hFm, hRm, hBm⟩
          have hlo : -7702 ≤ lotN m ∧ lotN m ≤ -7701 := by unfold lotN; split <;> omega
          obtain ⟨l1, l2⟩ := hlo
          clear hFm hRm hBm
          go_wp2_with (first | (go_at_call 63; refine (HLo _).mono ?_; rintro e w2 ⟨rfl, rfl⟩) | (go_at_call 80; refine (HMk _).mono ?_))
          rintro e w4 ⟨rfl, hb4⟩
          obtain ⟨hFm, hRm, hBm⟩ := HX.out
          have hF4 := hFm.below hb4
          have hR4 := hRm.below hb4
          have hB4 := hBm.trans (But.ofBelow hb4)
          have hsw := hB4.size
          have hRow := hF4.row
          have HY : Hid (Fill w.heap.size w4 Rj u5 (j + m) (fun q => if q < j then g q else markV (q - j)) ∧ Rm base w4 Rj ∧ But R.hot w w4) := ⟨hF4, hR4, hB4⟩
          clear hFm hRm hBm hF4 hR4 hB4 hb4 HX HLo HMk
          go_wp2_with (at_builtin; refine wpList_app rfl (.tmp 28) (.tmp 32) 28 30 i0 _ 4 56 Kd rfl w.heap.size u5 (j + m) _ rfl (hRow.alloc _) ⟨w4.heap.size, 0, none⟩ 1 1 [.int .i64 1, .int .i64 (lotN m), .string ⟨#[]⟩, .slice none 0 0] rfl rfl (news4 _ _ _ _ _ _) (oneCell_cells (markV m)) ?_ ?_ ?_ ?_)
          · omega
          · omega
          · simp; omega
          intro v5 w5 ho5 hg5 hn5
          obtain ⟨hF4, hR4, hB4⟩ := HY.out
          have ha : Below w4.heap.size w4 (w4.alloc (.cells #[.int .i64 1, .int .i64 (lotN m), .string ⟨#[]⟩, .slice none 0 0] 30)) := (Below.refl _ _).alloc (Nat.le_refl _) _
          have HF5 : Hid (Fill w.heap.size w5 Rj v5 (j + (m + 1)) (fun q => if q < j then g q else markV (q - j))) := by
            have h := (hF4.below ha).push (u := markV m) (fun b hb => (hR4.below ha).footlt hb) (markV_in _ _ m) ho5 hg5 hn5
            refine h.congr fun q hq => ?_
            by_cases h1 : q < j + m
            · simp only [if_pos h1]
            · obtain rfl : q = j + m := by omega
              rw [if_neg h1, if_neg (by omega), Nat.add_sub_cancel_left]
          have HR5 : Hid (Rm base w5 Rj) := (hF4.below ha).room (hR4.below ha) hg5
          have HB5 : Hid (But R.hot w w5) := (hB4.alloc _).grown hg5 fun b hb hl => absurd (hF4.row.lt b hb).1 (by omega)
          clear hF4 hR4 hB4 ha ho5 hg5 hn5 hRow HY
          go_wp2
          go_roundw
          case rel => exact ⟨m + 1, by omega, by go_num, HF5.out, HR5.out, HB5.out⟩
          case measure => simp [intOf]; omega
        · obtain rfl : m = 4 := by omega
          obtain ⟨gb, cap, hv, hgB, hgl, hcap⟩ : ∃ gb cap, u5 = .slice (some ⟨gb, 0, none⟩) (j + 4) cap ∧ w.heap.size ≤ gb ∧ gb < wr.heap.size ∧ j + 4 ≤ cap := by
            have hlt := hFm.row.lt
            obtain ⟨_, ⟨hv, h0⟩ | ⟨gb, cap, cur, hv, hbg, hh, hnc, _⟩⟩ := id hFm.row
            · omega
            · exact ⟨gb, cap, hv, hbg, (hlt gb (by rw [hv]; rfl)).2, hnc⟩
          subst hv
          have hrow3 := hRm.row 3 (by omega)
          have hb3 := hRm.box.cell 3
          rw [HA.out.2.1.rb] at hb3
          simp at hb3
          have hl3 : (Rj.L 3).length < 100000 := by
            have h1 := HA.out.2.2 3 (by omega)
            have h2 := HCn.out 3 (by omega)
            rw [VT.total_upto] at h2
            simp only [VT.n_mk] at h2
            omega
          have HX : Hid (Fill w.heap.size wr Rj (.slice (some ⟨gb, 0, none⟩) (j + 4) cap) (j + 4) (fun q => if q < j then g q else markV (q - j)) ∧ Rm base wr Rj ∧ But R.hot w wr) := ⟨hFm, hRm, hBm⟩
          have hbw : base ≤ wr.heap.size := Nat.le_trans hbase hBm.size
          clear hFm hRm hBm
          go_wp2_with (at_builtin; refine wpList_app rfl (.tmp 38) (.tmp 40) 90 28 i1 _ 1 24 Kd1 rfl base (Rj.F 3) (Rj.L 3).length ((Rj.L 3).map Made.val) rfl (hrow3.alloc _) ⟨wr.heap.size, 0, none⟩ 1 1 [.slice (some ⟨gb, 0, none⟩) (j + 4) cap] rfl rfl (cell_one_new _ _ _) ?_ ?_ ?_ ?_ ?_)
          · intro u hu
            simp only [List.mem_singleton] at hu
            subst hu
            rfl
          · omega
          · omega
          · simp; omega
          intro v5 w5 ho5 hg5 hn5
          obtain ⟨hFm, hRm, hBm⟩ := HX.out
          have hmk : Marks wr 3 ⟨gb, j + 4, cap⟩ := by
            refine ⟨⟨by show 4 ≤ j + 4; omega, by show j + 4 ≤ 281474976710656; omega⟩, fun q hq r hr => ?_⟩
            have hq4 : q < 4 := hq
            have hr4 : r < 4 := hr
            have hc := hFm.row.cells (g := gb) rfl ((j + q) * 4 + r)
            have e : ((List.range (j + 4)).flatMap fun q => (if q < j then g q else markV (q - j)).cells)[(j + q) * 4 + r]? = (markV q).cells[r]? := by
              rw [flat_get _ (j + 4) (j + q) r (by omega) hr4, if_neg (by omega), Nat.add_sub_cancel_left]
            have hsome : ∃ u, (markV q).cells[r]? = some u := ⟨(markV q).cells[r]'(by simp [VT.cells]; omega), List.getElem?_eq_getElem _⟩
            obtain ⟨u, hu⟩ := hsome
            have h1 := hc u (by rw [e]; exact hu)
            rw [Go.WideShapes.add_plain] at h1
            show wr.cell? ⟨gb, (j + 4 - 4 + q) * 4 + r, none⟩ = (markV q).cells[r]?
            rw [hu, ← h1]
            congr 2
            omega
          have hsep := hFm.sep gb rfl
          have hput := hRm.put (i := 3) (v := v5) (x := ⟨gb, j + 4, cap⟩) (by omega) hmk hgl (fun h => hsep (.inl h)) ((Below.refl _ _).alloc (Nat.le_refl _) _) ho5 hg5 hn5 hl3
          obtain ⟨q5, e5, hv5⟩ := ownsRow_slice ho5
          obtain ⟨x3, y3, z3⟩ : w5.cell? ⟨R.rb, 3, none⟩ = some (Rj.F 3) ∧ w5.frozen? ⟨R.rb, 3, none⟩ = false ∧ R.rb < w5.heap.size := by
            have h := (hRm.box.below ((Below.refl _ _).alloc (Nat.le_refl _) (.cells #[.slice (some ⟨gb, 0, none⟩) (j + 4) cap] 28)))
            have h2 := h.kept (hg5.block _ h.lt fun e => hRm.off 3 (by omega) e.symm)
            rw [hrb] at h2
            exact ⟨by have := h2.cell 3; simpa using this, h2.frozen 3, h2.lt⟩
          subst hv5
          have HP : Hid (FPost base w R (.mk k i s j p c f) (.returned (.slice (some ⟨gb, 0, none⟩) j (j + 4))) (w5.setCell ⟨R.rb, 3, none⟩ (.slice q5 ((Rj.L 3).length + 1) e5))) := by
            rw [hrb] at hput
            exact few_post HA.out.1 HA.out.2.1 HA.out.2.2 HI.out.fit hgB hgl hcap hFm hBm hput (by omega) (by omega)
          clear hFm hRm hBm hmk hput ho5 hg5 hn5 hrow3 HX
          go_wp2
          go_ret
          exact HP.out
end Go.Proofs.Ytpldokahoamdpaa

namespace Go.Proofs.Ytpldokahoamdpaa
open Go.RowKit
set_option maxRecDepth 8000

theorem Fit.of_row {k i : Int} {s : ByteArray} {n : Nat} {p : Option Addr} {c : Nat} {f : Nat → VT} (h : VT.Fit (.mk k i s n p c f)) : VT.Fit (.mk k i s 0 none 0 f) :=
  ⟨h.k0, h.k1, h.i0, h.i1, h.s1, Nat.le_refl 0, by show 0 ≤ 140737488355328; omega, Nat.zero_le _, fun _ => ⟨rfl, rfl⟩⟩

/-- a value without a list -/
theorem bare_post {base : Nat} {w w' : World} {R : RS} {k i : Int} {s : ByteArray} {p : Option Addr} {c : Nat} {f : Nat → VT} (hR : Rm base w R) (hf : VT.Fit (.mk k i s 0 p c f)) (hb : Below w.heap.size w w') :
    Roomed base w R (.mk k i s 0 p c f) (.mk k i s 0 none 0 f) w' R :=
  ⟨⟨rfl, rfl, rfl, rfl, fun j hj => absurd hj (by omega)⟩, ⟨Fit.of_row hf, fun h => absurd h (by omega), fun j hj => absurd hj (by omega)⟩, hR.below hb, Next.refl _ _, But.ofBelow hb, fun i _ => by omega⟩

theorem roomed_shift {base : Nat} {w W0 w1 w' : World} {R R1 : RS} {t u : VT} (hR : Rm base w R) (hb : Below w.heap.size w W0) (hu : Roomed base W0 R t u w1 R1) (hk : But (fun b => w.heap.size ≤ b ∧ b < W0.heap.size) w1 w') : Roomed base w R t u w' R1 := by
  have hs := hb.size
  refine ⟨hu.alike, ?_, ?_, ⟨hu.next.rb, fun b h => ?_, fun b h => ?_, hu.next.same⟩, ?_, hu.cnt⟩
  · exact (hu.in_.but hk fun b hb2 _ h => by have := hb2.1; omega).mono fun b hb2 _ => ⟨by omega, hb2.2⟩
  · refine hu.rm.keep hk.size fun b hf => hk.block b (hu.rm.footlt hf) fun h => ?_
    rcases hu.next.foot b hf with h1 | h1
    · have := hR.footlt h1; omega
    · omega
  · rcases hu.next.hot b h with h1 | h1
    · exact .inl h1
    · exact .inr (by omega)
  · rcases hu.next.foot b h with h1 | h1
    · exact .inl h1
    · exact .inr (by omega)
  · have h1 : But R.hot w w1 := (But.ofBelow hb).trans hu.but
    exact ⟨hk.os.trans h1.os, hk.tape.trans h1.tape, hk.output.trans h1.output, Nat.le_trans h1.size hk.size, fun b hb2 hx => (hk.block b (Nat.lt_of_lt_of_le hb2 h1.size) (fun h => by omega)).trans (h1.block b hb2 hx)⟩

set_option maxHeartbeats 2000000 in
theorem within_any (t : VT) : WithinC t := by
  induction t with
  | nil => intro base w R S _ _ hin; exact hin.elim
  | mk k i s n p c f ih =>
    intro base w R S hR hbase hin hS hcnt
    simp only [VT.val, VT.kind_mk, VT.int_mk, VT.text_mk, VT.p_mk, VT.n_mk, VT.c_mk]
    by_cases hl : 0 < n ∨ k = 3
    · have HC : Hid (∀ W, Below w.heap.size w W → Calls Try.prog 79 #[.pointer (some ⟨R.rb, 0, none⟩), .slice p n c] W fun e w' => FPost base W R (.mk k i s n p c f) e w') :=
        fun W hW => few_of k i s n p c f ih base W R (fun b => S b ∧ b < w.heap.size) (hR.below hW) (Nat.le_trans hbase hW.size) ((hin.mono fun b hb hl => ⟨hb, hl⟩).below hW) (fun b hb => hS b hb.1) hcnt
      have HR : Hid (Rm base w R) := hR
      clear ih hin hS hcnt hR
      by_cases h1 : 0 < n
      · clear hl
        go_enter Try.func77, Try.ntmps77
        go_wp2_with (go_at_call 79; refine (HC.out _ ?_).mono ?_)
        · exact ((Below.refl _ _).alloc (Nat.le_refl _) _).alloc (by simp) _
        intro e w1 hP
        obtain ⟨u, R1, he, hu⟩ := hP
        obtain ⟨k', i', s', n', p', c', f', hue⟩ := hu.in_.mk_
        subst hue
        obtain ⟨a1, a2, a3, a4, _⟩ := hu.alike
        simp only [VT.kind_mk, VT.int_mk, VT.text_mk, VT.n_mk] at a1 a2 a3 a4
        subst a1 a2 a3 a4
        simp only [VT.row, VT.p_mk, VT.n_mk, VT.c_mk] at he
        subst he
        have hlo : ∀ b, w.heap.size ≤ b → ¬ R.hot b := fun b hb h => by have := HR.out.hotlt h; omega
        have hv1 : Box w1 w.heap.size #[.int .i64 k', .int .i64 i', .string s', .slice p n' c] 30 := ((Box.new w _ 30).below ((Below.refl _ _).alloc (Nat.le_refl _) _)).but hu.but (hlo _ (Nat.le_refl _))
        have hv2 : Box w1 (w.heap.size + 1) #[.int .i64 0, .int .i64 0, .string ⟨#[]⟩, .slice none 0 0] 30 := by
          have h := Box.new (w.alloc (.cells #[.int .i64 k', .int .i64 i', .string s', .slice p n' c] 30)) #[.int .i64 0, .int .i64 0, .string ⟨#[]⟩, .slice none 0 0] 30
          rw [show (w.alloc (.cells #[.int .i64 k', .int .i64 i', .string s', .slice p n' c] 30)).heap.size = w.heap.size + 1 by simp] at h
          exact h.but hu.but (hlo _ (by omega))
        have HU : Hid (Roomed base ((w.alloc (.cells #[.int .i64 k', .int .i64 i', .string s', .slice p n' c] 30)).alloc (.cells #[.int .i64 0, .int .i64 0, .string ⟨#[]⟩, .slice none 0 0] 30)) R _ _ w1 R1) := hu
        have x0 := hv1.cell 0
        have x1 := hv1.cell 1
        have x2 := hv1.cell 2
        have x3 := hv1.cell 3
        have g3 := hv1.frozen 3
        have z1 := hv1.lt
        have d0 := hv2.cell 0
        have d1 := hv2.cell 1
        have d2 := hv2.cell 2
        have d3 := hv2.cell 3
        have e0 := hv2.frozen 0
        have e1 := hv2.frozen 1
        have e2 := hv2.frozen 2
        have e3 := hv2.frozen 3
        have z2 := hv2.lt
        simp at x0 x1 x2 x3 d0 d1 d2 d3
        clear hu hv1 hv2 HC hlo
        go_wp2
        refine bodyPost_ret (v := .agg #[.int .i64 k', .int .i64 i', .string s', .slice p' n' c']) (by simp [results, Try.results77, go_sem, d0, d1, d2, d3]) rfl ⟨_, R1, rfl, roomed_shift HR.out (((Below.refl _ _).alloc (Nat.le_refl _) _).alloc (by simp) _) HU.out ?_⟩
        have hz : ((w.alloc (.cells #[.int .i64 k', .int .i64 i', .string s', .slice p n' c] 30)).alloc (.cells #[.int .i64 0, .int .i64 0, .string ⟨#[]⟩, .slice none 0 0] 30)).heap.size = w.heap.size + 2 := by simp
        rw [hz]
        exact (((((But.refl _ w1).setCell (fun _ => ⟨Nat.le_refl _, by simp⟩) _).setCell (fun _ => ⟨by simp, by simp⟩) _).setCell (fun _ => ⟨by simp, by simp⟩) _).setCell (fun _ => ⟨by simp, by simp⟩) _).setCell (fun _ => ⟨by simp, by simp⟩) _
      · obtain rfl : n = 0 := by omega
        obtain rfl : k = 3 := by omega
        clear hl h1
        go_enter Try.func77, Try.ntmps77
        go_wp2_with (go_at_call 79; refine (HC.out _ ?_).mono ?_)
        · exact ((Below.refl _ _).alloc (Nat.le_refl _) _).alloc (by simp) _
        intro e w1 hP
        obtain ⟨u, R1, he, hu⟩ := hP
        obtain ⟨k', i', s', n', p', c', f', hue⟩ := hu.in_.mk_
        subst hue
        obtain ⟨a1, a2, a3, a4, _⟩ := hu.alike
        simp only [VT.kind_mk, VT.int_mk, VT.text_mk, VT.n_mk] at a1 a2 a3 a4
        subst a1 a2 a3 a4
        simp only [VT.row, VT.p_mk, VT.n_mk, VT.c_mk] at he
        subst he
        have hlo : ∀ b, w.heap.size ≤ b → ¬ R.hot b := fun b hb h => by have := HR.out.hotlt h; omega
        have hv1 : Box w1 w.heap.size #[.int .i64 3, .int .i64 i', .string s', .slice p 0 c] 30 := ((Box.new w _ 30).below ((Below.refl _ _).alloc (Nat.le_refl _) _)).but hu.but (hlo _ (Nat.le_refl _))
        have hv2 : Box w1 (w.heap.size + 1) #[.int .i64 0, .int .i64 0, .string ⟨#[]⟩, .slice none 0 0] 30 := by
          have h := Box.new (w.alloc (.cells #[.int .i64 3, .int .i64 i', .string s', .slice p 0 c] 30)) #[.int .i64 0, .int .i64 0, .string ⟨#[]⟩, .slice none 0 0] 30
          rw [show (w.alloc (.cells #[.int .i64 3, .int .i64 i', .string s', .slice p 0 c] 30)).heap.size = w.heap.size + 1 by simp] at h
          exact h.but hu.but (hlo _ (by omega))
        have HU : Hid (Roomed base ((w.alloc (.cells #[.int .i64 3, .int .i64 i', .string s', .slice p 0 c] 30)).alloc (.cells #[.int .i64 0, .int .i64 0, .string ⟨#[]⟩, .slice none 0 0] 30)) R _ _ w1 R1) := hu
        have x0 := hv1.cell 0
        have x1 := hv1.cell 1
        have x2 := hv1.cell 2
        have x3 := hv1.cell 3
        have g3 := hv1.frozen 3
        have z1 := hv1.lt
        have d0 := hv2.cell 0
        have d1 := hv2.cell 1
        have d2 := hv2.cell 2
        have d3 := hv2.cell 3
        have e0 := hv2.frozen 0
        have e1 := hv2.frozen 1
        have e2 := hv2.frozen 2
        have e3 := hv2.frozen 3
        have z2 := hv2.lt
        simp at x0 x1 x2 x3 d0 d1 d2 d3
        clear hu hv1 hv2 HC hlo
        go_wp2
        refine bodyPost_ret (v := .agg #[.int .i64 3, .int .i64 i', .string s', .slice p' 0 c']) (by simp [results, Try.results77, go_sem, d0, d1, d2, d3]) rfl ⟨_, R1, rfl, roomed_shift HR.out (((Below.refl _ _).alloc (Nat.le_refl _) _).alloc (by simp) _) HU.out ?_⟩
        have hz : ((w.alloc (.cells #[.int .i64 3, .int .i64 i', .string s', .slice p 0 c] 30)).alloc (.cells #[.int .i64 0, .int .i64 0, .string ⟨#[]⟩, .slice none 0 0] 30)).heap.size = w.heap.size + 2 := by simp
        rw [hz]
        exact (((((But.refl _ w1).setCell (fun _ => ⟨Nat.le_refl _, by simp⟩) _).setCell (fun _ => ⟨by simp, by simp⟩) _).setCell (fun _ => ⟨by simp, by simp⟩) _).setCell (fun _ => ⟨by simp, by simp⟩) _).setCell (fun _ => ⟨by simp, by simp⟩) _
    · have hn0 : n = 0 := by omega
      subst hn0
      have hk : ¬ k = 3 := fun h => hl (.inr h)
      have HR : Hid (Rm base w R ∧ VT.Fit (.mk k i s 0 p c f)) := ⟨hR, hin.fit⟩
      clear ih hin hS hcnt hR hl
      go_enter Try.func77, Try.ntmps77
      go_wp2_with fail
      refine bodyPost_ret (v := .agg #[.int .i64 k, .int .i64 i, .string s, .slice none 0 0]) (by simp [results, Try.results77, go_sem]) rfl ⟨.mk k i s 0 none 0 f, R, rfl, bare_post HR.out.1 HR.out.2 ?_⟩
      exact ((Below.refl _ _).alloc (Nat.le_refl _) _).alloc (by simp) _
end Go.Proofs.Ytpldokahoamdpaa
