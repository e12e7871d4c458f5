import Derived.Test.YtkodlhjcoeljiaaRoomI
import Derived.Test.YtkodlhjcoeljiaaCopyS
namespace Go.Proofs.Ytkodlhjcoeljiaa
open Go.RowKit
set_option maxRecDepth 8000



theorem word_any (i : Nat) (_hi : i ≤ 1000000) (w : World) :
    Calls Try.prog 63 #[.int .i64 (i : Int)] w fun e w' => e = .returned (.string (wordN i)) ∧ w' = w := by
  by_cases h : i % 2 = 0
  · have h2 : (i : Int).tmod 2 = 0 := by rw [show (i : Int).tmod 2 = ((i % 2 : Nat) : Int) from rfl, h]; rfl
    rw [wordN, if_pos h]
    go_enter Try.func63, Try.ntmps63
    go_wp2
    go_ret
    exact ⟨rfl, rfl⟩
  · have h2 : (i : Int).tmod 2 = 1 := by rw [show (i : Int).tmod 2 = ((i % 2 : Nat) : Int) from rfl, show i % 2 = 1 by omega]; rfl
    rw [wordN, if_neg h]
    go_enter Try.func63, Try.ntmps63
    go_wp2
    go_ret
    exact ⟨rfl, rfl⟩
/-- the cell that marks a place -/
def markC (i : Nat) : VT := .mk 0 0 (wordN i) 0 none 0 (fun _ => .nil)
theorem markC_in (w : World) (S : Nat → Prop) (i : Nat) : VT.In w S (markC i) := by
  refine ⟨⟨?_, ?_, ?_, ?_, ?_, ?_, ?_, ?_, fun _ => ⟨rfl, rfl⟩⟩, fun h => absurd h (by omega), fun j hj => absurd hj (by omega)⟩
  · show (-9223372036854775808 : Int) ≤ 0; omega
  · show (0 : Int) ≤ 9223372036854775807; omega
  · show (-9223372036854775808 : Int) ≤ 0; omega
  · show (0 : Int) ≤ 9223372036854775807; omega
  · show (wordN i).size ≤ 140737488355328
    unfold wordN; split <;> decide
  · exact Nat.le_refl 0
  · show 0 ≤ 140737488355328; omega
  · exact Nat.zero_le _
theorem kindCs : ∃ i, Kind 31 48 i (.slice none 0 0) 1 24 := by
  obtain ⟨i0, hi, hz0, hz1, hz2⟩ := info_parts (show (Try.prog.info? 48).map (fun i => (i.zero, i.size, i.bytes)) = some (some (.slice none 0 0), 1, 24) by kernel_rfl)
  exact ⟨i0, Try.underlying31, hi, hz0, hz1, hz2, rfl, by decide⟩

/-- a row of cells that is being filled, beside a room -/
structure FillC (B : Nat) (w : World) (R : RS) (v : Value) (n : Nat) (g : Nat → VT) : Prop where
  row : w.ownsRow B 87 2 v n ((List.range n).flatMap fun j => (g j).two)
  each : ∀ j, j < n → VT.In w (fun b => B ≤ b ∧ v.ownBlock ≠ some b ∧ ¬ R.hot b) (g j)
  sep : ∀ b, v.ownBlock = some b → ¬ R.foot b
theorem FillC.call {B : Nat} {w w2 : World} {R R2 : RS} {v : Value} {n : Nat} {g : Nat → VT} (h : FillC B w R v n g) (hb : But R.hot w w2) (hn : Nx w R R2) : FillC B w2 R2 v n g := by
  have hlt := h.row.lt
  refine ⟨ownsRow_keep h.row fun k hk hl => hb.block k hl fun e => h.sep k hk (.inl e), fun j hj => ?_, fun b hb2 hf => ?_⟩
  · have h1 : VT.In w (fun b => (B ≤ b ∧ v.ownBlock ≠ some b ∧ ¬ R2.hot b) ∧ ¬ R.hot b) (g j) := (h.each j hj).mono fun b hb2 hl => ⟨⟨hb2.1, hb2.2.1, fun e => by
      rcases hn.hot b e with h2 | h2
      · exact hb2.2.2 h2
      · omega⟩, hb2.2.2⟩
    exact (h1.but hb fun b hb2 _ => hb2.2).mono fun b hb2 _ => hb2.1
  · rcases hn.foot b hf with h2 | h2
    · exact h.sep b hb2 h2
    · have := (hlt b hb2).2; omega
theorem FillC.push {B : Nat} {w w' : World} {R : RS} {v v' : Value} {n : Nat} {g : Nat → VT} {u : VT} (h : FillC B w R v n g) (hf : ∀ b, R.foot b → b < w.heap.size) (hu : VT.In w (fun b => B ≤ b ∧ v.ownBlock ≠ some b ∧ ¬ R.hot b) u)
    (hown : w'.ownsRow B 87 2 v' (n + 1) (((List.range n).flatMap fun j => (g j).two) ++ u.two)) (hg : w.grownBy w' v.ownBlock) (hn : Near w v v') :
    FillC B w' R v' (n + 1) (fun j => if j < n then g j else u) := by
  have key : ∀ x, VT.In w (fun b => B ≤ b ∧ v.ownBlock ≠ some b ∧ ¬ R.hot b) x → VT.In w' (fun b => B ≤ b ∧ v'.ownBlock ≠ some b ∧ ¬ R.hot b) x := by
    intro x hx
    have h1 : VT.In w (fun b => (B ≤ b ∧ v'.ownBlock ≠ some b ∧ ¬ R.hot b) ∧ v.ownBlock ≠ some b) x := by
      refine hx.mono fun b hb hl => ⟨⟨hb.1, fun e => ?_, hb.2.2⟩, hb.2.1⟩
      rcases hn with h1 | h1
      · exact hb.2.1 (h1 ▸ e)
      · have := h1 b e; omega
    exact (h1.kept hg.size (fun b hb hl => hg.block b hl (fun e => hb.2 e.symm))).mono fun b hb _ => hb.1
  refine ⟨?_, fun j hj => ?_, fun b hb hft => ?_⟩
  · rw [flat_push (f := VT.two)]
    exact hown
  · by_cases hjn : j < n
    · rw [if_pos hjn]; exact key _ (h.each j hjn)
    · rw [if_neg hjn]; exact key _ hu
  · rcases hn with h1 | h1
    · exact h.sep b (h1 ▸ hb) hft
    · have := h1 b hb
      have := hf b hft
      omega
theorem FillC.below {B : Nat} {w w' : World} {R : RS} {v : Value} {n : Nat} {g : Nat → VT} (h : FillC B w R v n g) (hb : Below w.heap.size w w') : FillC B w' R v n g :=
  ⟨ownsRow_keep h.row fun k _ hl => hb.block k hl, fun j hj => (h.each j hj).below hb, h.sep⟩
theorem FillC.room {B base : Nat} {w w' : World} {R : RS} {v : Value} {n : Nat} {g : Nat → VT} (h : FillC B w R v n g) (hr : Rm base w R) (hg : w.grownBy w' v.ownBlock) : Rm base w' R :=
  hr.keep hg.size fun b hb => hg.block b (hr.footlt hb) fun e => h.sep b e.symm hb
theorem FillC.congr {B : Nat} {w : World} {R : RS} {v : Value} {n : Nat} {g g' : Nat → VT} (h : FillC B w R v n g) (e : ∀ j, j < n → g j = g' j) : FillC B w R v n g' := by
  refine ⟨?_, fun j hj => e j hj ▸ h.each j hj, h.sep⟩
  have e2 : ((List.range n).flatMap fun j => (g' j).two) = ((List.range n).flatMap fun j => (g j).two) := by
    rw [List.flatMap_def, List.flatMap_def]
    congr 1
    apply List.map_congr_left
    intro j hj
    rw [e j (List.mem_range.1 hj)]
  rw [e2]; exact h.row
theorem FillC.nil (B : Nat) (w : World) (R : RS) (g : Nat → VT) (hB : B ≤ w.heap.size) (hf : ∀ b, R.foot b → b < w.heap.size) : FillC B (w.alloc (.cells #[] 87)) R (.slice (some ⟨w.heap.size, 0, none⟩) 0 0) 0 g := by
  refine ⟨?_, fun j hj => absurd hj (by omega), fun b hb hft => ?_⟩
  · have h := World.ownsRow_made (base := B) (e := 87) (size := 2) w #[] 0 hB (Nat.zero_le _) (by simp)
    simpa using h
  · have := hf b hft
    simp only [Value.ownBlock, Option.some.injEq] at hb
    omega
theorem FillC.at_ {B : Nat} {w : World} {R : RS} {v : Value} {n : Nat} {g : Nat → VT} (h : FillC B w R v n g) {b c : Nat} (hv : v = .slice (some ⟨b, 0, none⟩) n c) {j : Nat} (hj : j < n) : VT.Cell w b (0 + j * 2) (g j) := by
  have hc := h.row.cells (g := b) (by rw [hv]; rfl)
  have k : ∀ r u, r < 2 → (g j).two[r]? = some u → w.cell? ⟨b, 0 + j * 2 + r, none⟩ = some u := by
    intro r u hr hu
    have := hc (j * 2 + r) u (by rw [flat_two g n j r hj hr]; exact hu)
    rw [Go.WideShapes.add_plain] at this
    rw [show 0 + j * 2 + r = 0 + (j * 2 + r) by omega]
    exact this
  exact ⟨k 0 _ (by omega) rfl, k 1 _ (by omega) rfl⟩

/-- what comes of a state with room -/
structure RoomedS (base : Nat) (w : World) (R : RS) (s u : ST) (w' : World) (R' : RS) : Prop where
  alike : ST.Alike s u
  in_ : ST.In w' (fun b => w.heap.size ≤ b ∧ ¬ R'.hot b) u
  rm : Rm base w' R'
  nx : Nx w R R'
  but : But R.hot w w'
  cnt : ∀ i, i < 10 → (R'.L i).length ≤ (R.L i).length + 1 + s.total
def CPost (base : Nat) (w : World) (R : RS) (s : ST) (e : Ending) (w' : World) : Prop := ∃ u R', e = .returned (.slice u.p u.n u.c) ∧ RoomedS base w R s u w' R'
def SPost (base : Nat) (w : World) (R : RS) (s : ST) (e : Ending) (w' : World) : Prop := ∃ u R', e = .returned u.val ∧ RoomedS base w R s u w' R'

theorem cells_post {base : Nat} {w wr w' : World} {R Rj : RS} {num : Int} {j : Nat} {p : Option Addr} {c : Nat} {f g : Nat → VT} {gb cap z x : Nat} {v5 : Value}
    (hal : ∀ q, q < j → VT.Alike (f q) (g q)) (hNx : Nx w R Rj) (hcn : ∀ q, q < 10 → (Rj.L q).length ≤ (R.L q).length + j + ST.upto ⟨num, p, j, c, f⟩ j) (hu0 : -9223372036854775808 ≤ num) (hu1 : num ≤ 9223372036854775807)
    (hgB : w.heap.size ≤ gb) (hgl : gb < wr.heap.size) (hFm : FillC w.heap.size wr Rj (.slice (some ⟨gb, 0, none⟩) (j + x) cap) (j + x) (fun q => if q < j then g q else markC (q - j))) (hBm : But R.hot w wr)
    (hput : Rm base w' (Rj.put z v5 ⟨gb, j + x, cap⟩) ∧ ((∀ b, (Rj.put z v5 ⟨gb, j + x, cap⟩).hot b → Rj.hot b ∨ wr.heap.size ≤ b) ∧ ∀ b, (Rj.put z v5 ⟨gb, j + x, cap⟩).foot b → Rj.foot b ∨ wr.heap.size ≤ b ∨ b = gb) ∧ But Rj.hot wr w') (hj : j ≤ 10000) (hx : x ≤ 1000) (hz : z = 5) :
    CPost base w R ⟨num, p, j, c, f⟩ (.returned (.slice (some ⟨gb, 0, none⟩) j (j + x))) w' := by
  obtain ⟨hrm, ⟨hhot, hfoot⟩, hbut⟩ := hput
  have hsep := hFm.sep gb rfl
  have hsw := hBm.size
  have hgc : ¬ Rj.hot gb := fun h => hsep (.inl h)
  have hcool : ∀ b, b < wr.heap.size → ¬ Rj.hot b → ¬ (Rj.put z v5 ⟨gb, j + x, cap⟩).hot b := fun b hb hn h => by
    rcases hhot b h with h1 | h1
    · exact hn h1
    · omega
  refine ⟨⟨num, some ⟨gb, 0, none⟩, j, j + x, fun q => if q < j then g q else markC (q - j)⟩, _, rfl, ⟨⟨rfl, rfl, fun q hq => ?_⟩, ⟨fun _ => ⟨gb, 0, rfl, ⟨hgB, hcool gb hgl hgc⟩, Nat.lt_of_lt_of_le hgl hbut.size, fun q hq => ?_⟩, fun q hq => ?_, by show j ≤ j + x; omega, by show j ≤ 140737488355328; omega, by show j + x ≤ maxLen; unfold maxLen; omega, hu0, hu1⟩, hrm, ⟨hNx.rb, fun b hb => ?_, fun b hb => ?_, fun hp => (hNx.plain hp).put (.inr (.inr (.inr hz))) _ _⟩, hBm.nx hNx hbut, fun q hq => ?_⟩⟩
  · simp only at hq ⊢
    rw [if_pos hq]; exact hal q hq
  · exact (hFm.at_ rfl (show q < j + x by simp only at hq; omega)).kept (hbut.block gb hgl hgc)
  · have h := hFm.each q (by simp only at hq; omega)
    have h1 : VT.In wr (fun b => (w.heap.size ≤ b ∧ ¬ (Rj.put z v5 ⟨gb, j + x, cap⟩).hot b) ∧ ¬ Rj.hot b) _ := h.mono fun b hb hl => ⟨⟨hb.1, hcool b hl hb.2.2⟩, hb.2.2⟩
    exact (h1.but hbut fun b hb _ => hb.2).mono fun b hb _ => hb.1
  · rcases hhot b hb with h1 | h1
    · exact hNx.hot b h1
    · exact .inr (by omega)
  · rcases hfoot b hb with h1 | h1 | h1
    · exact hNx.foot b h1
    · exact .inr (by omega)
    · exact .inr (by omega)
  · have h1 := hcn q hq
    unfold ST.total
    simp only
    by_cases hqz : q = z
    · simp only [RS.put, if_pos hqz, List.length_append, List.length_singleton]; omega
    · simp only [RS.put, if_neg hqz]; omega
theorem few_any (t : VT) (base : Nat) (w : World) (R : RS) (S : Nat → Prop) (hR : Rm base w R) (hbase : base ≤ w.heap.size) (hin : VT.In w S t) (hS : ∀ b, S b → ¬ R.hot b) (hcnt : ∀ q, q < 10 → (R.L q).length + 1 + t.total ≤ 100000) :
    Calls Try.prog 70 #[.pointer (some ⟨R.rb, 0, none⟩), .slice t.p t.n t.c] w fun e w' => FPost base w R t e w' := by
  obtain ⟨k, i, s, n, p, c, f, rfl⟩ := hin.mk_
  exact few_of k i s n p c f (fun j => within_any (f j)) base w R S hR hbase hin hS hcnt

theorem cells_push {base : Nat} {w wr w2 w3 : World} {R Rj R2 : RS} {v v3 : Value} {j : Nat} {s : ST} {g : Nat → VT} {u : VT}
    (hF : FillC w.heap.size wr Rj v j g) (hal : ∀ q, q < j → VT.Alike (s.cell q) (g q)) (hNx : Nx w R Rj) (hBt : But R.hot w wr) (hCn : ∀ q, q < 10 → (Rj.L q).length ≤ (R.L q).length + j + s.upto j)
    (hu : Roomed base wr.drew Rj (s.cell j) u w2 R2) (hF2 : FillC w.heap.size w2 R2 v j g)
    (ho3 : w3.ownsRow w.heap.size 87 2 v3 (j + 1) (((List.range j).flatMap fun j => (g j).two) ++ [.string (s.cell j).text, .slice u.p u.n u.c]))
    (hg3 : (w2.alloc (.cells #[.string (s.cell j).text, .slice u.p u.n u.c] 87)).grownBy w3 v.ownBlock) (hn3 : Near (w2.alloc (.cells #[.string (s.cell j).text, .slice u.p u.n u.c] 87)) v v3) :
    FillC w.heap.size w3 R2 v3 (j + 1) (fun q => if q < j then g q else u) ∧ (∀ q, q < j + 1 → VT.Alike (s.cell q) (if q < j then g q else u)) ∧ Rm base w3 R2 ∧ Nx w R R2 ∧ But R.hot w w3 ∧ (∀ q, q < 10 → (R2.L q).length ≤ (R.L q).length + (j + 1) + s.upto (j + 1)) := by
  have ha : Below w2.heap.size w2 (w2.alloc (.cells #[.string (s.cell j).text, .slice u.p u.n u.c] 87)) := (Below.refl _ _).alloc (Nat.le_refl _) _
  have hk2 : But Rj.hot wr w2 := ((But.refl _ wr).drew).trans hu.but
  have hs2 := hk2.size
  have hsw := hBt.size
  have hu3 : VT.In w2 (fun b => wr.heap.size ≤ b ∧ ¬ R2.hot b) u := hu.in_
  have hu2 : VT.In w2 (fun b => w.heap.size ≤ b ∧ v.ownBlock ≠ some b ∧ ¬ R2.hot b) u := by
    refine hu3.mono fun b hb hl => ⟨by omega, fun e => ?_, hb.2⟩
    have := (hF.row.lt b e).2
    omega
  have e2 : u.two = [.string (s.cell j).text, .slice u.p u.n u.c] := by unfold VT.two; rw [hu.alike.text]
  rw [← e2] at ho3
  have hnx : Nx w Rj R2 → Nx w R R2 := fun h => hNx.trans h (Nat.le_refl _)
  refine ⟨(hF2.below ha).push (fun b hb => (hu.rm.below ha).footlt hb) (hu2.below ha) ho3 hg3 hn3, fun q hq => ?_, (hF2.below ha).room (hu.rm.below ha) hg3, hNx.trans hu.next.nx (by exact hsw), ((hBt.nx hNx hk2).alloc _).grown hg3 fun b hb hl => absurd (hF2.row.lt b hb).1 (by omega), fun q hq => ?_⟩
  · by_cases hqj : q < j
    · rw [if_pos hqj]; exact hal q hqj
    · rw [if_neg hqj]
      obtain rfl : q = j := by omega
      exact hu.alike
  · have h1 := hCn q hq
    have h2 := hu.cnt q hq
    rw [ST.upto_succ]; omega

set_option maxHeartbeats 4000000 in
theorem cells_of (num : Int) (p : Option Addr) (n c : Nat) (f : Nat → VT) (base : Nat) (w : World) (R : RS) (S : Nat → Prop) (hR : Rm base w R) (hbase : base ≤ w.heap.size) (hin : ST.In w S ⟨num, p, n, c, f⟩) (hS : ∀ b, S b → ¬ R.hot b) (hcnt : ∀ q, q < 10 → (R.L q).length + 1 + ST.total ⟨num, p, n, c, f⟩ ≤ 100000) (hn1 : n ≤ 10000) :
    Calls Try.prog 50 #[.pointer (some ⟨R.rb, 0, none⟩), .slice p n c] w fun e w' => CPost base w R ⟨num, p, n, c, f⟩ e w' := by
  obtain ⟨i0, Kd⟩ := kindC
  obtain ⟨i1, Kd1⟩ := kindCs
  have HI : Hid (ST.In w S ⟨num, p, n, c, f⟩) := hin
  have HSS : Hid (∀ b, S b → ¬ R.hot b) := hS
  have HCn : Hid (∀ q, q < 10 → (R.L q).length + 1 + ST.total ⟨num, p, n, c, f⟩ ≤ 100000) := hcnt
  have HR : Hid (Rm base w R) := hR
  clear hin hS hcnt hR
  go_enter Try.func50, Try.ntmps50
  go_wp2_with fail
  have hF0 : FillC w.heap.size (w.alloc (.cells #[] 87)) R (.slice (some ⟨w.heap.size, 0, none⟩) 0 0) 0 f := FillC.nil _ _ _ _ (Nat.le_refl _) fun b hb => HR.out.footlt hb
  have hb0 : Below w.heap.size w (w.alloc (.cells #[] 87)) := (Below.refl _ _).alloc (Nat.le_refl _) _
  have hR0 : Rm base (w.alloc (.cells #[] 87)) R := HR.out.below hb0
  go_loopw [5, 6] (fun v x wr => ∃ (j : Nat) (g : Nat → VT) (Rj : RS), j ≤ n ∧ x = .int .i64 j ∧ FillC w.heap.size wr Rj v j g ∧ (∀ q, q < j → VT.Alike (f q) (g q)) ∧ Rm base wr Rj ∧ Nx w R Rj ∧ But R.hot w wr ∧ (∀ q, q < 10 → (Rj.L q).length ≤ (R.L q).length + j + ST.upto ⟨num, p, n, c, f⟩ j)) (fun _ x _ => n - (intOf x).toNat)
  case atStart => exact ⟨0, f, R, Nat.zero_le _, rfl, hF0, fun q hq => absurd hq (by omega), hR0, Nx.refl _ _, But.ofBelow hb0, fun q hq => by omega⟩
  case round =>
    obtain ⟨j, g, Rj, hj, rfl, hF, hal, hRj, hNx, hBt, hCn⟩ := hrel
    clear hF0 hb0 hR0
    have hrb := hNx.rb
    by_cases hlt : j < n
    · have hlt' : (j : Int) < (n : Int) := by omega
      obtain ⟨bb, o, hp, hSb, hbl, hat⟩ := HI.out.at_ (show 0 < n by omega)
      simp only at hp
      subst hp
      obtain ⟨c0, c1⟩ := (hat j hlt).kept (hBt.block bb hbl (HSS.out bb hSb))
      simp only at c0 c1
      have hbl' : bb < wr.heap.size := Nat.lt_of_lt_of_le hbl hBt.size
      have HC : Hid (∀ W, Below wr.heap.size wr W → Calls Try.prog 70 #[.pointer (some ⟨R.rb, 0, none⟩), .slice (f j).p (f j).n (f j).c] W fun e w' => FPost base W Rj (f j) e w') := fun W hW => by
        have h := few_any (f j) base W Rj (fun b => S b ∧ b < w.heap.size) (hRj.below hW) (Nat.le_trans (Nat.le_trans hbase hBt.size) hW.size) ((((HI.out.each j hlt).mono fun b hb hl => ⟨hb, hl⟩).kept hBt.size (fun b hb hl => hBt.block b hb.2 (HSS.out b hb.1))).below hW) (fun b hb hh => ?_) (fun q hq => ?_)
        · rw [hrb] at h; exact h
        · rcases hNx.hot b hh with h2 | h2
          · exact HSS.out b hb.1 h2
          · have := hb.2; omega
        · have h1 := hCn q hq
          have h2 := HCn.out q hq
          have h3 := ST.upto_succ ⟨num, some ⟨bb, o, none⟩, n, c, f⟩ j
          have h4 := ST.upto_mono ⟨num, some ⟨bb, o, none⟩, n, c, f⟩ (show j + 1 ≤ n from hlt)
          unfold ST.total at h2
          simp only at h2 h3 h4
          omega
      have HU : Hid (ST.upto ⟨num, some ⟨bb, o, none⟩, n, c, f⟩ (j + 1) = ST.upto ⟨num, some ⟨bb, o, none⟩, n, c, f⟩ j + (f j).total) := ST.upto_succ _ j
      have HX : Hid (FillC w.heap.size wr Rj u5 j g ∧ (∀ q, q < j → VT.Alike (f q) (g q)) ∧ Rm base wr Rj ∧ Nx w R Rj ∧ But R.hot w wr ∧ (∀ q, q < 10 → (Rj.L q).length ≤ (R.L q).length + j + ST.upto ⟨num, some ⟨bb, o, none⟩, n, c, f⟩ j)) := ⟨hF, hal, hRj, hNx, hBt, hCn⟩
      have hnh : ¬ Rj.hot bb := fun hh => by
        rcases hNx.hot bb hh with h2 | h2
        · exact HSS.out bb hSb h2
        · omega
      have HCe : Hid (VT.Cell wr bb (o + j * 2) (f j)) := ⟨c0, c1⟩
      have hsw := hBt.size
      clear hat hF hal hRj hNx hBt hCn
      go_wp2_with fail
      go_region_law (first
        | (refine step_call rfl 70 #[.tmp 21, .tmp 26] _ rfl Try.f70 Try.func70 (by kernel_rfl) rfl #[.pointer (some ⟨R.rb, 0, none⟩), .slice (f j).p (f j).n (f j).c] rfl _ (HC.out _ ?_) ?_
           · exact (Below.refl _ _).drew
           intro e w2 hP
           obtain ⟨u, R2, he, hu⟩ := hP
           subst he
           refine ⟨_, rfl, ?_⟩
           have hu2 : Roomed base wr.drew Rj (f j) u w2 R2 := hu
           have hk2 : But Rj.hot wr w2 := ((But.refl _ wr).drew).trans hu.but
           have hCe2 := HCe.out.kept (hk2.block bb hbl' hnh)
           have y0 := hCe2.c0
           have y1 := hCe2.c1
           have hs2 := hk2.size
           have hF2 : FillC w.heap.size w2 R2 u5 j g := (HX.out.1.below (Below.refl _ _).drew).call hu.but hu.next.nx
           have hRow := hF2.row
           have hut := hu.alike.text
           simp only [VT.row])
        | (refine step_app rfl (.tmp 15) (.tmp 29) 48 87 i0 _ 2 40 Kd rfl w.heap.size u5 j _ rfl (hRow.alloc _) ⟨w2.heap.size, 0, none⟩ 1 1 [.string (f j).text, .slice u.p u.n u.c] rfl rfl (news2 _ _ _ _) (by rw [← hut]; exact oneCell_two u) (by omega) (by omega) (by simp; omega) ?_
           intro v3 w3 ho3 hg3 hn3))
      all_goals
        obtain ⟨hF, hal, hRj, hNx, hBt, hCn⟩ := HX.out
        have HZ := hid (cells_push (s := ⟨num, some ⟨bb, o, none⟩, n, c, f⟩) hF hal hNx hBt hCn hu2 hF2 ho3 hg3 hn3)
        clear hF hal hRj hNx hBt hCn hu2 hF2 ho3 hg3 hn3 hu hk2 hCe2 y0 y1 hRow hut c0 c1
        go_wp2
        go_roundw
        case rel => exact ⟨j + 1, _, R2, by omega, by go_num, HZ.out.1, HZ.out.2.1, HZ.out.2.2.1, HZ.out.2.2.2.1, HZ.out.2.2.2.2.1, HZ.out.2.2.2.2.2⟩
        case measure => simp [intOf]; omega
    · obtain rfl : j = n := by omega
      have hlt' : ¬ (j : Int) < (j : Int) := by omega
      have HA : Hid ((∀ q, q < j → VT.Alike (f q) (g q)) ∧ Nx w R Rj ∧ (∀ q, q < 10 → (Rj.L q).length ≤ (R.L q).length + j + ST.upto ⟨num, p, j, c, f⟩ j)) := ⟨hal, hNx, hCn⟩
      have HRj : Hid (Rm base wr Rj) := hRj
      have hF1 : FillC w.heap.size wr Rj u5 (j + 0) (fun q => if q < j then g q else markC (q - j)) := hF.congr fun q hq => by rw [if_pos hq]
      clear hal hNx hCn hF hRj
      go_wp2_with fail
      go_loopw [5, 7] (fun v x wr => ∃ m : Nat, m ≤ 40 ∧ x = .int .i64 m ∧ FillC w.heap.size wr Rj v (j + m) (fun q => if q < j then g q else markC (q - j)) ∧ Rm base wr Rj ∧ But R.hot w wr) (fun _ x _ => 40 - (intOf x).toNat)
      case atStart => exact ⟨0, by omega, rfl, hF1, HRj.out, hBt⟩
      case round =>
        obtain ⟨m, hm, rfl, hFm, hRm, hBm⟩ := hrel
        clear hF1 hBt
        by_cases hlt4 : m < 40
        · have hlt4' : (m : Int) < 40 := by omega
          have HWo := word_any m (by omega)
          have HX : Hid (FillC w.heap.size wr Rj u5 (j + m) (fun q => if q < j then g q else markC (q - j)) ∧ Rm base wr Rj ∧ But R.hot w wr) := ⟨hFm, hRm, hBm⟩
          have hRow := hFm.row
          have hsw := hBm.size
          clear hFm hRm hBm
          go_wp2_with (go_at_call 63; refine (HWo _).mono ?_)
          rintro e w2 ⟨rfl, hw2⟩
          subst w2
          go_wp2_with (at_builtin; refine wpList_app rfl (.tmp 35) (.tmp 39) 48 87 i0 _ 2 40 Kd rfl w.heap.size u5 (j + m) _ rfl (hRow.alloc _) ⟨wr.heap.size, 0, none⟩ 1 1 [.string (wordN m), .slice none 0 0] rfl rfl (news2 _ _ _ _) (oneCell_two (markC m)) ?_ ?_ ?_ ?_)
          · omega
          · omega
          · simp; omega
          intro v5 w5 ho5 hg5 hn5
          obtain ⟨hF4, hR4, hB4⟩ := HX.out
          have ha : Below wr.heap.size wr (wr.alloc (.cells #[.string (wordN m), .slice none 0 0] 87)) := (Below.refl _ _).alloc (Nat.le_refl _) _
          have HF5 : Hid (FillC w.heap.size w5 Rj v5 (j + (m + 1)) (fun q => if q < j then g q else markC (q - j))) := by
            have h := (hF4.below ha).push (u := markC m) (fun b hb => (hR4.below ha).footlt hb) (markC_in _ _ m) ho5 hg5 hn5
            refine h.congr fun q hq => ?_
            by_cases h1 : q < j + m
            · simp only [if_pos h1]
            · obtain rfl : q = j + m := by omega
              rw [if_neg h1, if_neg (by omega), Nat.add_sub_cancel_left]
          have HR5 : Hid (Rm base w5 Rj) := (hF4.below ha).room (hR4.below ha) hg5
          have HB5 : Hid (But R.hot w w5) := (hB4.alloc _).grown hg5 fun b hb hl => absurd (hF4.row.lt b hb).1 (by omega)
          clear hF4 hR4 hB4 ha ho5 hg5 hn5 hRow HX
          go_wp2
          go_roundw
          case rel => exact ⟨m + 1, by omega, by go_num, HF5.out, HR5.out, HB5.out⟩
          case measure => simp [intOf]; omega
        · obtain rfl : m = 40 := by omega
          obtain ⟨gb, cap, hv, hgB, hgl, hcap⟩ : ∃ gb cap, u5 = .slice (some ⟨gb, 0, none⟩) (j + 40) cap ∧ w.heap.size ≤ gb ∧ gb < wr.heap.size ∧ j + 40 ≤ cap := by
            have hlt := hFm.row.lt
            obtain ⟨_, ⟨hv, h0⟩ | ⟨gb, cap, cur, hv, hbg, hh, hnc, _⟩⟩ := id hFm.row
            · omega
            · exact ⟨gb, cap, hv, hbg, (hlt gb (by rw [hv]; rfl)).2, hnc⟩
          subst hv
          have hrow3 := hRm.row 5 (by omega)
          have hb3 := hRm.box.cell 5
          rw [HA.out.2.1.rb] at hb3
          simp at hb3
          have hl3 : (Rj.L 5).length < 100000 := by
            have h1 := HA.out.2.2 5 (by omega)
            have h2 := HCn.out 5 (by omega)
            unfold ST.total at h2
            simp only at h2
            omega
          have HX : Hid (FillC w.heap.size wr Rj (.slice (some ⟨gb, 0, none⟩) (j + 40) cap) (j + 40) (fun q => if q < j then g q else markC (q - j)) ∧ Rm base wr Rj ∧ But R.hot w wr) := ⟨hFm, hRm, hBm⟩
          have hbw : base ≤ wr.heap.size := Nat.le_trans hbase hBm.size
          clear hFm hRm hBm
          go_wp2_with (at_builtin; refine wpList_app rfl (.tmp 45) (.tmp 47) 31 48 i1 _ 1 24 Kd1 rfl base (Rj.F 5) (Rj.L 5).length ((Rj.L 5).map Made.val) rfl (hrow3.alloc _) ⟨wr.heap.size, 0, none⟩ 1 1 [.slice (some ⟨gb, 0, none⟩) (j + 40) cap] rfl rfl (cell_one_new _ _ _) ?_ ?_ ?_ ?_ ?_)
          · intro u hu
            simp only [List.mem_singleton] at hu
            subst hu
            rfl
          · omega
          · omega
          · simp; omega
          intro v5 w5 ho5 hg5 hn5
          obtain ⟨hFm, hRm, hBm⟩ := HX.out
          have hmk : Marks wr 5 ⟨gb, j + 40, cap⟩ := by
            refine ⟨⟨by show 40 ≤ j + 40; omega, by show j + 40 ≤ 281474976710656; omega⟩, fun q hq r hr => ?_⟩
            have hq4 : q < 40 := hq
            have hr4 : r < 2 := hr
            have hc := hFm.row.cells (g := gb) rfl ((j + q) * 2 + r)
            have e : ((List.range (j + 40)).flatMap fun q => (if q < j then g q else markC (q - j)).two)[(j + q) * 2 + r]? = (markC q).two[r]? := by
              rw [flat_two _ (j + 40) (j + q) r (by omega) hr4, if_neg (by omega), Nat.add_sub_cancel_left]
            have hsome : ∃ u, (markC q).two[r]? = some u := ⟨(markC q).two[r]'(by simp [VT.two]; omega), List.getElem?_eq_getElem _⟩
            obtain ⟨u, hu⟩ := hsome
            have h1 := hc u (by rw [e]; exact hu)
            rw [Go.WideShapes.add_plain] at h1
            show wr.cell? ⟨gb, (j + 40 - 40 + q) * 2 + r, none⟩ = (markC q).two[r]?
            rw [hu, ← h1]
            congr 2
            omega
          have hsep := hFm.sep gb rfl
          have hput := hRm.put (i := 5) (v := v5) (x := ⟨gb, j + 40, cap⟩) (by omega) hmk hgl (fun h => hsep (.inl h)) ((Below.refl _ _).alloc (Nat.le_refl _) _) ho5 hg5 hn5 hl3
          obtain ⟨q5, e5, hv5⟩ := ownsRow_slice ho5
          obtain ⟨x3, y3, z3⟩ : w5.cell? ⟨R.rb, 5, none⟩ = some (Rj.F 5) ∧ w5.frozen? ⟨R.rb, 5, none⟩ = false ∧ R.rb < w5.heap.size := by
            have h := (hRm.box.below ((Below.refl _ _).alloc (Nat.le_refl _) (.cells #[.slice (some ⟨gb, 0, none⟩) (j + 40) cap] 48)))
            have h2 := h.kept (hg5.block _ h.lt fun e => hRm.off 5 (by omega) e.symm)
            rw [hrb] at h2
            exact ⟨by have := h2.cell 5; simpa using this, h2.frozen 5, h2.lt⟩
          subst hv5
          have HP : Hid (CPost base w R ⟨num, p, j, c, f⟩ (.returned (.slice (some ⟨gb, 0, none⟩) j (j + 40))) (w5.setCell ⟨R.rb, 5, none⟩ (.slice q5 ((Rj.L 5).length + 1) e5))) := by
            rw [hrb] at hput
            exact cells_post HA.out.1 HA.out.2.1 HA.out.2.2 HI.out.u0 HI.out.u1 hgB hgl hFm hBm hput (by omega) (by omega) rfl
          clear hFm hRm hBm hmk hput ho5 hg5 hn5 hrow3 HX
          go_wp2
          go_ret
          exact HP.out
end Go.Proofs.Ytkodlhjcoeljiaa
