import Derived.Test.YtpldokahoamdpaaPack38
import Derived.Test.YtpldokahoamdpaaPack32
import Derived.Test.YtpldokahoamdpaaPack9
import Derived.Test.YtpldokahoamdpaaPack3
import Derived.Test.YtpldokahoamdpaaPack12
import Derived.Deep.DeepCutAuto
namespace Go.Proofs.Ytpldokahoamdpaa
open Go.RowKit
set_option maxRecDepth 8000

/-- how rooms follow one another -/
structure Nx (w : World) (R R' : RS) : Prop where
  rb : R'.rb = R.rb
  hot : ∀ b, R'.hot b → R.hot b ∨ w.heap.size ≤ b
  foot : ∀ b, R'.foot b → R.foot b ∨ w.heap.size ≤ b
  plain : R.plainI → R'.plainI
theorem Nx.refl (w : World) (R : RS) : Nx w R R := ⟨rfl, fun _ h => .inl h, fun _ h => .inl h, id⟩
theorem Nx.trans {w w' : World} {R S T : RS} (h : Nx w R S) (k : Nx w' S T) (hs : w.heap.size ≤ w'.heap.size) : Nx w R T := by
  refine ⟨k.rb.trans h.rb, fun b hb => ?_, fun b hb => ?_, fun hp => k.plain (h.plain hp)⟩
  · rcases k.hot b hb with h1 | h1
    · exact h.hot b h1
    · exact .inr (Nat.le_trans hs h1)
  · rcases k.foot b hb with h1 | h1
    · exact h.foot b h1
    · exact .inr (Nat.le_trans hs h1)
theorem Next.nx {w : World} {R R' : RS} (h : Next w R R') : Nx w R R' := ⟨h.rb, h.hot, h.foot, fun hp i hi h2 h3 h4 h8 => ((h.same i h2 h3).1).trans (hp i hi h2 h3 h4 h8)⟩
theorem But.nx {w w1 w2 : World} {R R1 : RS} (h : But R.hot w w1) (hn : Nx w R R1) (k : But R1.hot w1 w2) : But R.hot w w2 :=
  ⟨k.os.trans h.os, k.tape.trans h.tape, k.output.trans h.output, Nat.le_trans h.size k.size, fun b hb hx => (k.block b (Nat.lt_of_lt_of_le hb h.size) fun e => by
    rcases hn.hot b e with h2 | h2
    · exact hx h2
    · omega).trans (h.block b hb hx)⟩
theorem RS.plainI.put {R : RS} (h : R.plainI) {z : Nat} (hz : z = 2 ∨ z = 3 ∨ z = 4 ∨ z = 8) (v : Value) (x : Made) : (R.put z v x).plainI := by
  intro i hi h2 h3 h4 h8
  have hne : ¬ i = z := by omega
  simp only [RS.put, if_neg hne]
  exact h i hi h2 h3 h4 h8
theorem kindIs : ∃ i, Kind 88 31 i (.slice none 0 0) 1 24 := by
  obtain ⟨i0, hi, hz0, hz1, hz2⟩ := info_parts (show (Try.prog.info? 31).map (fun i => (i.zero, i.size, i.bytes)) = some (some (.slice none 0 0), 1, 24) by kernel_rfl)
  exact ⟨i0, Try.underlying88, hi, hz0, hz1, hz2, rfl, by decide⟩
/-- a row of ints that is being filled, beside a room -/
structure FillI (B : Nat) (w : World) (R : RS) (v : Value) (n : Nat) (g : Nat → Int) : Prop where
  row : w.ownsRow B 3 1 v n ((List.range n).map fun j => .int .i64 (g j))
  sep : ∀ b, v.ownBlock = some b → ¬ R.foot b
theorem FillI.below {B : Nat} {w w' : World} {R : RS} {v : Value} {n : Nat} {g : Nat → Int} (h : FillI B w R v n g) (hb : Below w.heap.size w w') : FillI B w' R v n g :=
  ⟨ownsRow_keep h.row fun k _ hl => hb.block k hl, h.sep⟩
theorem FillI.room {B base : Nat} {w w' : World} {R : RS} {v : Value} {n : Nat} {g : Nat → Int} (h : FillI B w R v n g) (hr : Rm base w R) (hg : w.grownBy w' v.ownBlock) : Rm base w' R :=
  hr.keep hg.size fun b hb => hg.block b (hr.footlt hb) fun e => h.sep b e.symm hb
theorem FillI.next {B base : Nat} {w w' : World} {R : RS} {v v' : Value} {n m : Nat} {g g' : Nat → Int} (h : FillI B w R v n g) (hr : Rm base w R) (hn : Near w v v') (hown : w'.ownsRow B 3 1 v' m ((List.range m).map fun j => .int .i64 (g' j))) : FillI B w' R v' m g' := by
  refine ⟨hown, fun b hb hf => ?_⟩
  rcases hn with h1 | h1
  · exact h.sep b (h1 ▸ hb) hf
  · have := h1 b hb
    have := hr.footlt hf
    omega
theorem map_push (g : Nat → Int) (n : Nat) : ((List.range (n + 1)).map fun j => Value.int .i64 (g j)) = ((List.range n).map fun j => Value.int .i64 (g j)) ++ [.int .i64 (g n)] := by
  rw [List.range_succ, List.map_append]; rfl
theorem map_same {g g' : Nat → Int} {n : Nat} (h : ∀ j, j < n → g j = g' j) : ((List.range n).map fun j => Value.int .i64 (g j)) = ((List.range n).map fun j => Value.int .i64 (g' j)) := by
  apply List.map_congr_left
  intro j hj
  rw [h j (List.mem_range.1 hj)]
/-- ints and marks behind them -/
def withLots (n : Nat) (f : Nat → Int) (q : Nat) : Int := if q < n then f q else lotN (q - n)
/-- what comes of a list of ints with room -/
structure RoomedI (base : Nat) (w : World) (R : RS) (n : Nat) (f : Nat → Int) (p : Option Addr) (c : Nat) (w' : World) (R' : RS) : Prop where
  ints : Ints w' (fun b => w.heap.size ≤ b ∧ ¬ R'.hot b) p n c f
  rm : Rm base w' R'
  nx : Nx w R R'
  but : But R.hot w w'
  cnt : ∀ i, i < 10 → (R'.L i).length ≤ (R.L i).length + 1
def IPost (base : Nat) (w : World) (R : RS) (n : Nat) (f : Nat → Int) (e : Ending) (w' : World) : Prop := ∃ p c R', e = .returned (.slice p n c) ∧ RoomedI base w R n f p c w' R'

theorem ints_post {base : Nat} {w wr w' : World} {R : RS} {n : Nat} {f : Nat → Int} {gb cap x z : Nat} {v5 : Value} (hgB : w.heap.size ≤ gb) (hgl : gb < wr.heap.size) (hF : FillI w.heap.size wr R (.slice (some ⟨gb, 0, none⟩) (n + x) cap) (n + x) (withLots n f)) (hBm : But R.hot w wr) (hfit : ∀ j, j < n → -9223372036854775808 ≤ f j ∧ f j ≤ 9223372036854775807)
    (hput : Rm base w' (R.put z v5 ⟨gb, n + x, cap⟩) ∧ ((∀ b, (R.put z v5 ⟨gb, n + x, cap⟩).hot b → R.hot b ∨ wr.heap.size ≤ b) ∧ ∀ b, (R.put z v5 ⟨gb, n + x, cap⟩).foot b → R.foot b ∨ wr.heap.size ≤ b ∨ b = gb) ∧ But R.hot wr w') (hn : n ≤ 10000) (hx : x ≤ 1000) (hz : z = 4) :
    IPost base w R n f (.returned (.slice (some ⟨gb, 0, none⟩) n (n + x))) w' := by
  obtain ⟨hrm, ⟨hhot, hfoot⟩, hbut⟩ := hput
  have hsep := hF.sep gb rfl
  have hsw := hBm.size
  refine ⟨_, _, _, rfl, ⟨⟨fun _ => ⟨gb, 0, rfl, ⟨hgB, fun h => ?_⟩, Nat.lt_of_lt_of_le hgl hbut.size, fun j hj => ?_⟩, by omega, by omega, by unfold maxLen; omega, hfit, fun h => by cases h⟩, hrm, ⟨rfl, fun b hb => ?_, fun b hb => ?_, fun hp => hp.put (.inr (.inr (.inl hz))) _ _⟩, ?_, fun q _ => ?_⟩⟩
  · rcases hhot gb h with h1 | h1
    · exact hsep (.inl h1)
    · omega
  · have h := hF.row.cells (g := gb) rfl j (.int .i64 (withLots n f j)) (by simp [List.getElem?_range (show j < n + x by omega)])
    rw [Go.WideShapes.add_plain] at h
    rw [withLots, if_pos hj] at h
    exact (World.cell?_of_block (a := ⟨gb, 0 + j, none⟩) (hbut.block gb hgl fun e => hsep (.inl e))).trans h
  · rcases hhot b hb with h1 | h1
    · exact .inl h1
    · exact .inr (by omega)
  · rcases hfoot b hb with h1 | h1 | h1
    · exact .inl h1
    · exact .inr (by omega)
    · exact .inr (by omega)
  · exact hBm.trans hbut
  · by_cases hqz : q = z
    · simp only [RS.put, if_pos hqz, List.length_append, List.length_singleton]; omega
    · simp only [RS.put, if_neg hqz]; omega

theorem But.shift {w W0 w1 w' : World} {X : Nat → Prop} (hb : Below w.heap.size w W0) (h : But X W0 w1) (hk : But (fun b => w.heap.size ≤ b ∧ b < W0.heap.size) w1 w') : But X w w' := by
  have h1 : But X w w1 := (But.ofBelow hb).trans h
  exact ⟨hk.os.trans h1.os, hk.tape.trans h1.tape, hk.output.trans h1.output, Nat.le_trans h1.size hk.size, fun b hb2 hx => (hk.block b (Nat.lt_of_lt_of_le hb2 h1.size) (fun h => by omega)).trans (h1.block b hb2 hx)⟩
theorem Nx.shift {w W0 : World} {R R1 : RS} (hs : w.heap.size ≤ W0.heap.size) (h : Nx W0 R R1) : Nx w R R1 := by
  refine ⟨h.rb, fun b hb => ?_, fun b hb => ?_, h.plain⟩
  · rcases h.hot b hb with h1 | h1
    · exact .inl h1
    · exact .inr (by omega)
  · rcases h.foot b hb with h1 | h1
    · exact .inl h1
    · exact .inr (by omega)
theorem Rm.shift {base : Nat} {w W0 w1 w' : World} {R R1 : RS} (hR : Rm base w R) (_hs : w.heap.size ≤ W0.heap.size) (hrm : Rm base w1 R1) (hn : Nx W0 R R1) (hk : But (fun b => w.heap.size ≤ b ∧ b < W0.heap.size) w1 w') : Rm base w' R1 := by
  refine hrm.keep hk.size fun b hf => hk.block b (hrm.footlt hf) fun h => ?_
  rcases hn.foot b hf with h1 | h1
  · have := hR.footlt h1; omega
  · omega
/-- what comes of a record with room -/
structure RoomedR (base : Nat) (w : World) (R : RS) (r u : RT) (w' : World) (R' : RS) : Prop where
  alike : RT.Alike r u
  in_ : RT.In w' (fun b => w.heap.size ≤ b ∧ ¬ R'.hot b) u
  rm : Rm base w' R'
  nx : Nx w R R'
  but : But R.hot w w'
  cnt : ∀ i, i < 10 → (R'.L i).length ≤ (R.L i).length + 2 + r.v.total
def RPost (base : Nat) (w : World) (R : RS) (r : RT) (e : Ending) (w' : World) : Prop := ∃ u R', e = .returned u.val ∧ RoomedR base w R r u w' R'
theorem roomedA_join {base : Nat} {w W0 w1 W1 w2 w' : World} {R R1 R2 : RS} {r : RT} {u : VT} {p : Option Addr} {c : Nat} (hR : Rm base w R) (hb : Below w.heap.size w W0) (hk0 : r.key.size ≤ 140737488355328) (hi : RoomedI base W0 R r.n r.loop p c w1 R1) (hb1 : Below w1.heap.size w1 W1) (hu : Roomed base W1 R1 r.v u w2 R2) (hk : But (fun b => w.heap.size ≤ b ∧ b < W0.heap.size) w2 w') :
    RoomedR base w R r ⟨r.key, u, p, r.n, c, r.loop⟩ w' R2 := by
  have hs := hb.size
  have hs1 := hi.but.size
  have hs2 := hb1.size
  have hnx1 : Nx w1 R1 R2 := hu.next.nx.shift hs2
  have hnx : Nx W0 R R2 := hi.nx.trans hnx1 hs1
  have hbu : But R1.hot w1 w2 := (But.ofBelow hb1).trans hu.but
  refine ⟨⟨rfl, hu.alike, rfl, fun _ _ => rfl⟩, ⟨?_, ?_, hk0⟩, hR.shift hs hu.rm hnx hk, hnx.shift hs, But.shift hb (hi.but.nx hi.nx hbu) hk, fun q hq => ?_⟩
  · exact (hu.in_.but hk fun b hb2 _ h => by have := hb2.1; omega).mono fun b hb2 _ => ⟨by have := hb2.1; omega, hb2.2⟩
  · have h1 : Ints w1 (fun b => (W0.heap.size ≤ b ∧ ¬ R2.hot b) ∧ ¬ R1.hot b) p r.n c r.loop := hi.ints.mono fun b hb2 hl => ⟨⟨hb2.1, fun h => by
      rcases hnx1.hot b h with h2 | h2
      · exact hb2.2 h2
      · omega⟩, hb2.2⟩
    have h2 := (h1.kept hbu.size fun b hb2 hl => hbu.block b hl hb2.2).mono fun b hb2 _ => hb2.1
    exact (h2.kept hk.size fun b hb2 hl => hk.block b hl fun h => by have := hb2.1; omega).mono fun b hb2 _ => ⟨by have := hb2.1; omega, hb2.2⟩
  · have h1 := hu.cnt q hq
    have h2 := hi.cnt q hq
    omega
end Go.Proofs.Ytpldokahoamdpaa

namespace Go.Proofs.Ytpldokahoamdpaa
open Go.RowKit
set_option maxRecDepth 8000
set_option maxRecDepth 60000 in
set_option maxHeartbeats 4000000 in
/-- among -/
theorem among_any (r : RT) (base : Nat) (w : World) (R : RS) (S : Nat → Prop) (hR : Rm base w R) (hbase : base ≤ w.heap.size) (hin : RT.In w S r) (hS : ∀ b, S b → ¬ R.hot b) (hcnt : ∀ i, i < 10 → (R.L i).length + 2 + r.v.total ≤ 100000) (hn : r.n ≤ 10000) :
    Calls Try.prog 62 #[.pointer (some ⟨R.rb, 0, none⟩), r.val] w fun e w' => RPost base w R r e w' := by
  obtain ⟨i0, Kd⟩ := kindIc
  obtain ⟨i1, Kd1⟩ := kindIs
  have HKd := hid Kd
  have HKd1 := hid Kd1
  have HIn := hid hin
  have HSS := hid hS
  have HCn := hid hcnt
  have HR : Hid (Rm base w R) := hR
  have hlo : Hid (∀ b, w.heap.size ≤ b → ¬ R.hot b) := fun b hb h => by have := HR.out.hotlt h; omega
  unfold RT.val
  clear hin hS hcnt hR Kd Kd1
  go_enter Try.func62, Try.ntmps62
  have hB0 := (Box.new w #[.string r.key, .int .i64 r.v.kind, .int .i64 r.v.int, .string r.v.text, .slice r.v.p r.v.n r.v.c, .slice r.p r.n r.c] 33).below ((Below.refl _ _).alloc (Nat.le_refl _) (.cells #[.string ⟨#[]⟩, .int .i64 0, .int .i64 0, .string ⟨#[]⟩, .slice none 0 0, .slice none 0 0] 33))
  have hB1 := Box.new (w.alloc (.cells #[.string r.key, .int .i64 r.v.kind, .int .i64 r.v.int, .string r.v.text, .slice r.v.p r.v.n r.v.c, .slice r.p r.n r.c] 33)) #[.string ⟨#[]⟩, .int .i64 0, .int .i64 0, .string ⟨#[]⟩, .slice none 0 0, .slice none 0 0] 33
  rw [show (w.alloc (.cells #[.string r.key, .int .i64 r.v.kind, .int .i64 r.v.int, .string r.v.text, .slice r.v.p r.v.n r.v.c, .slice r.p r.n r.c] 33)).heap.size = w.heap.size + 1 by simp] at hB1
  obtain ⟨W0, hW0⟩ : ∃ W0, W0 = (w.alloc (.cells #[.string r.key, .int .i64 r.v.kind, .int .i64 r.v.int, .string r.v.text, .slice r.v.p r.v.n r.v.c, .slice r.p r.n r.c] 33)).alloc (.cells #[.string ⟨#[]⟩, .int .i64 0, .int .i64 0, .string ⟨#[]⟩, .slice none 0 0, .slice none 0 0] 33) := ⟨_, rfl⟩
  rw [← hW0] at hB0 hB1
  have HX0 : Hid (Box W0 w.heap.size #[.string r.key, .int .i64 r.v.kind, .int .i64 r.v.int, .string r.v.text, .slice r.v.p r.v.n r.v.c, .slice r.p r.n r.c] 33) := hB0
  have HZ0 : Hid (Box W0 (w.heap.size + 1) #[.string ⟨#[]⟩, .int .i64 0, .int .i64 0, .string ⟨#[]⟩, .slice none 0 0, .slice none 0 0] 33) := hB1
  have HW : Hid (Below w.heap.size w W0) := by rw [hW0]; exact ((Below.refl _ _).alloc (Nat.le_refl _) _).alloc (by simp) _
  have hz : W0.heap.size = w.heap.size + 2 := by rw [hW0]; simp
  have HRw : Hid (Rm base W0 R) := HR.out.below HW.out
  have HF0 : Hid (FillI W0.heap.size (W0.alloc (.cells #[] 3)) R (.slice (some ⟨W0.heap.size, 0, none⟩) 0 0) 0 r.loop) := by
    refine ⟨?_, fun b hb hf => ?_⟩
    · have h := World.ownsRow_made (base := W0.heap.size) (e := 3) (size := 1) W0 #[] 0 (Nat.le_refl _) (Nat.zero_le _) (by simp)
      simpa using h
    · simp only [Value.ownBlock, Option.some.injEq] at hb
      have := HRw.out.footlt hf
      omega
  have HW0 := hid hW0
  have HSz := hid hz
  clear hB0 hB1 hW0 hz
  go_upto_region 1 with fail
  rw [← HW0.out]
  go_upto_region 2 with fail
  have hbA : Below W0.heap.size W0 (W0.alloc (.cells #[] 3)) := (Below.refl _ _).alloc (Nat.le_refl _) _
  have hxA := HX0.out.below hbA
  have x5 := hxA.cell 5
  simp at x5
  have hl0 := hxA.lt
  have hrow := HF0.out.row
  have HbA := hid hbA
  clear hxA hbA
  go_wp2_with (at_builtin; refine wpList_appS rfl (.tmp 8) (.tmp 10) 31 3 i0 _ 1 8 HKd.out rfl W0.heap.size (.slice (some ⟨W0.heap.size, 0, none⟩) 0 0) 0 _ rfl hrow r.p r.n r.c ((List.range r.n).map fun j => .int .i64 (r.loop j)) rfl ?_ (oneCell_ints _ _) ?_ ?_ ?_ ?_)
  · exact ((HIn.out.l.kept HW.out.size fun b _ hb => HW.out.block b hb).kept HbA.out.size fun b _ hb => HbA.out.block b hb).src
  · omega
  · omega
  · simp
  intro v1 w1 ho1 hg1 hn1
  have hR0 : Rm base (W0.alloc (.cells #[] 3)) R := HRw.out.below HbA.out
  have hF1 : FillI W0.heap.size w1 R v1 (r.n + 0) (withLots r.n r.loop) := by
    refine HF0.out.next hR0 hn1 ?_
    have e : ((List.range (r.n + 0)).map fun j => Value.int .i64 (withLots r.n r.loop j)) = ((List.range r.n).map fun j => Value.int .i64 (r.loop j)) := map_same fun j hj => by rw [withLots, if_pos (show j < r.n from hj)]
    rw [e]
    simpa using ho1
  have hR1 : Rm base w1 R := HF0.out.room hR0 hg1
  have hB1 : But R.hot W0 w1 := (But.ofBelow HbA.out).grown hg1 fun b hb hl => by simp only [Value.ownBlock, Option.some.injEq] at hb; omega
  clear hrow ho1 hg1 hn1 hR0 x5 HF0 HbA
  go_wp2_with fail
  go_loopw [5, 6] (fun v x wr => ∃ m : Nat, m ≤ 4 ∧ x = .int .i64 m ∧ FillI W0.heap.size wr R v (r.n + m) (withLots r.n r.loop) ∧ Rm base wr R ∧ But R.hot W0 wr) (fun _ x _ => 4 - (intOf x).toNat)
  case atStart => exact ⟨0, by omega, rfl, hF1, hR1, hB1⟩
  case round =>
    obtain ⟨m, hm, rfl, hFm, hRm, hBm⟩ := hrel
    clear hF1 hR1 hB1
    by_cases hlt4 : m < 4
    · have hlt4' : (m : Int) < 4 := by omega
      have HLo := lot_any m (by omega)
      have HX : Hid (FillI W0.heap.size wr R u5 (r.n + m) (withLots r.n r.loop) ∧ Rm base wr R ∧ But R.hot W0 wr) := ⟨hFm, hRm, hBm⟩
      have hlo2 : -7702 ≤ lotN m ∧ lotN m ≤ -7701 := by unfold lotN; split <;> omega
      obtain ⟨l1, l2⟩ := hlo2
      have hRow := hFm.row
      have hsw := hBm.size
      clear hFm hRm hBm
      go_wp2_with (go_at_call 63; refine (HLo _).mono ?_)
      rintro e w2 ⟨rfl, hw2⟩
      subst w2
      go_wp2_with (at_builtin; refine wpList_app rfl (.tmp 16) (.tmp 19) 31 3 i0 _ 1 8 HKd.out rfl W0.heap.size u5 (r.n + m) _ rfl (hRow.alloc _) ⟨wr.heap.size, 0, none⟩ 1 1 [.int .i64 (lotN m)] rfl rfl (cell_one_new _ _ _) ?_ ?_ ?_ ?_ ?_)
      · intro u hu
        simp only [List.mem_singleton] at hu
        subst hu
        rfl
      · omega
      · omega
      · simp; omega
      intro v5 w5 ho5 hg5 hn5
      obtain ⟨hF4, hR4, hB4⟩ := HX.out
      have ha : Below wr.heap.size wr (wr.alloc (.cells #[.int .i64 (lotN m)] 3)) := (Below.refl _ _).alloc (Nat.le_refl _) _
      have HF5 : Hid (FillI W0.heap.size w5 R v5 (r.n + (m + 1)) (withLots r.n r.loop)) := by
        refine (hF4.below ha).next (hR4.below ha) hn5 ?_
        rw [← Nat.add_assoc, map_push]
        have e : withLots r.n r.loop (r.n + m) = lotN m := by rw [withLots, if_neg (by omega), Nat.add_sub_cancel_left]
        rw [e]
        exact ho5
      have HR5 : Hid (Rm base w5 R) := (hF4.below ha).room (hR4.below ha) hg5
      have HB5 : Hid (But R.hot W0 w5) := (hB4.alloc _).grown hg5 fun b hb hl => absurd (hF4.row.lt b hb).1 (by omega)
      clear hF4 hR4 hB4 ha ho5 hg5 hn5 hRow HX
      go_wp2
      go_roundw
      case rel => exact ⟨m + 1, by omega, by go_num, HF5.out, HR5.out, HB5.out⟩
      case measure => simp [intOf]; omega
    · obtain rfl : m = 4 := by omega
      obtain ⟨gb, cap, hv, hgB, hgl, hcap⟩ : ∃ gb cap, u5 = .slice (some ⟨gb, 0, none⟩) (r.n + 4) cap ∧ W0.heap.size ≤ gb ∧ gb < wr.heap.size ∧ r.n + 4 ≤ cap := by
        have hlt := hFm.row.lt
        obtain ⟨_, ⟨hv, h0⟩ | ⟨gb, cap, cur, hv, hbg, hh, hnc, _⟩⟩ := id hFm.row
        · omega
        · exact ⟨gb, cap, hv, hbg, (hlt gb (by rw [hv]; rfl)).2, hnc⟩
      subst hv
      have hrow3 := hRm.row 4 (by omega)
      have hb3 := hRm.box.cell 4
      simp at hb3
      have hl3 : (R.L 4).length < 100000 := by have := HCn.out 4 (by omega); omega
      have HX : Hid (FillI W0.heap.size wr R (.slice (some ⟨gb, 0, none⟩) (r.n + 4) cap) (r.n + 4) (withLots r.n r.loop) ∧ Rm base wr R ∧ But R.hot W0 wr) := ⟨hFm, hRm, hBm⟩
      have hbw : base ≤ wr.heap.size := Nat.le_trans (Nat.le_trans hbase HW.out.size) hBm.size
      clear hFm hRm hBm
      go_wp2_with (at_builtin; refine wpList_app rfl (.tmp 25) (.tmp 27) 88 31 i1 _ 1 24 HKd1.out rfl base (R.F 4) (R.L 4).length ((R.L 4).map Made.val) rfl (hrow3.alloc _) ⟨wr.heap.size, 0, none⟩ 1 1 [.slice (some ⟨gb, 0, none⟩) (r.n + 4) cap] rfl rfl (cell_one_new _ _ _) ?_ ?_ ?_ ?_ ?_)
      · intro u hu
        simp only [List.mem_singleton] at hu
        subst hu
        rfl
      · omega
      · omega
      · simp; omega
      intro v5 w5 ho5 hg5 hn5
      obtain ⟨hFm, hRm, hBm⟩ := HX.out
      have hmk : Marks wr 4 ⟨gb, r.n + 4, cap⟩ := by
        refine ⟨⟨by show 4 ≤ r.n + 4; omega, by show r.n + 4 ≤ 281474976710656; omega⟩, fun q hq r' hr => ?_⟩
        have hq4 : q < 4 := hq
        have hr4 : r' < 1 := hr
        obtain rfl : r' = 0 := by omega
        have hc := hFm.row.cells (g := gb) rfl (r.n + q) (.int .i64 (withLots r.n r.loop (r.n + q))) (by simp [List.getElem?_range (show r.n + q < r.n + 4 by omega)])
        rw [Go.WideShapes.add_plain] at hc
        rw [withLots, if_neg (by omega), Nat.add_sub_cancel_left] at hc
        show wr.cell? ⟨gb, (r.n + 4 - 4 + q) * 1 + 0, none⟩ = some (.int .i64 (lotN q))
        rw [← hc]
        congr 2
        all_goals omega
      have hsep := hFm.sep gb rfl
      have hput := hRm.put (i := 4) (v := v5) (x := ⟨gb, r.n + 4, cap⟩) (by omega) hmk hgl (fun h => hsep (.inl h)) ((Below.refl _ _).alloc (Nat.le_refl _) _) ho5 hg5 hn5 hl3
      obtain ⟨q5, e5, hv5⟩ := ownsRow_slice ho5
      obtain ⟨x3, y3, z3⟩ : w5.cell? ⟨R.rb, 4, none⟩ = some (R.F 4) ∧ w5.frozen? ⟨R.rb, 4, none⟩ = false ∧ R.rb < w5.heap.size := by
        have h := (hRm.box.below ((Below.refl _ _).alloc (Nat.le_refl _) (.cells #[.slice (some ⟨gb, 0, none⟩) (r.n + 4) cap] 31)))
        have h2 := h.kept (hg5.block _ h.lt fun e => hRm.off 4 (by omega) e.symm)
        exact ⟨by have := h2.cell 4; simpa using this, h2.frozen 4, h2.lt⟩
      subst hv5
      have hIP : IPost base W0 R r.n r.loop (.returned (.slice (some ⟨gb, 0, none⟩) r.n (r.n + 4))) (w5.setCell ⟨R.rb, 4, none⟩ (.slice q5 ((R.L 4).length + 1) e5)) :=
        ints_post hgB hgl hFm hBm HIn.out.l.fit hput hn (by omega) rfl
      obtain ⟨pI, cI, R1, heI, hRI⟩ := hIP
      simp only [Ending.returned.injEq, Value.slice.injEq] at heI
      obtain ⟨rfl, _, rfl⟩ := heI
      have HRI := hid hRI
      clear hRI hFm hRm hBm hmk hput ho5 hg5 hn5 hrow3 HX
      go_upto_region 8 with fail
      obtain ⟨V, hV⟩ : ∃ V, V = w5.setCell ⟨R.rb, 4, none⟩ (.slice q5 ((R.L 4).length + 1) e5) := ⟨_, rfl⟩
      rw [← hV]
      rw [← hV] at HRI
      clear hV x3 y3 z3 hb3
      have hlo1 : ∀ b, w.heap.size ≤ b → b < w.heap.size + 2 → ¬ R.hot b := fun b h1 _ => hlo.out b h1
      have HXB : Hid (Box V w.heap.size #[.string r.key, .int .i64 r.v.kind, .int .i64 r.v.int, .string r.v.text, .slice r.v.p r.v.n r.v.c, .slice r.p r.n r.c] 33) := HX0.out.but HRI.out.but (hlo.out _ (Nat.le_refl _))
      have HZB : Hid (Box V (w.heap.size + 1) #[.string ⟨#[]⟩, .int .i64 0, .int .i64 0, .string ⟨#[]⟩, .slice none 0 0, .slice none 0 0] 33) := HZ0.out.but HRI.out.but (hlo.out _ (Nat.le_succ _))
      have HC : Hid (∀ W, Below V.heap.size V W → Calls Try.prog 77 #[.pointer (some ⟨R.rb, 0, none⟩), .agg #[.int .i64 r.v.kind, .int .i64 r.v.int, .string r.v.text, .slice r.v.p r.v.n r.v.c]] W fun e w' => WPost base W R1 r.v e w') := fun W hW => by
        have h1 : VT.In W0 (fun b => S b ∧ b < w.heap.size) r.v := (HIn.out.v.mono fun b hb hl => ⟨hb, hl⟩).below HW.out
        have h2 : VT.In V (fun b => S b ∧ b < w.heap.size) r.v := h1.but HRI.out.but fun b hb _ => HSS.out b hb.1
        have h := within_any r.v base W R1 (fun b => S b ∧ b < w.heap.size) (HRI.out.rm.below hW) (by have := hW.size; have := HRI.out.but.size; have := HW.out.size; omega) (h2.below hW) (fun b hb hh => by
          rcases HRI.out.nx.hot b hh with h3 | h3
          · exact HSS.out b hb.1 h3
          · have := hb.2; have hz := HSz.out; omega) (fun i hi => by have := HCn.out i hi; have := HRI.out.cnt i hi; omega)
        rw [HRI.out.nx.rb] at h
        exact h
      have hnot : ∀ b, w.heap.size ≤ b → b < w.heap.size + 2 → ¬ R1.hot b := fun b h1 h2 hh => by
        rcases HRI.out.nx.hot b hh with h3 | h3
        · exact hlo.out b h1 h3
        · have hz := HSz.out; omega
      have HNot := hid hnot
      clear hnot hlo1
      refine wp_region_calmE 30 (fun wx => Box wx w.heap.size #[.string r.key, .int .i64 r.v.kind, .int .i64 r.v.int, .string r.v.text, .slice r.v.p r.v.n r.v.c, .slice r.p r.n r.c] 33) [(0, true), (1, false), (2, true), (3, true), (4, false), (6, true), (7, true), (8, false), (9, true), (10, true), (11, true), (12, true)] (.one 5 true [(13, true)] (.one 14 false [] .done)) (by kernel_rfl) (by kernel_rfl) (HXB.out.below (Below.refl _ _).drew) ?_
      refine wpPre_e rfl rfl (fun K1 hK1 => ?_)
      apply Exists.intro
      refine And.intro (fun wx hx => ?_) ?_
      · go_simp
        try rfl
      go_simp
      refine hK1 _ ?_
      clear hK1 K1
      refine wpPre_e rfl rfl (fun K1 hK1 => ?_)
      apply Exists.intro
      refine And.intro (fun wx hx => ?_) ?_
      · have e0 := hx.resolve_left (by decide)
        have l0 := e0.cell 0
        have l1 := e0.cell 1
        have l2 := e0.cell 2
        have l3 := e0.cell 3
        have l4 := e0.cell 4
        have l5 := e0.cell 5
        simp at l0 l1 l2 l3 l4 l5
        go_simp
        try rfl
      go_simp
      refine hK1 _ ?_
      clear hK1 K1
      refine wpPre_e rfl rfl (fun K1 hK1 => ?_)
      apply Exists.intro
      refine And.intro (fun wx hx => ?_) ?_
      · go_simp
        try rfl
      go_simp
      refine hK1 _ ?_
      clear hK1 K1
      refine wpPre_e rfl rfl (fun K1 hK1 => ?_)
      apply Exists.intro
      refine And.intro (fun wx hx => ?_) ?_
      · go_simp
        try rfl
      go_simp
      refine hK1 _ ?_
      clear hK1 K1
      refine wpPre_e rfl rfl (fun K1 hK1 => ?_)
      apply Exists.intro
      refine And.intro (fun wx hx => ?_) ?_
      · have e0 := hx.resolve_left (by decide)
        have l0 := e0.cell 0
        have l1 := e0.cell 1
        have l2 := e0.cell 2
        have l3 := e0.cell 3
        have l4 := e0.cell 4
        have l5 := e0.cell 5
        simp at l0 l1 l2 l3 l4 l5
        go_simp
        try rfl
      go_simp
      refine hK1 _ ?_
      clear hK1 K1
      refine wpPre_e rfl rfl (fun K1 hK1 => ?_)
      apply Exists.intro
      refine And.intro (fun wx hx => ?_) ?_
      · go_simp
        try rfl
      go_simp
      refine hK1 _ ?_
      clear hK1 K1
      refine wpPre_e rfl rfl (fun K1 hK1 => ?_)
      apply Exists.intro
      refine And.intro (fun wx hx => ?_) ?_
      · go_simp
        try rfl
      go_simp
      refine hK1 _ ?_
      clear hK1 K1
      refine wpPre_e rfl rfl (fun K1 hK1 => ?_)
      apply Exists.intro
      refine And.intro (fun wx hx => ?_) ?_
      · have e0 := hx.resolve_left (by decide)
        have l0 := e0.cell 0
        have l1 := e0.cell 1
        have l2 := e0.cell 2
        have l3 := e0.cell 3
        have l4 := e0.cell 4
        have l5 := e0.cell 5
        simp at l0 l1 l2 l3 l4 l5
        go_simp
        try rfl
      go_simp
      refine hK1 _ ?_
      clear hK1 K1
      refine wpPre_e rfl rfl (fun K1 hK1 => ?_)
      apply Exists.intro
      refine And.intro (fun wx hx => ?_) ?_
      · go_simp
        try rfl
      go_simp
      refine hK1 _ ?_
      clear hK1 K1
      refine wpPre_e rfl rfl (fun K1 hK1 => ?_)
      apply Exists.intro
      refine And.intro (fun wx hx => ?_) ?_
      · go_simp
        try rfl
      go_simp
      refine hK1 _ ?_
      clear hK1 K1
      refine wpPre_e rfl rfl (fun K1 hK1 => ?_)
      apply Exists.intro
      refine And.intro (fun wx hx => ?_) ?_
      · go_simp
        try rfl
      go_simp
      refine hK1 _ ?_
      clear hK1 K1
      refine wpPre_e rfl rfl (fun K1 hK1 => ?_)
      apply Exists.intro
      refine And.intro (fun wx hx => ?_) ?_
      · have q1 : (0 : Int) ≤ ↑r.n + 4 := by omega
        have q2 : (↑r.n + 4 : Int) ≤ ↑cap := by omega
        have q3 : ((r.n : Int) + 4).toNat = r.n + 4 := by omega
        have q4 : r.n ≤ r.n + 4 := by omega
        go_simp
        try rfl
      go_simp
      refine hK1 _ ?_
      clear hK1 K1
      refine wpPre_nil ?_
      refine wpTr_e rfl (fun K1 hK1 => ?_)
      refine step_call rfl 77 #[.tmp 33, .tmp 35] _ rfl Try.f77 Try.func77 (by kernel_rfl) rfl #[.pointer (some ⟨R.rb, 0, none⟩), .agg #[.int .i64 r.v.kind, .int .i64 r.v.int, .string r.v.text, .slice r.v.p r.v.n r.v.c]] rfl _ (HC.out _ (Below.refl _ _).drew) (fun e w6 hP => ?_)
      obtain ⟨u, R2, rfl, hu⟩ := hP
      have hbu : But R1.hot V w6 := ((But.refl R1.hot V).drew).trans hu.but
      have hXB6 := HXB.out.but hbu (HNot.out _ (Nat.le_refl _) (by omega))
      have hZB6 := HZB.out.but hbu (HNot.out _ (Nat.le_succ _) (by omega))
      have HXB6 := hid hXB6
      have HU := hid hu
      have z0 := hZB6.cell 0
      have z1 := hZB6.cell 1
      have z2 := hZB6.cell 2
      have z3 := hZB6.cell 3
      have z4 := hZB6.cell 4
      have z5 := hZB6.cell 5
      have g0 := hZB6.frozen 0
      have g1 := hZB6.frozen 1
      have g2 := hZB6.frozen 2
      have g3 := hZB6.frozen 3
      have g4 := hZB6.frozen 4
      have g5 := hZB6.frozen 5
      have lb := hZB6.lt
      simp at z0 z1 z2 z3 z4 z5
      clear hXB6 hZB6 hu hbu
      refine ⟨_, rfl, ?_⟩
      simp only [VT.val]
      go_simp
      refine hK1 _ _ (fun _ => HXB6.out) ?_
      clear hK1 K1
      refine wpPre_e rfl rfl (fun K1 hK1 => ?_)
      apply Exists.intro
      refine And.intro (fun wx hx => ?_) ?_
      · go_simp
        try rfl
      go_simp
      refine hK1 _ ?_
      clear hK1 K1
      refine wpPre_nil ?_
      refine wpTr_e rfl (fun K1 hK1 => ?_)
      go_simp
      refine hK1 _ _ (fun h => by cases h) ?_
      clear hK1 K1
      refine wpPre_nil ?_
      refine wpTr_done ?_
      go_wp2
      refine bodyPost_ret (v := .agg #[.string r.key, .int .i64 u.kind, .int .i64 u.int, .string u.text, .slice u.p u.n u.c, .slice (some ⟨gb, 0, none⟩) r.n (r.n + 4)]) (by simp [results, Try.results62, go_sem, z0, z1, z2, z3, z4, z5]) rfl ⟨_, R2, rfl, roomedA_join HR.out HW.out HIn.out.k HRI.out (Below.refl _ _).drew HU.out ?_⟩
      rw [HSz.out]
      exact (((((((But.one w6 (w.heap.size + 1)).setAt 0 _).setAt 1 _).setAt 2 _).setAt 3 _).setAt 4 _).setAt 5 _).mono fun b _ hb => by omega
end Go.Proofs.Ytpldokahoamdpaa
