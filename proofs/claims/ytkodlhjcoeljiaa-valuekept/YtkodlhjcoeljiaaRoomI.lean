import Derived.Test.YtkodlhjcoeljiaaRoomV
import Derived.Test.YtkodlhjcoeljiaaCopyR
namespace Go.Proofs.Ytkodlhjcoeljiaa
open Go.RowKit
set_option maxRecDepth 8000

/-- a room that keeps nothing but ints, values and cells -/
def RS.plainK (R : RS) : Prop := ∀ i, i < 10 → i ≠ 0 → i ≠ 2 → i ≠ 3 → i ≠ 5 → R.F i = .slice none 0 0
/-- how rooms follow one another -/
structure Nx (w : World) (R R' : RS) : Prop where
  rb : R'.rb = R.rb
  hot : ∀ b, R'.hot b → R.hot b ∨ w.heap.size ≤ b
  foot : ∀ b, R'.foot b → R.foot b ∨ w.heap.size ≤ b
  plain : R.plainK → R'.plainK
theorem Nx.refl (w : World) (R : RS) : Nx w R R := ⟨rfl, fun _ h => .inl h, fun _ h => .inl h, id⟩
theorem Nx.trans {w w' : World} {R S T : RS} (h : Nx w R S) (k : Nx w' S T) (hs : w.heap.size ≤ w'.heap.size) : Nx w R T := by
  refine ⟨k.rb.trans h.rb, fun b hb => ?_, fun b hb => ?_, fun hp => k.plain (h.plain hp)⟩
  · rcases k.hot b hb with h1 | h1
    · exact h.hot b h1
    · exact .inr (Nat.le_trans hs h1)
  · rcases k.foot b hb with h1 | h1
    · exact h.foot b h1
    · exact .inr (Nat.le_trans hs h1)
theorem Next.nx {w : World} {R R' : RS} (h : Next w R R') : Nx w R R' := ⟨h.rb, h.hot, h.foot, fun hp i hi h0 h2 h3 h5 => ((h.same i h2 h3).1).trans (hp i hi h0 h2 h3 h5)⟩
theorem But.nx {w w1 w2 : World} {R R1 : RS} (h : But R.hot w w1) (hn : Nx w R R1) (k : But R1.hot w1 w2) : But R.hot w w2 :=
  ⟨k.os.trans h.os, k.tape.trans h.tape, k.output.trans h.output, Nat.le_trans h.size k.size, fun b hb hx => (k.block b (Nat.lt_of_lt_of_le hb h.size) fun e => by
    rcases hn.hot b e with h2 | h2
    · exact hx h2
    · omega).trans (h.block b hb hx)⟩
theorem RS.plainK.put {R : RS} (h : R.plainK) {z : Nat} (hz : z = 0 ∨ z = 2 ∨ z = 3 ∨ z = 5) (v : Value) (x : Made) : (R.put z v x).plainK := by
  intro i hi h0 h2 h3 h5
  have hne : ¬ i = z := by omega
  simp only [RS.put, if_neg hne]
  exact h i hi h0 h2 h3 h5
theorem kindIs : ∃ i, Kind 28 45 i (.slice none 0 0) 1 24 := by
  obtain ⟨i0, hi, hz0, hz1, hz2⟩ := info_parts (show (Try.prog.info? 45).map (fun i => (i.zero, i.size, i.bytes)) = some (some (.slice none 0 0), 1, 24) by kernel_rfl)
  exact ⟨i0, Try.underlying28, hi, hz0, hz1, hz2, rfl, by decide⟩

/-- a row of ints that is being filled, beside a room -/
structure FillI (B : Nat) (w : World) (R : RS) (v : Value) (n : Nat) (g : Nat → Int) : Prop where
  row : w.ownsRow B 3 1 v n ((List.range n).map fun j => .int .i64 (g j))
  sep : ∀ b, v.ownBlock = some b → ¬ R.foot b
theorem FillI.below {B : Nat} {w w' : World} {R : RS} {v : Value} {n : Nat} {g : Nat → Int} (h : FillI B w R v n g) (hb : Below w.heap.size w w') : FillI B w' R v n g :=
  ⟨ownsRow_keep h.row fun k _ hl => hb.block k hl, h.sep⟩
theorem FillI.room {B base : Nat} {w w' : World} {R : RS} {v : Value} {n : Nat} {g : Nat → Int} (h : FillI B w R v n g) (hr : Rm base w R) (hg : w.grownBy w' v.ownBlock) : Rm base w' R :=
  hr.keep hg.size fun b hb => hg.block b (hr.footlt hb) fun e => h.sep b e.symm hb
theorem FillI.next {B base : Nat} {w w' : World} {R : RS} {v v' : Value} {n m : Nat} {g g' : Nat → Int} (h : FillI B w R v n g) (hr : Rm base w R) (hn : Near w v v') (hown : w'.ownsRow B 3 1 v' m ((List.range m).map fun j => .int .i64 (g' j))) : FillI B w' R v' m g' := by
  refine ⟨hown, fun b hb hf => ?_⟩
  rcases hn with h1 | h1
  · exact h.sep b (h1 ▸ hb) hf
  · have := h1 b hb
    have := hr.footlt hf
    omega
theorem map_push (g : Nat → Int) (n : Nat) : ((List.range (n + 1)).map fun j => Value.int .i64 (g j)) = ((List.range n).map fun j => Value.int .i64 (g j)) ++ [.int .i64 (g n)] := by
  rw [List.range_succ, List.map_append]; rfl
theorem map_same {g g' : Nat → Int} {n : Nat} (h : ∀ j, j < n → g j = g' j) : ((List.range n).map fun j => Value.int .i64 (g j)) = ((List.range n).map fun j => Value.int .i64 (g' j)) := by
  apply List.map_congr_left
  intro j hj
  rw [h j (List.mem_range.1 hj)]
/-- ints and marks behind them -/
def withLots (n : Nat) (f : Nat → Int) (q : Nat) : Int := if q < n then f q else lotN (q - n)
/-- what comes of a list of ints with room -/
structure RoomedI (base : Nat) (w : World) (R : RS) (n : Nat) (f : Nat → Int) (p : Option Addr) (c : Nat) (w' : World) (R' : RS) : Prop where
  ints : Ints w' (fun b => w.heap.size ≤ b ∧ ¬ R'.hot b) p n c f
  rm : Rm base w' R'
  nx : Nx w R R'
  but : But R.hot w w'
  cnt : ∀ i, i < 10 → (R'.L i).length ≤ (R.L i).length + 1
def IPost (base : Nat) (w : World) (R : RS) (n : Nat) (f : Nat → Int) (e : Ending) (w' : World) : Prop := ∃ p c R', e = .returned (.slice p n c) ∧ RoomedI base w R n f p c w' R'

theorem ints_post {base : Nat} {w wr w' : World} {R : RS} {n : Nat} {f : Nat → Int} {gb cap x z : Nat} {v5 : Value} (hgB : w.heap.size ≤ gb) (hgl : gb < wr.heap.size) (hF : FillI w.heap.size wr R (.slice (some ⟨gb, 0, none⟩) (n + x) cap) (n + x) (withLots n f)) (hBm : But R.hot w wr) (hfit : ∀ j, j < n → -9223372036854775808 ≤ f j ∧ f j ≤ 9223372036854775807)
    (hput : Rm base w' (R.put z v5 ⟨gb, n + x, cap⟩) ∧ ((∀ b, (R.put z v5 ⟨gb, n + x, cap⟩).hot b → R.hot b ∨ wr.heap.size ≤ b) ∧ ∀ b, (R.put z v5 ⟨gb, n + x, cap⟩).foot b → R.foot b ∨ wr.heap.size ≤ b ∨ b = gb) ∧ But R.hot wr w') (hn : n ≤ 10000) (hx : x ≤ 1000) (hz : z = 0) :
    IPost base w R n f (.returned (.slice (some ⟨gb, 0, none⟩) n (n + x))) w' := by
  obtain ⟨hrm, ⟨hhot, hfoot⟩, hbut⟩ := hput
  have hsep := hF.sep gb rfl
  have hsw := hBm.size
  refine ⟨_, _, _, rfl, ⟨⟨fun _ => ⟨gb, 0, rfl, ⟨hgB, fun h => ?_⟩, Nat.lt_of_lt_of_le hgl hbut.size, fun j hj => ?_⟩, by omega, by omega, by unfold maxLen; omega, hfit, fun h => by cases h⟩, hrm, ⟨rfl, fun b hb => ?_, fun b hb => ?_, fun hp => hp.put (.inl hz) _ _⟩, ?_, fun q _ => ?_⟩⟩
  · rcases hhot gb h with h1 | h1
    · exact hsep (.inl h1)
    · omega
  · have h := hF.row.cells (g := gb) rfl j (.int .i64 (withLots n f j)) (by simp [List.getElem?_range (show j < n + x by omega)])
    rw [Go.WideShapes.add_plain] at h
    rw [withLots, if_pos hj] at h
    exact (World.cell?_of_block (a := ⟨gb, 0 + j, none⟩) (hbut.block gb hgl fun e => hsep (.inl e))).trans h
  · rcases hhot b hb with h1 | h1
    · exact .inl h1
    · exact .inr (by omega)
  · rcases hfoot b hb with h1 | h1 | h1
    · exact .inl h1
    · exact .inr (by omega)
    · exact .inr (by omega)
  · exact hBm.trans hbut
  · by_cases hqz : q = z
    · simp only [RS.put, if_pos hqz, List.length_append, List.length_singleton]; omega
    · simp only [RS.put, if_neg hqz]; omega

set_option maxHeartbeats 2000000 in
theorem ints_of (p : Option Addr) (n c : Nat) (f : Nat → Int) (base : Nat) (w : World) (R : RS) (S : Nat → Prop) (hR : Rm base w R) (hbase : base ≤ w.heap.size) (hin : Ints w S p n c f) (hn : n ≤ 10000) (hcnt : ∀ q, q < 10 → (R.L q).length + 1 ≤ 100000) :
    Calls Try.prog 49 #[.pointer (some ⟨R.rb, 0, none⟩), .slice p n c] w fun e w' => IPost base w R n f e w' := by
  obtain ⟨i0, Kd⟩ := kindI
  obtain ⟨i1, Kd1⟩ := kindIs
  have HI : Hid (Ints w S p n c f) := hin
  have HR : Hid (Rm base w R) := hR
  clear hin hR
  have hF0 : FillI w.heap.size (w.alloc (.cells #[] 3)) R (.slice (some ⟨w.heap.size, 0, none⟩) 0 0) 0 f := by
    refine ⟨?_, fun b hb hf => ?_⟩
    · have h := World.ownsRow_made (base := w.heap.size) (e := 3) (size := 1) w #[] 0 (Nat.le_refl _) (Nat.zero_le _) (by simp)
      simpa using h
    · simp only [Value.ownBlock, Option.some.injEq] at hb
      have := HR.out.footlt hf
      omega
  have hrow := hF0.row
  go_enter Try.func49, Try.ntmps49
  go_wp2_with (at_builtin; refine wpList_appS rfl (.tmp 8) (.tmp 9) 45 3 i0 _ 1 8 Kd rfl w.heap.size (.slice (some ⟨w.heap.size, 0, none⟩) 0 0) 0 _ rfl hrow p n c ((List.range n).map fun j => .int .i64 (f j)) rfl ?_ (oneCell_ints _ _) ?_ ?_ ?_ ?_)
  · exact (HI.out.kept (by simp) fun b _ hb => Below.heap_alloc _ _ _ hb).src
  · omega
  · omega
  · simp
  intro v1 w1 ho1 hg1 hn1
  have hb0 : Below w.heap.size w (w.alloc (.cells #[] 3)) := (Below.refl _ _).alloc (Nat.le_refl _) _
  have hR0 : Rm base (w.alloc (.cells #[] 3)) R := HR.out.below hb0
  have hF1 : FillI w.heap.size w1 R v1 (n + 0) (withLots n f) := by
    refine hF0.next hR0 hn1 ?_
    have e : ((List.range (n + 0)).map fun j => Value.int .i64 (withLots n f j)) = ((List.range n).map fun j => Value.int .i64 (f j)) := map_same fun j hj => by rw [withLots, if_pos (show j < n from hj)]
    rw [e]
    simpa using ho1
  have hR1 : Rm base w1 R := hF0.room hR0 hg1
  have hB1 : But R.hot w w1 := (But.ofBelow hb0).grown hg1 fun b hb hl => by simp only [Value.ownBlock, Option.some.injEq] at hb; omega
  clear hF0 hrow ho1 hg1 hn1 hb0 hR0
  go_wp2_with fail
  go_loopw [5, 6] (fun v x wr => ∃ m : Nat, m ≤ 40 ∧ x = .int .i64 m ∧ FillI w.heap.size wr R v (n + m) (withLots n f) ∧ Rm base wr R ∧ But R.hot w wr) (fun _ x _ => 40 - (intOf x).toNat)
  case atStart => exact ⟨0, by omega, rfl, hF1, hR1, hB1⟩
  case round =>
    obtain ⟨m, hm, rfl, hFm, hRm, hBm⟩ := hrel
    clear hF1 hR1 hB1
    by_cases hlt4 : m < 40
    · have hlt4' : (m : Int) < 40 := by omega
      have HLo := lot_any m (by omega)
      have HX : Hid (FillI w.heap.size wr R u5 (n + m) (withLots n f) ∧ Rm base wr R ∧ But R.hot w wr) := ⟨hFm, hRm, hBm⟩
      have hlo : -7702 ≤ lotN m ∧ lotN m ≤ -7701 := by unfold lotN; split <;> omega
      obtain ⟨l1, l2⟩ := hlo
      have hRow := hFm.row
      have hsw := hBm.size
      clear hFm hRm hBm
      go_wp2_with (go_at_call 53; refine (HLo _).mono ?_)
      rintro e w2 ⟨rfl, hw2⟩
      subst w2
      go_wp2_with (at_builtin; refine wpList_app rfl (.tmp 15) (.tmp 18) 45 3 i0 _ 1 8 Kd rfl w.heap.size u5 (n + m) _ rfl (hRow.alloc _) ⟨wr.heap.size, 0, none⟩ 1 1 [.int .i64 (lotN m)] rfl rfl (cell_one_new _ _ _) ?_ ?_ ?_ ?_ ?_)
      · intro u hu
        simp only [List.mem_singleton] at hu
        subst hu
        rfl
      · omega
      · omega
      · simp; omega
      intro v5 w5 ho5 hg5 hn5
      obtain ⟨hF4, hR4, hB4⟩ := HX.out
      have ha : Below wr.heap.size wr (wr.alloc (.cells #[.int .i64 (lotN m)] 3)) := (Below.refl _ _).alloc (Nat.le_refl _) _
      have HF5 : Hid (FillI w.heap.size w5 R v5 (n + (m + 1)) (withLots n f)) := by
        refine (hF4.below ha).next (hR4.below ha) hn5 ?_
        rw [← Nat.add_assoc, map_push]
        have e : withLots n f (n + m) = lotN m := by rw [withLots, if_neg (by omega), Nat.add_sub_cancel_left]
        rw [e]
        exact ho5
      have HR5 : Hid (Rm base w5 R) := (hF4.below ha).room (hR4.below ha) hg5
      have HB5 : Hid (But R.hot w w5) := (hB4.alloc _).grown hg5 fun b hb hl => absurd (hF4.row.lt b hb).1 (by omega)
      clear hF4 hR4 hB4 ha ho5 hg5 hn5 hRow HX
      go_wp2
      go_roundw
      case rel => exact ⟨m + 1, by omega, by go_num, HF5.out, HR5.out, HB5.out⟩
      case measure => simp [intOf]; omega
    · obtain rfl : m = 40 := by omega
      obtain ⟨gb, cap, hv, hgB, hgl, hcap⟩ : ∃ gb cap, u5 = .slice (some ⟨gb, 0, none⟩) (n + 40) cap ∧ w.heap.size ≤ gb ∧ gb < wr.heap.size ∧ n + 40 ≤ cap := by
        have hlt := hFm.row.lt
        obtain ⟨_, ⟨hv, h0⟩ | ⟨gb, cap, cur, hv, hbg, hh, hnc, _⟩⟩ := id hFm.row
        · omega
        · exact ⟨gb, cap, hv, hbg, (hlt gb (by rw [hv]; rfl)).2, hnc⟩
      subst hv
      have hrow3 := hRm.row 0 (by omega)
      have hb3 := hRm.box.cell 0
      simp at hb3
      have hl3 : (R.L 0).length < 100000 := by have := hcnt 0 (by omega); omega
      have HX : Hid (FillI w.heap.size wr R (.slice (some ⟨gb, 0, none⟩) (n + 40) cap) (n + 40) (withLots n f) ∧ Rm base wr R ∧ But R.hot w wr) := ⟨hFm, hRm, hBm⟩
      have hbw : base ≤ wr.heap.size := Nat.le_trans hbase hBm.size
      clear hFm hRm hBm
      go_wp2_with (at_builtin; refine wpList_app rfl (.tmp 24) (.tmp 26) 28 45 i1 _ 1 24 Kd1 rfl base (R.F 0) (R.L 0).length ((R.L 0).map Made.val) rfl (hrow3.alloc _) ⟨wr.heap.size, 0, none⟩ 1 1 [.slice (some ⟨gb, 0, none⟩) (n + 40) cap] rfl rfl (cell_one_new _ _ _) ?_ ?_ ?_ ?_ ?_)
      · intro u hu
        simp only [List.mem_singleton] at hu
        subst hu
        rfl
      · omega
      · omega
      · simp; omega
      intro v5 w5 ho5 hg5 hn5
      obtain ⟨hFm, hRm, hBm⟩ := HX.out
      have hmk : Marks wr 0 ⟨gb, n + 40, cap⟩ := by
        refine ⟨⟨by show 40 ≤ n + 40; omega, by show n + 40 ≤ 281474976710656; omega⟩, fun q hq r hr => ?_⟩
        have hq4 : q < 40 := hq
        have hr4 : r < 1 := hr
        obtain rfl : r = 0 := by omega
        have hc := hFm.row.cells (g := gb) rfl (n + q) (.int .i64 (withLots n f (n + q))) (by simp [List.getElem?_range (show n + q < n + 40 by omega)])
        rw [Go.WideShapes.add_plain] at hc
        rw [withLots, if_neg (by omega), Nat.add_sub_cancel_left] at hc
        show wr.cell? ⟨gb, (n + 40 - 40 + q) * 1 + 0, none⟩ = some (.int .i64 (lotN q))
        rw [← hc]
        congr 2
        all_goals omega
      have hsep := hFm.sep gb rfl
      have hput := hRm.put (i := 0) (v := v5) (x := ⟨gb, n + 40, cap⟩) (by omega) hmk hgl (fun h => hsep (.inl h)) ((Below.refl _ _).alloc (Nat.le_refl _) _) ho5 hg5 hn5 hl3
      obtain ⟨q5, e5, hv5⟩ := ownsRow_slice ho5
      obtain ⟨x3, y3, z3⟩ : w5.cell? ⟨R.rb, 0, none⟩ = some (R.F 0) ∧ w5.frozen? ⟨R.rb, 0, none⟩ = false ∧ R.rb < w5.heap.size := by
        have h := (hRm.box.below ((Below.refl _ _).alloc (Nat.le_refl _) (.cells #[.slice (some ⟨gb, 0, none⟩) (n + 40) cap] 45)))
        have h2 := h.kept (hg5.block _ h.lt fun e => hRm.off 0 (by omega) e.symm)
        exact ⟨by have := h2.cell 0; simpa using this, h2.frozen 0, h2.lt⟩
      subst hv5
      have HP : Hid (IPost base w R n f (.returned (.slice (some ⟨gb, 0, none⟩) n (n + 40))) (w5.setCell ⟨R.rb, 0, none⟩ (.slice q5 ((R.L 0).length + 1) e5))) :=
        ints_post hgB hgl hFm hBm HI.out.fit hput hn (by omega) rfl
      clear hFm hRm hBm hmk hput ho5 hg5 hn5 hrow3 HX
      go_wp2
      go_ret
      exact HP.out
end Go.Proofs.Ytkodlhjcoeljiaa
