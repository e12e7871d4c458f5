import Derived.Test.YtneomdiabcpemaaPack5
import Derived.Test.YtneomdiabcpemaaPack29
import Derived.Test.YtneomdiabcpemaaEncW
namespace Go.Proofs.Ytneomdiabcpemaa
open Go.RowKit
set_option maxRecDepth 8000

theorem kindBs : ∃ i, Kind 22 29 i (.slice none 0 0) 1 24 := by
  obtain ⟨i0, hi, hz0, hz1, hz2⟩ := info_parts (show (Try.prog.info? 29).map (fun i => (i.zero, i.size, i.bytes)) = some (some (.slice none 0 0), 1, 24) by kernel_rfl)
  exact ⟨i0, Try.underlying22, hi, hz0, hz1, hz2, rfl, by decide⟩

/-- a row of ints that is being filled, beside a room -/
structure FillB (B : Nat) (w : World) (R : RS) (v : Value) (n : Nat) (g : Nat → Int) : Prop where
  row : w.ownsRow B 5 1 v n ((List.range n).map fun j => .int .u8 (g j))
  sep : ∀ b, v.ownBlock = some b → ¬ R.foot b
theorem FillB.below {B : Nat} {w w' : World} {R : RS} {v : Value} {n : Nat} {g : Nat → Int} (h : FillB B w R v n g) (hb : Below w.heap.size w w') : FillB B w' R v n g :=
  ⟨ownsRow_keep h.row fun k _ hl => hb.block k hl, h.sep⟩
theorem FillB.room {B base : Nat} {w w' : World} {R : RS} {v : Value} {n : Nat} {g : Nat → Int} (h : FillB B w R v n g) (hr : Rm base w R) (hg : w.grownBy w' v.ownBlock) : Rm base w' R :=
  hr.keep hg.size fun b hb => hg.block b (hr.footlt hb) fun e => h.sep b e.symm hb
theorem FillB.next {B base : Nat} {w w' : World} {R : RS} {v v' : Value} {n m : Nat} {g g' : Nat → Int} (h : FillB B w R v n g) (hr : Rm base w R) (hn : Near w v v') (hown : w'.ownsRow B 5 1 v' m ((List.range m).map fun j => .int .u8 (g' j))) : FillB B w' R v' m g' := by
  refine ⟨hown, fun b hb hf => ?_⟩
  rcases hn with h1 | h1
  · exact h.sep b (h1 ▸ hb) hf
  · have := h1 b hb
    have := hr.footlt hf
    omega
theorem map_pushB (g : Nat → Int) (n : Nat) : ((List.range (n + 1)).map fun j => Value.int .u8 (g j)) = ((List.range n).map fun j => Value.int .u8 (g j)) ++ [.int .u8 (g n)] := by
  rw [List.range_succ, List.map_append]; rfl
theorem map_sameB {g g' : Nat → Int} {n : Nat} (h : ∀ j, j < n → g j = g' j) : ((List.range n).map fun j => Value.int .u8 (g j)) = ((List.range n).map fun j => Value.int .u8 (g' j)) := by
  apply List.map_congr_left
  intro j hj
  rw [h j (List.mem_range.1 hj)]
/-- ints and marks behind them -/
def withLotsB (n : Nat) (f : Nat → Int) (q : Nat) : Int := if q < n then f q else lotN (q - n) % 256
/-- what comes of a list of ints with room -/
structure RoomedB (base : Nat) (w : World) (R : RS) (n : Nat) (f : Nat → Int) (p : Option Addr) (c : Nat) (w' : World) (R' : RS) : Prop where
  ints : Byts w' (fun b => w.heap.size ≤ b ∧ ¬ R'.hot b) p n c f
  rm : Rm base w' R'
  rb : R'.rb = R.rb
  hot : ∀ b, R'.hot b → R.hot b ∨ w.heap.size ≤ b
  foot : ∀ b, R'.foot b → R.foot b ∨ w.heap.size ≤ b
  same : ∀ i, i ≠ 9 → R'.F i = R.F i ∧ R'.L i = R.L i
  but : But R.hot w w'
  cnt : ∀ i, i < 10 → (R'.L i).length ≤ (R.L i).length + 1
  own : ∃ g cs, p = some ⟨g, 0, none⟩ ∧ w.heap.size ≤ g ∧ Box w' g cs 5
def BPost (base : Nat) (w : World) (R : RS) (n : Nat) (f : Nat → Int) (e : Ending) (w' : World) : Prop := ∃ p c R', e = .returned (.slice p n c) ∧ RoomedB base w R n f p c w' R'

theorem byts_post {base : Nat} {w wr w' : World} {R : RS} {n : Nat} {f : Nat → Int} {gb cap x z : Nat} {v5 : Value} (hgB : w.heap.size ≤ gb) (hgl : gb < wr.heap.size) (hF : FillB w.heap.size wr R (.slice (some ⟨gb, 0, none⟩) (n + x) cap) (n + x) (withLotsB n f)) (hBm : But R.hot w wr) (hfit : ∀ j, j < n → 0 ≤ f j ∧ f j < 256)
    (hput : Rm base w' (R.put z v5 ⟨gb, n + x, cap⟩) ∧ ((∀ b, (R.put z v5 ⟨gb, n + x, cap⟩).hot b → R.hot b ∨ wr.heap.size ≤ b) ∧ ∀ b, (R.put z v5 ⟨gb, n + x, cap⟩).foot b → R.foot b ∨ wr.heap.size ≤ b ∨ b = gb) ∧ But R.hot wr w') (hn : n ≤ 140737488351232) (hx : x ≤ 1000) (hz : z = 9) :
    BPost base w R n f (.returned (.slice (some ⟨gb, 0, none⟩) n (n + x))) w' := by
  obtain ⟨hrm, ⟨hhot, hfoot⟩, hbut⟩ := hput
  have hsep := hF.sep gb rfl
  have hsw := hBm.size
  refine ⟨_, _, _, rfl, ⟨⟨fun _ => ⟨gb, 0, rfl, ⟨hgB, fun h => ?_⟩, Nat.lt_of_lt_of_le hgl hbut.size, fun j hj => ?_⟩, by omega, by omega, by unfold maxLen; omega, hfit, fun h => by cases h⟩, hrm, rfl, fun b hb => ?_, fun b hb => ?_, fun q hq => ?_, ?_, fun q _ => ?_, ?_⟩⟩
  · rcases hhot gb h with h1 | h1
    · exact hsep (.inl h1)
    · omega
  · have h := hF.row.cells (g := gb) rfl j (.int .u8 (withLotsB n f j)) (by simp [List.getElem?_range (show j < n + x by omega)])
    rw [Go.WideShapes.add_plain] at h
    rw [withLotsB, if_pos hj] at h
    exact (World.cell?_of_block (a := ⟨gb, 0 + j, none⟩) (hbut.block gb hgl fun e => hsep (.inl e))).trans h
  · rcases hhot b hb with h1 | h1
    · exact .inl h1
    · exact .inr (by omega)
  · rcases hfoot b hb with h1 | h1 | h1
    · exact .inl h1
    · exact .inr (by omega)
    · exact .inr (by omega)
  · have hqz : ¬ q = z := by omega
    simp only [RS.put, if_neg hqz]
    exact ⟨trivial, trivial⟩
  · exact hBm.trans hbut
  · by_cases hqz : q = z
    · simp only [RS.put, if_pos hqz, List.length_append, List.length_singleton]; omega
    · simp only [RS.put, if_neg hqz]; omega
  · have hown := hF.row
    obtain ⟨_, ⟨hv, _⟩ | ⟨g, cap', cur, hv, _, hh, _⟩⟩ := id hown
    · cases hv
    · obtain ⟨h1, _⟩ := Value.slice.inj hv
      cases h1
      exact ⟨gb, cur, rfl, hgB, (hbut.block gb hgl fun e => hsep (.inl e)).trans hh⟩

set_option maxHeartbeats 2000000 in
theorem byts_of (p : Option Addr) (n c : Nat) (f : Nat → Int) (base : Nat) (w : World) (R : RS) (S : Nat → Prop) (hR : Rm base w R) (hbase : base ≤ w.heap.size) (hin : Byts w S p n c f) (hn : n ≤ 140737488351232) (hcnt : ∀ q, q < 10 → (R.L q).length + 1 ≤ 100000) :
    Calls Try.prog 32 #[.pointer (some ⟨R.rb, 0, none⟩), .slice p n c] w fun e w' => BPost base w R n f e w' := by
  obtain ⟨i0, Kd⟩ := kindB
  obtain ⟨i1, Kd1⟩ := kindBs
  have HI : Hid (Byts w S p n c f) := hin
  have HR : Hid (Rm base w R) := hR
  clear hin hR
  have hF0 : FillB w.heap.size (w.alloc (.cells #[] 5)) R (.slice (some ⟨w.heap.size, 0, none⟩) 0 0) 0 f := by
    refine ⟨?_, fun b hb hf => ?_⟩
    · have h := World.ownsRow_made (base := w.heap.size) (e := 5) (size := 1) w #[] 0 (Nat.le_refl _) (Nat.zero_le _) (by simp)
      simpa using h
    · simp only [Value.ownBlock, Option.some.injEq] at hb
      have := HR.out.footlt hf
      omega
  have hrow := hF0.row
  go_enter Try.func32, Try.ntmps32
  go_wp2_with (at_builtin; refine wpList_appS rfl (.tmp 8) (.tmp 9) 29 5 i0 _ 1 1 Kd rfl w.heap.size (.slice (some ⟨w.heap.size, 0, none⟩) 0 0) 0 _ rfl hrow p n c ((List.range n).map fun j => .int .u8 (f j)) rfl ?_ (oneCell_byts _ _) ?_ ?_ ?_ ?_)
  · exact (HI.out.kept (by simp) fun b _ hb => Below.heap_alloc _ _ _ hb).src
  · omega
  · omega
  · simp
  intro v1 w1 ho1 hg1 hn1
  have hb0 : Below w.heap.size w (w.alloc (.cells #[] 5)) := (Below.refl _ _).alloc (Nat.le_refl _) _
  have hR0 : Rm base (w.alloc (.cells #[] 5)) R := HR.out.below hb0
  have hF1 : FillB w.heap.size w1 R v1 (n + 0) (withLotsB n f) := by
    refine hF0.next hR0 hn1 ?_
    have e : ((List.range (n + 0)).map fun j => Value.int .u8 (withLotsB n f j)) = ((List.range n).map fun j => Value.int .u8 (f j)) := map_sameB fun j hj => by rw [withLotsB, if_pos (show j < n from hj)]
    rw [e]
    simpa using ho1
  have hR1 : Rm base w1 R := hF0.room hR0 hg1
  have hB1 : But R.hot w w1 := (But.ofBelow hb0).grown hg1 fun b hb hl => by simp only [Value.ownBlock, Option.some.injEq] at hb; omega
  clear hF0 hrow ho1 hg1 hn1 hb0 hR0
  go_wp2_with fail
  go_loopw [5, 6] (fun v x wr => ∃ m : Nat, m ≤ 600 ∧ x = .int .i64 m ∧ FillB w.heap.size wr R v (n + m) (withLotsB n f) ∧ Rm base wr R ∧ But R.hot w wr) (fun _ x _ => 600 - (intOf x).toNat)
  case atStart => exact ⟨0, by omega, rfl, hF1, hR1, hB1⟩
  case round =>
    obtain ⟨m, hm, rfl, hFm, hRm, hBm⟩ := hrel
    clear hF1 hR1 hB1
    by_cases hlt4 : m < 600
    · have hlt4' : (m : Int) < 600 := by omega
      have HLo := lot_any m (by omega)
      have HX : Hid (FillB w.heap.size wr R u5 (n + m) (withLotsB n f) ∧ Rm base wr R ∧ But R.hot w wr) := ⟨hFm, hRm, hBm⟩
      have hlo : -7702 ≤ lotN m ∧ lotN m ≤ -7701 := by unfold lotN; split <;> omega
      obtain ⟨l1, l2⟩ := hlo
      have hRow := hFm.row
      have hsw := hBm.size
      clear hFm hRm hBm
      go_wp2_with (go_at_call 40; refine (HLo _).mono ?_)
      rintro e w2 ⟨rfl, hw2⟩
      subst w2
      go_wp2_with (at_builtin; refine wpList_app rfl (.tmp 15) (.tmp 19) 29 5 i0 _ 1 1 Kd rfl w.heap.size u5 (n + m) _ rfl (hRow.alloc _) ⟨wr.heap.size, 0, none⟩ 1 1 [.int .u8 (lotN m % 256)] rfl rfl (cell_one_new _ _ _) ?_ ?_ ?_ ?_ ?_)
      · intro u hu
        simp only [List.mem_singleton] at hu
        subst hu
        rfl
      · omega
      · omega
      · simp; omega
      intro v5 w5 ho5 hg5 hn5
      obtain ⟨hF4, hR4, hB4⟩ := HX.out
      have ha : Below wr.heap.size wr (wr.alloc (.cells #[.int .u8 (lotN m % 256)] 5)) := (Below.refl _ _).alloc (Nat.le_refl _) _
      have HF5 : Hid (FillB w.heap.size w5 R v5 (n + (m + 1)) (withLotsB n f)) := by
        refine (hF4.below ha).next (hR4.below ha) hn5 ?_
        rw [← Nat.add_assoc, map_pushB]
        have e : withLotsB n f (n + m) = lotN m % 256 := by rw [withLotsB, if_neg (by omega), Nat.add_sub_cancel_left]
        rw [e]
        exact ho5
      have HR5 : Hid (Rm base w5 R) := (hF4.below ha).room (hR4.below ha) hg5
      have HB5 : Hid (But R.hot w w5) := (hB4.alloc _).grown hg5 fun b hb hl => absurd (hF4.row.lt b hb).1 (by omega)
      clear hF4 hR4 hB4 ha ho5 hg5 hn5 hRow HX
      go_wp2
      go_roundw
      case rel => exact ⟨m + 1, by omega, by go_num, HF5.out, HR5.out, HB5.out⟩
      case measure => simp [intOf]; omega
    · obtain rfl : m = 600 := by omega
      obtain ⟨gb, cap, hv, hgB, hgl, hcap⟩ : ∃ gb cap, u5 = .slice (some ⟨gb, 0, none⟩) (n + 600) cap ∧ w.heap.size ≤ gb ∧ gb < wr.heap.size ∧ n + 600 ≤ cap := by
        have hlt := hFm.row.lt
        obtain ⟨_, ⟨hv, h0⟩ | ⟨gb, cap, cur, hv, hbg, hh, hnc, _⟩⟩ := id hFm.row
        · omega
        · exact ⟨gb, cap, hv, hbg, (hlt gb (by rw [hv]; rfl)).2, hnc⟩
      subst hv
      have hrow3 := hRm.row 9 (by omega)
      have hb3 := hRm.box.cell 9
      simp at hb3
      have hl3 : (R.L 9).length < 100000 := by have := hcnt 9 (by omega); omega
      have HX : Hid (FillB w.heap.size wr R (.slice (some ⟨gb, 0, none⟩) (n + 600) cap) (n + 600) (withLotsB n f) ∧ Rm base wr R ∧ But R.hot w wr) := ⟨hFm, hRm, hBm⟩
      have hbw : base ≤ wr.heap.size := Nat.le_trans hbase hBm.size
      clear hFm hRm hBm
      go_wp2_with (at_builtin; refine wpList_app rfl (.tmp 25) (.tmp 27) 22 29 i1 _ 1 24 Kd1 rfl base (R.F 9) (R.L 9).length ((R.L 9).map Made.val) rfl (hrow3.alloc _) ⟨wr.heap.size, 0, none⟩ 1 1 [.slice (some ⟨gb, 0, none⟩) (n + 600) cap] rfl rfl (cell_one_new _ _ _) ?_ ?_ ?_ ?_ ?_)
      · intro u hu
        simp only [List.mem_singleton] at hu
        subst hu
        rfl
      · omega
      · omega
      · simp; omega
      intro v5 w5 ho5 hg5 hn5
      obtain ⟨hFm, hRm, hBm⟩ := HX.out
      have hmk : Marks wr 9 ⟨gb, n + 600, cap⟩ := by
        refine ⟨⟨by show 600 ≤ n + 600; omega, by show n + 600 ≤ 281474976710656; omega⟩, fun q hq r hr => ?_⟩
        have hq4 : q < 600 := hq
        have hr4 : r < 1 := hr
        obtain rfl : r = 0 := by omega
        have hc := hFm.row.cells (g := gb) rfl (n + q) (.int .u8 (withLotsB n f (n + q))) (by simp [List.getElem?_range (show n + q < n + 600 by omega)])
        rw [Go.WideShapes.add_plain] at hc
        rw [withLotsB, if_neg (by omega), Nat.add_sub_cancel_left] at hc
        show wr.cell? ⟨gb, (n + 600 - 600 + q) * 1 + 0, none⟩ = some (.int .u8 (lotN q % 256))
        rw [← hc]
        congr 2
        all_goals omega
      have hsep := hFm.sep gb rfl
      have hput := hRm.put (i := 9) (v := v5) (x := ⟨gb, n + 600, cap⟩) (by omega) hmk hgl (fun h => hsep (.inl h)) ((Below.refl _ _).alloc (Nat.le_refl _) _) ho5 hg5 hn5 hl3
      obtain ⟨q5, e5, hv5⟩ := ownsRow_slice ho5
      obtain ⟨x3, y3, z3⟩ : w5.cell? ⟨R.rb, 9, none⟩ = some (R.F 9) ∧ w5.frozen? ⟨R.rb, 9, none⟩ = false ∧ R.rb < w5.heap.size := by
        have h := (hRm.box.below ((Below.refl _ _).alloc (Nat.le_refl _) (.cells #[.slice (some ⟨gb, 0, none⟩) (n + 600) cap] 29)))
        have h2 := h.kept (hg5.block _ h.lt fun e => hRm.off 9 (by omega) e.symm)
        exact ⟨by have := h2.cell 9; simpa using this, h2.frozen 9, h2.lt⟩
      subst hv5
      have HP : Hid (BPost base w R n f (.returned (.slice (some ⟨gb, 0, none⟩) n (n + 600))) (w5.setCell ⟨R.rb, 9, none⟩ (.slice q5 ((R.L 9).length + 1) e5))) :=
        byts_post hgB hgl hFm hBm HI.out.fit hput hn (by omega) rfl
      clear hFm hRm hBm hmk hput ho5 hg5 hn5 hrow3 HX
      go_wp2
      go_ret
      exact HP.out
end Go.Proofs.Ytneomdiabcpemaa
