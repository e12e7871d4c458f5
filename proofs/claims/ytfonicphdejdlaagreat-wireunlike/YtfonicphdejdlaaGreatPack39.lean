import Derived.Test.YtfonicphdejdlaaGreatPack38
import Derived.Test.YtfonicphdejdlaaGreatPack37
namespace Go.Proofs.YtfonicphdejdlaaGreat
open Go.RowKit
set_option maxRecDepth 8000

/-- a thing is read, or an error is told: what the kinds' statement wants of it -/
def KGet (bad : Prop) (W : World) (x : Ending) (w' : World) : Prop := ∃ (cT : Array Value) (e : Int), x = .returned (.tuple #[.agg cT, .int .i64 e]) ∧ cT.size = 30 ∧ cT.all (·.oneCell') = true ∧ Below W.heap.size W w' ∧ (bad → e = 41)
theorem kgetSeg (w : World) (S : Nat → Prop) (p : Option Addr) (c : Nat) (B : List Int) (hB : Byts w S p B.length c (fun j => B.getD j 0)) (hS : ∀ b, S b → b < w.heap.size) (W : World) (hW : Below w.heap.size w W) :
    Calls Tryz.prog 12 #[.int .i64 3, .slice p B.length c] W fun x w' => KGet (segS B = .error 41) W x w' := by
  refine (lawgetSeg W (.slice p B.length c) (fun W t k w' => GetP segS GT.val zGT GT.In GT.Is W B t k w') (fun _ _ _ _ h => h.bel) (fun W2 hW2 => getSeg W2 S p c B (hB.kept (Nat.le_trans hW.size hW2.size) fun b _ hl => (hW2.block b (Nat.lt_of_lt_of_le hl hW.size)).trans (hW.block b hl)) (fun b hb => Nat.lt_of_lt_of_le (hS b hb) (Nat.le_trans hW.size hW2.size)))).mono ?_
  rintro x w' ⟨t, e, W1, wg, rfl, hbW, hWs, hg, hkg⟩
  have hsg := hg.bel.size
  have hsW := hbW.size
  have hb : Below W.heap.size W w' := (hbW.trans (hg.bel.mono (by omega))).trans (hkg.below (by omega) (fun k hk h => by omega))
  refine ⟨thGT 3 t, e, rfl, rfl, thGT_one _ _, hb, fun hq => ?_⟩
  exact (hg.bad 41 hq).1
theorem kgetMan (w : World) (S : Nat → Prop) (p : Option Addr) (c : Nat) (B : List Int) (hB : Byts w S p B.length c (fun j => B.getD j 0)) (hS : ∀ b, S b → b < w.heap.size) (W : World) (hW : Below w.heap.size w W) :
    Calls Tryz.prog 12 #[.int .i64 4, .slice p B.length c] W fun x w' => KGet (manS B = .error 41) W x w' := by
  refine (lawgetMan W (.slice p B.length c) (fun W t k w' => GetP manS MT.val zMT MT.In MT.Is W B t k w') (fun _ _ _ _ h => h.bel) (fun W2 hW2 => getMan W2 S p c B (hB.kept (Nat.le_trans hW.size hW2.size) fun b _ hl => (hW2.block b (Nat.lt_of_lt_of_le hl hW.size)).trans (hW.block b hl)) (fun b hb => Nat.lt_of_lt_of_le (hS b hb) (Nat.le_trans hW.size hW2.size)))).mono ?_
  rintro x w' ⟨t, e, W1, wg, rfl, hbW, hWs, hg, hkg⟩
  have hsg := hg.bel.size
  have hsW := hbW.size
  have hb : Below W.heap.size W w' := (hbW.trans (hg.bel.mono (by omega))).trans (hkg.below (by omega) (fun k hk h => by omega))
  refine ⟨thMT 4 t, e, rfl, rfl, thMT_one _ _, hb, fun hq => ?_⟩
  exact (hg.bad 41 hq).1
theorem kgetRow (w : World) (S : Nat → Prop) (p : Option Addr) (c : Nat) (B : List Int) (hB : Byts w S p B.length c (fun j => B.getD j 0)) (hS : ∀ b, S b → b < w.heap.size) (W : World) (hW : Below w.heap.size w W) :
    Calls Tryz.prog 12 #[.int .i64 5, .slice p B.length c] W fun x w' => KGet (outS B = .error 41) W x w' := by
  refine (lawgetRow W (.slice p B.length c) (fun W t k w' => GetP outS OT.val zOT OT.In (fun o y => o.num = y.1 ∧ RT.Alike y.2 o.rec_) W B t k w') (fun _ _ _ _ h => h.bel) (fun W2 hW2 => getRow W2 S p c B (hB.kept (Nat.le_trans hW.size hW2.size) fun b _ hl => (hW2.block b (Nat.lt_of_lt_of_le hl hW.size)).trans (hW.block b hl)) (fun b hb => Nat.lt_of_lt_of_le (hS b hb) (Nat.le_trans hW.size hW2.size)))).mono ?_
  rintro x w' ⟨t, e, W1, wg, rfl, hbW, hWs, hg, hkg⟩
  have hsg := hg.bel.size
  have hsW := hbW.size
  have hb : Below W.heap.size W w' := (hbW.trans (hg.bel.mono (by omega))).trans (hkg.below (by omega) (fun k hk h => by omega))
  refine ⟨thOT 5 t, e, rfl, rfl, thOT_one _ _, hb, fun hq => ?_⟩
  exact (hg.bad 41 hq).1
end Go.Proofs.YtfonicphdejdlaaGreat

namespace Go.Proofs.YtfonicphdejdlaaGreat
open Go.RowKit
set_option maxRecDepth 8000
/-- the first byte of a kind -/
def letter (k : Int) : Int := if k = 3 then 83 else if k = 4 then 77 else 79
/-- what put comes to, for the kinds' statement -/
def KPut (kind : Int) (W : World) (x : Ending) (w' : World) : Prop := ∃ (v : Value) (k : Nat) (B : List Int), x = .returned (.tuple #[v, .int .i64 (k : Int)]) ∧ Below W.heap.size W w' ∧ OwnBy W.heap.size w' v B ∧ (k = 0 → ∃ L, B = letter kind :: L) ∧ Byt B ∧ B.length ≤ 5000000
theorem only_kind (t : HI) : t.only.kind = 1 ∨ t.only.kind = 2 ∨ t.only.kind = 3 ∨ t.only.kind = 4 ∨ t.only.kind = 5 := by
  unfold HI.only
  split
  · exact Or.inr (Or.inl rfl)
  split
  · exact Or.inr (Or.inr (Or.inl rfl))
  split
  · exact Or.inr (Or.inr (Or.inr (Or.inl rfl)))
  split
  · exact Or.inr (Or.inr (Or.inr (Or.inr rfl)))
  · exact Or.inl rfl
set_option maxHeartbeats 4000000 in
theorem kinds_walk (t : HI) (w : World) (S : Nat → Prop) (hin : HI.In w S t) (hS : ∀ b, S b → b < w.heap.size)
    (HPt : ∀ W, Below w.heap.size w W → 3 ≤ t.only.kind → Calls Tryz.prog 11 #[.agg t.only.cells] W fun x w' => KPut t.only.kind W x w') : Calls Tryz.prog 3 #[.agg t.cells] w fun x w' => x = .returned (.bool true) ∧ Below w.heap.size w w' := by
  have ha : Below w.heap.size w (w.alloc (.cells t.cells 45)) := (Below.refl _ _).alloc (Nat.le_refl _) _
  have H := fun W => known_any W
  have HBx := hid (Box.new w t.cells 45)
  have HA := hid ha
  have HIn := hid hin
  have HS := hid hS
  have HSz := hid (HI.size t)
  have HPut := hid HPt
  have HM : Hid (∀ W, Below w.heap.size w W → Calls Tryz.prog 9 #[.agg t.cells] W fun x w' => ∃ b, x = .returned (.bool b) ∧ Below W.heap.size W w') := fun W hW => small_any t W S (hin.below hW) (fun b hb => Nat.lt_of_lt_of_le (hS b hb) hW.size)
  have HO := hid (fun W => only_any t W)
  obtain ⟨u, hu⟩ : ∃ u, u = t.only := ⟨_, rfl⟩
  have hk5 := only_kind t
  rw [← hu] at HO HPut hk5
  clear ha hin hS HPt
  obtain ⟨cT, hcT⟩ : ∃ cT, cT = t.cells := ⟨_, rfl⟩
  rw [← hcT] at HBx HA HSz HM HO ⊢
  clear hcT hu
  have HK5 := hid hk5
  clear hk5
  go_enter Tryz.func3, Tryz.ntmps3
  go_wp2_with fail
  refine (H _).mono ?_
  rintro x w1 ⟨rfl, hb1⟩
  have hx1 := HBx.out.below hb1
  have HX1 := hid hx1
  have HB1 := hid (HA.out.trans (hb1.mono HA.out.size))
  clear H hb1 hx1
  go_wp2_with (refine wpList_load_row rfl 45 (.tmp 1) rfl w.heap.size rfl 45 cT (0, 0) _ HX1.out Tryz.underlying45 rfl (by rw [info45, HSz.out]) ?_)
  refine (HM.out _ HB1.out).mono ?_
  rintro x w2 ⟨bv, rfl, hb2⟩
  have HX2 := hid (HX1.out.below hb2)
  have HB2 := hid (HB1.out.trans (hb2.mono HB1.out.size))
  clear hb2 HM
  cases bv
  · go_wp2
    go_ret
    exact ⟨rfl, HB2.out⟩
  go_wp2_with (refine wpList_load_row rfl 45 (.tmp 1) rfl w.heap.size rfl 45 cT (0, 0) _ HX2.out Tryz.underlying45 rfl (by rw [info45, HSz.out]) ?_)
  refine (HO.out _).mono ?_
  rintro x w3 ⟨rfl, hb3⟩
  have HX3 := hid (HX2.out.below hb3)
  have HB3 := hid (HB2.out.trans (hb3.mono HB2.out.size))
  clear hb3 HO
  have HU0 : Hid (u.cells[0]? = some (.int .i64 u.kind)) := rfl
  have HUs := hid (HI.size u)
  have HU1 := hid (HI.one u)
  obtain ⟨cU, hcU⟩ : ∃ cU, cU = u.cells := ⟨_, rfl⟩
  rw [← hcU] at HUs HU1 HPut HU0 ⊢
  clear hcU
  go_wp2_with (refine wpList_store_any rfl 45 (.tmp 1) (.tmp 14) rfl w.heap.size cU rfl rfl 45 cT HX3.out (by rw [info45, HUs.out]) (by rw [HSz.out, HUs.out]) HU1.out ?_)
  intro w4 ht4 hk4
  have c0 := (ht4.cell 0).trans HU0.out
  have HT4 := hid ht4
  have HB4 := hid (HB3.out.trans (hk4.below HB3.out.size (fun b hb h => by omega)))
  clear ht4 hk4
  by_cases hk : u.kind < 3
  · go_wp2
    go_ret
    exact ⟨rfl, HB4.out⟩
  have HP := hid (HPut.out _ HB4.out (by omega))
  clear HPut
  go_wp2_with (refine wpList_load_row rfl 45 (.tmp 1) rfl w.heap.size rfl 45 cU (0, 0) _ HT4.out Tryz.underlying45 rfl (by rw [info45, HUs.out]) ?_)
  refine HP.out.mono ?_
  rintro x w5 ⟨v5, k5, B, rfl, hb5, ho5, hL5, hBy, hBl⟩
  obtain ⟨p5, c5, rfl, hy5⟩ := ho5.byts hBy (by omega)
  have HY := hid hy5
  have HT5 := hid (HT4.out.below hb5)
  have HB5 := hid (HB4.out.trans (hb5.mono HB4.out.size))
  have HL := hid hL5
  have HG3 : Hid (∀ W, Below w5.heap.size w5 W → Calls Tryz.prog 12 #[.int .i64 3, .slice p5 B.length c5] W fun x w' => KGet (segS B = .error 41) W x w') := fun W hW => kgetSeg w5 (fun b => b < w5.heap.size) p5 c5 B (hy5.mono fun b _ hl => hl) (fun b hb => hb) W hW
  have HG4 : Hid (∀ W, Below w5.heap.size w5 W → Calls Tryz.prog 12 #[.int .i64 4, .slice p5 B.length c5] W fun x w' => KGet (manS B = .error 41) W x w') := fun W hW => kgetMan w5 (fun b => b < w5.heap.size) p5 c5 B (hy5.mono fun b _ hl => hl) (fun b hb => hb) W hW
  have HG5 : Hid (∀ W, Below w5.heap.size w5 W → Calls Tryz.prog 12 #[.int .i64 5, .slice p5 B.length c5] W fun x w' => KGet (outS B = .error 41) W x w') := fun W hW => kgetRow w5 (fun b => b < w5.heap.size) p5 c5 B (hy5.mono fun b _ hl => hl) (fun b hb => hb) W hW
  clear hb5 ho5 hL5 hBy hBl hy5 HP
  have HGs : Hid (∀ (j : Nat) (W : World), j < 3 → Below w5.heap.size w5 W → Calls Tryz.prog 12 #[.int .i64 (3 + (j : Int)), .slice p5 B.length c5] W fun x w' => KGet (k5 = 0 ∧ u.kind ≠ 3 + (j : Int)) W x w') := by
    intro j W hj hW
    have h5 := HK5.out
    have hlet : k5 = 0 → ∀ m : Int, (m = 3 ∨ m = 4 ∨ m = 5) → u.kind ≠ m → ∃ y L, B = y :: L ∧ y ≠ letter m := by
      intro h0 m hm hne
      obtain ⟨L, hB⟩ := HL.out h0
      refine ⟨_, L, hB, ?_⟩
      rcases h5 with h | h | h | h | h <;> rcases hm with rfl | rfl | rfl <;> rw [h] at hne ⊢ <;> first | omega | decide | exact absurd rfl hne
    rcases (by omega : j = 0 ∨ j = 1 ∨ j = 2) with rfl | rfl | rfl
    · refine (HG3.out W hW).mono ?_
      rintro x w' ⟨cV, e, h1, h2, h3, h4, h6⟩
      refine ⟨cV, e, h1, h2, h3, h4, fun hb => h6 ?_⟩
      obtain ⟨y, L, hB, hy⟩ := hlet hb.1 3 (by omega) hb.2
      rw [hB]
      exact seg_bad hy
    · refine (HG4.out W hW).mono ?_
      rintro x w' ⟨cV, e, h1, h2, h3, h4, h6⟩
      refine ⟨cV, e, h1, h2, h3, h4, fun hb => h6 ?_⟩
      obtain ⟨y, L, hB, hy⟩ := hlet hb.1 4 (by omega) hb.2
      rw [hB]
      exact man_bad hy
    · refine (HG5.out W hW).mono ?_
      rintro x w' ⟨cV, e, h1, h2, h3, h4, h6⟩
      refine ⟨cV, e, h1, h2, h3, h4, fun hb => h6 ?_⟩
      obtain ⟨y, L, hB, hy⟩ := hlet hb.1 5 (by omega) hb.2
      rw [hB]
      exact out_bad hy
  clear HG3 HG4 HG5 HL HY
  obtain ⟨nB, hnB⟩ : ∃ nB, nB = B.length := ⟨_, rfl⟩
  rw [← hnB] at HGs ⊢
  clear hnB
  go_wp2_with fail
  go_loopw [5] (fun x wr => ∃ j : Nat, j ≤ 3 ∧ x = .int .i64 (3 + (j : Int)) ∧ Below w5.heap.size w5 wr) (fun x _ => 6 - (intOf x).toNat)
  case atStart => exact ⟨0, Nat.zero_le _, rfl, Below.refl _ _⟩
  case round =>
    obtain ⟨j, hj, rfl, hbel⟩ := hrel
    by_cases hlt : j < 3
    · have hlt' : 3 + (j : Int) ≤ 5 := by omega
      have HC := hid (HGs.out j wr hlt hbel)
      have HBw := hid hbel
      clear hbel
      go_wp2_with fail
      refine HC.out.mono ?_
      rintro x w6 ⟨cV, e6, rfl, hs6, h16, hb6, hq6⟩
      have HB6 := hid (HBw.out.trans (hb6.mono HBw.out.size))
      have HZ6 := hid (Box.new w6 zC 45)
      have HS6 := hid hs6
      have H16 := hid h16
      have HQ := hid hq6
      clear hb6 hq6 HC hs6 h16
      go_wp2_with (refine wpList_store_any rfl 45 (.tmp 6) (.tmp 31) rfl w6.heap.size cV rfl rfl 45 zC HZ6.out (by rw [info45, HS6.out]) (by rw [HS6.out]; rfl) H16.out ?_)
      intro w7 ht7 hk7
      have hb7 : Below w6.heap.size w6 w7 := ((Below.refl _ _).alloc (Nat.le_refl _) _).trans (hk7.below (by simp) (fun k hk h => by omega))
      have HB7 := hid (HB6.out.trans (hb7.mono HB6.out.size))
      have c7 := ((HT5.out.below HB7.out).cell 0).trans HU0.out
      clear ht7 hk7 hb7
      cases z0 : ((k5 : Int) == 0)
      · go_wp2
        go_roundw
        case rel => exact ⟨j + 1, by omega, by go_num, HB7.out⟩
        case measure => simp [intOf]; omega
      · cases z1 : ((3 + (j : Int)) != u.kind)
        · go_wp2
          go_roundw
          case rel => exact ⟨j + 1, by omega, by go_num, HB7.out⟩
          case measure => simp [intOf]; omega
        · have e41 : e6 = 41 := HQ.out ⟨by simpa using z0, fun h => by rw [h] at z1; simp at z1⟩
          subst e41
          go_wp2
          go_roundw
          case rel => exact ⟨j + 1, by omega, by go_num, HB7.out⟩
          case measure => simp [intOf]; omega
    · obtain rfl : j = 3 := by omega
      have HBw := hid (HB5.out.trans (hbel.mono HB5.out.size))
      clear hbel
      go_wp2
      go_ret
      exact ⟨rfl, HBw.out⟩
end Go.Proofs.YtfonicphdejdlaaGreat

namespace Go.Proofs.YtfonicphdejdlaaGreat
open Go.RowKit
set_option maxRecDepth 8000
theorem enc_byt : ∀ t : VT, Val t → ∀ x ∈ encB t, 0 ≤ x ∧ x < 256 := by
  intro t
  induction t with
  | nil => intro h; exact h.elim
  | mk k i s n p c f ih =>
    intro h x hx
    obtain ⟨⟨h1, h2, h3, h4, h5⟩, hv⟩ := h
    obtain ⟨⟨k0, k3⟩, _⟩ := fit_facts h1
    rw [encB_eq] at hx
    rcases List.mem_cons.1 hx with rfl | hx
    · omega
    · split at hx
      · have key : ∀ u : Nat, ∀ y ∈ grpB u, 0 ≤ y ∧ y < 256 := by
          intro u
          induction u using Nat.strongRecOn with
          | ind u ihu =>
            intro y hy
            by_cases hu : u < 128
            · rw [grpB_small hu] at hy; simp at hy; omega
            · rw [grpB_great hu] at hy
              rcases List.mem_cons.1 hy with rfl | hy
              · omega
              · exact ihu (u / 128) (by omega) y hy
        exact key _ x hx
      · split at hx
        · rcases List.mem_cons.1 hx with rfl | hx
          · omega
          · unfold txtB at hx
            obtain ⟨b, _, rfl⟩ := List.mem_map.1 hx
            have := b.toNat_lt
            omega
        · split at hx
          · rcases List.mem_cons.1 hx with rfl | hx
            · omega
            · obtain ⟨j, hj, hx⟩ := List.mem_flatMap.1 hx
              exact ih j (hv j (List.mem_range.1 hj)) x hx
          · simp at hx
/-- bytes of the call's own, as bytes to read -/
theorem byt_app {A B : List Int} (h1 : Byt A) (h2 : Byt B) : Byt (A ++ B) := fun x hx => (List.mem_append.1 hx).elim (h1 x) (h2 x)
theorem byt_cons {a : Int} {B : List Int} (h0 : 0 ≤ a) (h1 : a < 256) (h2 : Byt B) : Byt (a :: B) := fun x hx => (List.mem_cons.1 hx).elim (fun h => by rw [h]; exact ⟨h0, h1⟩) (h2 x)
theorem byt_grp : ∀ u : Nat, Byt (grpB u) := by
  intro u
  induction u using Nat.strongRecOn with
  | ind u ihu =>
    intro y hy
    by_cases hu : u < 128
    · rw [grpB_small hu] at hy; simp at hy; omega
    · rw [grpB_great hu] at hy
      rcases List.mem_cons.1 hy with rfl | hy
      · omega
      · exact ihu (u / 128) (by omega) y hy
theorem byt_word (u : Nat) : Byt (wordB u) := by
  intro x hx
  simp only [wordB, List.mem_cons, List.not_mem_nil, or_false] at hx
  rcases hx with rfl | rfl | rfl | rfl <;> omega
theorem byt_txt (s : ByteArray) : Byt (txtB s) := by
  intro x hx
  unfold txtB at hx
  obtain ⟨b, _, rfl⟩ := List.mem_map.1 hx
  have := b.toNat_lt
  omega
theorem byt_key (s : ByteArray) : Byt (keyB s) := byt_app (byt_grp _) (byt_txt s)
theorem byt_list {α : Type} {enc : α → List Int} {n : Nat} {f : Nat → α} (h : ∀ j, j < n → Byt (enc (f j))) : Byt (listB enc n f) := by
  refine byt_app (byt_grp _) fun x hx => ?_
  obtain ⟨j, hj, hx⟩ := List.mem_flatMap.1 hx
  exact h j (List.mem_range.1 hj) x hx
theorem byt_val {w : World} {S : Nat → Prop} {t : VT} (h : VT.In w S t) : Byt (valB t) := enc_byt _ (clean_val h)
theorem byt_rec {w : World} {S : Nat → Prop} {r : RT} (h : RT.In w S r) : Byt (recB r) := byt_app (byt_key _) (byt_app (byt_val h.v) (byt_list fun _ _ => byt_grp _))
theorem byt_cell {w : World} {S : Nat → Prop} {t : VT} (h : VT.In w S t) : Byt (cellB t) := byt_app (byt_key _) (byt_list fun j hj => byt_val ((cell_vals h).each j hj))
theorem byt_state {w : World} {S : Nat → Prop} {s : ST} (h : ST.In w S s) : Byt (stateB s) := byt_app (byt_grp _) (byt_list fun j hj => byt_cell (h.each j hj))
theorem byt_delta {w : World} {S : Nat → Prop} {d : DT} (h : DT.In w S d) : Byt (deltaB d) := byt_app (byt_grp _) (byt_app (byt_list fun j hj => byt_cell (h.set.each j hj)) (byt_list fun _ _ => byt_key _))
theorem byt_recs {w : World} {S : Nat → Prop} {l : LT RT} (h : LT.In elRec w S l) : Byt (recsB l) := byt_list fun j hj => byt_rec (h.each j hj)
theorem byt_man (m : MT) : Byt (manB m) := byt_cons (by decide) (by decide) (byt_app (byt_grp _) (byt_app (byt_word _) (byt_list fun _ _ => byt_app (byt_grp _) (byt_word _))))
theorem byt_out {w : World} {S : Nat → Prop} {o : OT} (h : RT.In w S o.rec_) : Byt (outB o) := byt_cons (by decide) (by decide) (byt_app (byt_grp _) (byt_rec h))
theorem byt_seg {w : World} {S : Nat → Prop} {g : GT} (h : GT.In w S g) : Byt (segB g) := by
  refine byt_cons (by decide) (by decide) (byt_app (byt_grp _) (byt_app (byt_grp _) (byt_app (byt_grp _) (byt_app ?_ (byt_app (byt_list fun j hj => byt_recs (h.logs.each j hj)) (byt_recs h.pend))))))
  split
  · exact byt_state h.st.i
  · exact byt_app (byt_word _) (byt_delta h.d)
theorem grp_len10 {u : Nat} (h : u ≤ 1073741824) : (grpB u).length ≤ 10 := grpB_len 9 u (Nat.lt_of_le_of_lt h (by decide))
theorem seg_len {w : World} {S : Nat → Prop} {g : GT} (h : GT.In w S g) (hf : FG g) : (segB g).length ≤ 5000000 := by
  have hv := vg_of hf
  have h1 := grp_len10 (u := g.id) (by have := h.id; omega)
  have h2 := grp_len10 (u := g.task) (by have := h.task; omega)
  have h3 := grp_len10 (u := g.base) (by have := h.base; omega)
  have h4 := logs_len h.logs hv.logs
  have h5 := recsB_len h.pend hv.pend
  have h6 : (if g.base = 0 then stateB g.st else wordB g.sum ++ deltaB g.d).length ≤ 500004 := by
    split
    · rename_i h0
      have := stateB_len (ST.toLT h.st.i h.st.nil) (hv.st h0)
      omega
    · rename_i h0
      have a := deltaB_len h.d (hv.d h0)
      have b := wordB_len g.sum
      rw [List.length_append]
      omega
  unfold segB
  simp only [List.length_cons, List.length_append]
  omega
theorem man_len {m : MT} (h : VM m) : (manB m).length ≤ 5000000 := by
  have h1 := grp_len10 (u := m.id) (by have := h.id; omega)
  have h2 := wordB_len m.sum
  have h3 := files_len h.rows h.n
  unfold manB
  simp only [List.length_cons, List.length_append]
  omega
theorem out_len {w : World} {S : Nat → Prop} {o : OT} (h : RT.In w S o.rec_) (hn : o.num ≤ 1073741824) (hr : chkRec o.rec_ = 0) : (outB o).length ≤ 5000000 := by
  have h1 := grp_len10 hn
  have h2 := recB_len h (vr_of hr)
  unfold outB
  simp only [List.length_cons, List.length_append]
  omega

theorem kput_of {kind : Int} {k : Nat} {B : List Int} {W : World} {x : Ending} {w' : World} (h : PutR k B W x w') (hB : k = 0 → (∃ L, B = letter kind :: L) ∧ Byt B ∧ B.length ≤ 5000000) : KPut kind W x w' := by
  by_cases h0 : k = 0
  · obtain ⟨v, e, ho, hb⟩ := h.1 h0
    obtain ⟨h1, h2, h3⟩ := hB h0
    exact ⟨v, k, B, by rw [e, h0]; rfl, hb, ho, fun _ => h1, h2, h3⟩
  · obtain ⟨e, hb⟩ := h.2 h0
    exact ⟨_, k, [], e, hb, World.ownsRow_nil _ _ _ _, fun h => absurd h h0, fun x hx => absurd hx (by simp), by simp⟩
theorem only_put (t : HI) (w : World) (S : Nat → Prop) (hin : HI.In w S t) (hS : ∀ b, S b → b < w.heap.size) (W : World) (hW : Below w.heap.size w W) (h3 : 3 ≤ t.only.kind) : Calls Tryz.prog 11 #[.agg t.only.cells] W fun x w' => KPut t.only.kind W x w' := by
  have hi := (HI.only_in hin).below hW
  have hS2 : ∀ b, S b → b < W.heap.size := fun b hb => Nat.lt_of_lt_of_le (hS b hb) hW.size
  rcases only_kind t with h | h | h | h | h
  · omega
  · omega
  · refine (putH_3 t.only W S hi hS2 h).mono fun x w' hp => kput_of hp fun h0 => ?_
    obtain ⟨f1, f2, f3, f4⟩ := GI.to_fg hi.g h0
    have g1 := GI.to_in hi.g f2 f4
    exact ⟨⟨_, by rw [h]; rfl⟩, byt_seg g1, seg_len g1 f1⟩
  · refine (putH_4 t.only W S hi hS2 h).mono fun x w' hp => kput_of hp fun h0 => ?_
    exact ⟨⟨_, by rw [h]; rfl⟩, byt_man _, man_len (MI.to_vm hi.m hi.msum h0)⟩
  · refine (putH_5 t.only W S hi hS2 h).mono fun x w' hp => kput_of hp fun h0 => ?_
    obtain ⟨⟨f1, f2⟩, f3⟩ := chkOut_zero h0
    exact ⟨⟨_, by rw [h]; rfl⟩, byt_out (o := t.only.o.to) hi.o, out_len (o := t.only.o.to) hi.o (by show t.only.o.num.toNat ≤ _; omega) f3⟩
theorem wireKinds_walk (t : HI) (w : World) (S : Nat → Prop) (hin : HI.In w S t) (hS : ∀ b, S b → b < w.heap.size) : Calls Tryz.prog 3 #[.agg t.cells] w fun x w' => x = .returned (.bool true) ∧ Below w.heap.size w w' :=
  kinds_walk t w S hin hS fun W hW h3 => only_put t w S hin hS W hW h3
end Go.Proofs.YtfonicphdejdlaaGreat

namespace Go.Proofs.YtfonicphdejdlaaGreat
open Go.RowKit
set_option maxRecDepth 8000
/-- what put and get come to on a thing with its own kind's field alone -/
def OnlyP (u : HI) (w : World) : Prop := ∃ (k : Nat) (E : List Int), (∀ W, Below w.heap.size w W → Calls Tryz.prog 11 #[.agg u.cells] W fun x w' => PutR k E W x w') ∧
  (k = 0 → Byt E ∧ E.length ≤ 5000000 ∧ ∀ (w1 : World) (S1 : Nat → Prop) (p : Option Addr) (c : Nat) (B : List Int), Byts w1 S1 p B.length c (fun j => B.getD j 0) → (∀ b, S1 b → b < w1.heap.size) → Byt B → ∀ W, Below w1.heap.size w1 W →
    Calls Tryz.prog 12 #[.int .i64 u.kind, .slice p B.length c] W fun x w' => GetH u u.kind E B W x w')
theorem only_round (t : HI) (w : World) (S : Nat → Prop) (hin : HI.In w S t) (hS : ∀ b, S b → b < w.heap.size) : OnlyP t.only w := by
  have hi := HI.only_in hin
  have hS2 : ∀ W, Below w.heap.size w W → ∀ b, S b → b < W.heap.size := fun W hW b hb => Nat.lt_of_lt_of_le (hS b hb) hW.size
  unfold HI.only at hi ⊢
  split
  · rename_i h
    rw [if_pos h] at hi
    refine ⟨chkState t.s, stateB t.s, fun W hW => putH_2 ⟨2, nilR, t.s, nilG, nilM, nilO⟩ W S (hi.below hW) (hS2 W hW) rfl, fun h0 => ⟨byt_state hin.s.i, ?_, fun w1 S1 p c B hB hS1 hBy W hW => getH_2 t.s _ (back_state (fun j hj => hin.s.i.each j hj) h0) w1 S1 p c B hB hS1 hBy W hW⟩⟩
    have := stateB_len (ST.toLT hin.s.i hin.s.nil) (vs_of h0)
    omega
  rename_i n2
  rw [if_neg n2] at hi
  split
  · rename_i h
    rw [if_pos h] at hi
    refine ⟨chkSeg t.g, segB t.g.to, fun W hW => putH_3 ⟨3, nilR, nilS, t.g, nilM, nilO⟩ W S (hi.below hW) (hS2 W hW) rfl, fun h0 => ?_⟩
    obtain ⟨f1, f2, f3, f4⟩ := GI.to_fg hin.g h0
    have g1 := GI.to_in hin.g f2 f4
    exact ⟨byt_seg g1, seg_len g1 f1, fun w1 S1 p c B hB hS1 hBy W hW => getH_3 t.g f2 f3 _ (back_seg g1 f1) w1 S1 p c B hB hS1 hBy W hW⟩
  rename_i n3
  rw [if_neg n3] at hi
  split
  · rename_i h
    rw [if_pos h] at hi
    refine ⟨chkMan t.m, manB t.m.to, fun W hW => putH_4 ⟨4, nilR, nilS, nilG, t.m, nilO⟩ W S (hi.below hW) (hS2 W hW) rfl, fun h0 => ?_⟩
    have hv := MI.to_vm hin.m hin.msum h0
    obtain ⟨z1, z2, z3⟩ := chkMan_zero h0
    exact ⟨byt_man _, man_len hv, fun w1 S1 p c B hB hS1 hBy W hW => getH_4 t.m z1.1 (fun j hj => (z3 j hj).1) _ (back_man hv) w1 S1 p c B hB hS1 hBy W hW⟩
  rename_i n4
  rw [if_neg n4] at hi
  split
  · rename_i h
    rw [if_pos h] at hi
    refine ⟨chkOut t.o, outB t.o.to, fun W hW => putH_5 ⟨5, nilR, nilS, nilG, nilM, t.o⟩ W S (hi.below hW) (hS2 W hW) rfl, fun h0 => ?_⟩
    obtain ⟨⟨f1, f2⟩, f3⟩ := chkOut_zero h0
    have hn : t.o.to.num ≤ 1073741824 := by show t.o.num.toNat ≤ _; omega
    exact ⟨byt_out (o := t.o.to) hin.o, out_len (o := t.o.to) hin.o hn f3, fun w1 S1 p c B hB hS1 hBy W hW => getH_5 t.o f1 _ (back_row (o := t.o.to) hin.o hn f3) w1 S1 p c B hB hS1 hBy W hW⟩
  rename_i n5
  rw [if_neg n5] at hi
  refine ⟨chkRec t.r, recB t.r, fun W hW => putH_1 ⟨1, t.r, nilS, nilG, nilM, nilO⟩ W S (hi.below hW) (hS2 W hW) (by simp) (by simp) (by simp) (by simp), fun h0 => ⟨byt_rec hin.r, ?_, fun w1 S1 p c B hB hS1 hBy W hW => getH_1 t.r _ (back_rec hin.r h0) w1 S1 p c B hB hS1 hBy W hW⟩⟩
  have := recB_len hin.r (vr_of h0)
  omega
end Go.Proofs.YtfonicphdejdlaaGreat

namespace Go.Proofs.YtfonicphdejdlaaGreat
open Go.RowKit
set_option maxRecDepth 8000
theorem ra_symm {w : World} {S : Nat → Prop} {r q : RT} (h : RT.Alike r q) (hq : RT.In w S q) : RT.Alike q r := ⟨h.key.symm, h.v.symm hq.v, h.n.symm, fun j hj => (h.loop j (by rw [h.n] at hj; exact hj)).symm⟩
theorem rs_symm {w : World} {S : Nat → Prop} {r q : LT RT} (h : RecsAlike r q) (hq : LT.In elRec w S q) : RecsAlike q r := ⟨h.1.symm, fun j hj => ra_symm (w := w) (S := S) (h.2 j (by rw [← h.1]; exact hj)) (hq.each j hj)⟩
theorem ca_symm {w : World} {S : Nat → Prop} {t u : VT} (h : CAlike t u) (hu : VT.In w S u) : CAlike u t := ⟨h.text.symm, h.n.symm, fun j hj => (h.item j (by rw [← h.n]; exact hj)).symm (hu.sub hj)⟩
theorem cs_symm {w : World} {S : Nat → Prop} {l u : LT VT} (h : CellsAlike l u) (hu : LT.In elCell w S u) : CellsAlike u l := ⟨h.1.symm, fun j hj => ca_symm (w := w) (S := S) (h.2 j (by rw [← h.1]; exact hj)) (hu.each j hj)⟩
theorem sg_symm {w : World} {S : Nat → Prop} {g k : GI} (h : SgAlike g k) (hk : GI.In w S k) : SgAlike k g :=
  ⟨h.id.symm, h.task.symm, h.base.symm, h.sum.symm, h.snum.symm, h.dnum.symm, ⟨h.logs.1.symm, fun j hj => rs_symm (w := w) (S := S) (h.logs.2 j (by rw [← h.logs.1]; exact hj)) (hk.logs.each j hj)⟩, cs_symm h.st (ST.toLT hk.st.i hk.st.nil), cs_symm h.set hk.set,
    ⟨h.gone.1.symm, fun j hj => (h.gone.2 j (by rw [← h.gone.1]; exact hj)).symm⟩, rs_symm h.pend hk.pend⟩
theorem mn_symm {m k : MI} (h : MnAlike m k) : MnAlike k m := ⟨h.id.symm, h.sum.symm, h.rows.1.symm, fun j hj => (h.rows.2 j (by rw [← h.rows.1]; exact hj)).symm⟩
theorem th_symm {w : World} {S : Nat → Prop} {t u : HI} (h : ThAlike t u) (hu : HI.In w S u) : ThAlike u t :=
  ⟨ra_symm h.r hu.r, h.snum.symm, cs_symm h.s (ST.toLT hu.s.i hu.s.nil), h.onum.symm, ra_symm h.o hu.o, sg_symm h.g hu.g, mn_symm h.m⟩
/-- the first bytes of a row -/
theorem Byts.first {w : World} {S : Nat → Prop} {p : Option Addr} {c : Nat} {E : List Int} (h : Byts w S p E.length c (fun j => E.getD j 0)) (k : Nat) (hk : k ≤ E.length) : Byts w S p (E.take k).length c (fun j => (E.take k).getD j 0) := by
  have hl : (E.take k).length = k := by rw [List.length_take]; omega
  have he : ∀ j, j < k → (E.take k).getD j 0 = E.getD j 0 := fun j hj => by
    rw [List.getD_eq_getElem?_getD, List.getD_eq_getElem?_getD, List.getElem?_take_of_lt hj]
  rw [hl]
  have hnc := h.nc
  have hnn := h.nn
  refine ⟨fun hp => ?_, by omega, by omega, h.cc, fun j hj => ?_, fun hn => ?_⟩
  · obtain ⟨b, o, e, hS, hl, ha⟩ := h.at_ (by omega)
    exact ⟨b, o, e, hS, hl, fun j hj => by rw [he j hj]; exact ha j (by omega)⟩
  · show _ ≤ (E.take k).getD j 0 ∧ (E.take k).getD j 0 < _
    rw [he j hj]
    exact h.fit j (by omega)
  · have := h.nil hn
    omega
set_option maxHeartbeats 2000000 in
theorem copyBytes_any (w : World) (S : Nat → Prop) (p : Option Addr) (c : Nat) (B : List Int) (hB : Byts w S p B.length c (fun j => B.getD j 0)) :
    Calls Tryz.prog 15 #[.slice p B.length c] w fun x w' => ∃ v, x = .returned v ∧ OwnBy w.heap.size w' v B ∧ Below w.heap.size w w' := by
  obtain ⟨i0, Kd⟩ := kindB
  have HS := hid hB.src
  have hnn := hB.nn
  have hcc := hB.cc
  obtain ⟨n, hn⟩ : ∃ n, n = B.length := ⟨_, rfl⟩
  have Hn := hid hn
  rw [← hn] at HS hnn ⊢
  clear hB hn
  go_enter Tryz.func15, Tryz.ntmps15
  go_wp2_with (at_builtin; refine wpList_appS rfl (.tmp 4) (.tmp 5) 49 5 i0 _ 1 1 Kd rfl w.heap.size (.slice none 0 0) 0 [] rfl (World.ownsRow_nil _ _ _ _) p n c ((List.range n).map fun j => .int .u8 (B.getD j 0)) rfl HS.out (oneCell_byts n _) (by omega) (by omega) (Nat.le_refl _) ?_)
  intro v' w' ho hg hn2
  have hb : Below w.heap.size w w' := ⟨hg.os, hg.tape, hg.output, hg.size, fun k hk => hg.block k hk (by simp [Value.ownBlock])⟩
  have hO : OwnBy w.heap.size w' v' B := by
    unfold OwnBy
    have e : B.map (Value.int .u8) = (List.range n).map fun j => .int .u8 (B.getD j 0) := by
      rw [Hn.out]
      apply List.ext_getElem
      · simp
      · intro j h1 h2
        have hj : j < B.length := by simpa using h1
        simp [List.getD_eq_getElem?_getD, List.getElem?_eq_getElem hj]
    rw [e, ← Hn.out]
    simpa using ho
  have HO := hid (And.intro hO hb)
  clear ho hg hn2 hb hO HS
  go_wp2
  go_ret
  exact ⟨_, rfl, HO.out.1, HO.out.2⟩
end Go.Proofs.YtfonicphdejdlaaGreat
