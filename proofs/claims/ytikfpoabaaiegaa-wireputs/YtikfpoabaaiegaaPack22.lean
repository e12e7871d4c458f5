import Derived.Test.YtikfpoabaaiegaaWxE
import Derived.Test.YtikfpoabaaiegaaPack0
import Derived.Test.YtikfpoabaaiegaaPack1
import Derived.Test.YtikfpoabaaiegaaPack3
namespace Go.Proofs.Ytikfpoabaaiegaa
open Go.RowKit
set_option maxRecDepth 8000

/-- what a Put call comes to -/
def PutR (k : Nat) (B : List Int) (w : World) (x : Ending) (w' : World) : Prop := (k = 0 → PutP B w x w') ∧ (k ≠ 0 → PutE k w x w')
theorem ne_bool {k : Nat} (h : k ≠ 0) : ((k : Int) != 0) = true := by simpa using h
theorem putRec_gen (r : RT) (w : World) (S : Nat → Prop) (hin : RT.In w S r) (hS : ∀ b, S b → b < w.heap.size) : Calls Try.prog 23 #[r.val] w fun x w' => PutR (chkRec r) (recB r) w x w' := by
  by_cases h : chkRec r = 0
  · exact (putRec_any r w S hin h hS).mono fun _ _ hp => ⟨fun _ => hp, fun h2 => absurd h h2⟩
  · exact (putRec_bad r w S hin hS (ne_bool h)).mono fun _ _ hp => ⟨fun h2 => absurd h2 h, fun _ => hp⟩
theorem putSt_gen (s : ST) (w : World) (S : Nat → Prop) (hin : ST.In2 w S s) (hS : ∀ b, S b → b < w.heap.size) : Calls Try.prog 18 #[s.val] w fun x w' => PutR (chkState s) (stateB s) w x w' := by
  by_cases h : chkState s = 0
  · exact (putSt_any s w S hin h hS).mono fun _ _ hp => ⟨fun _ => hp, fun h2 => absurd h h2⟩
  · exact (putSt_bad s w S hin hS (ne_bool h)).mono fun _ _ hp => ⟨fun h2 => absurd h2 h, fun _ => hp⟩
def OI.to (o : OI) : OT := ⟨o.num.toNat, o.rec_⟩
theorem chkOut_zero {o : OI} (h : chkOut o = 0) : (0 ≤ o.num ∧ o.num ≤ 1073741824) ∧ chkRec o.rec_ = 0 := by
  unfold chkOut at h
  split at h
  · rename_i h1; exact ⟨h1, h⟩
  · cases h
theorem OI.to_val {o : OI} (h : 0 ≤ o.num) : o.to.val = o.val := by
  unfold OI.to OT.val OI.val
  simp only [Int.toNat_of_nonneg h]
theorem putRow_gen (o : OI) (w : World) (S : Nat → Prop) (hin : RT.In w S o.rec_) (hS : ∀ b, S b → b < w.heap.size) : Calls Try.prog 22 #[o.val] w fun x w' => PutR (chkOut o) (outB o.to) w x w' := by
  by_cases h : chkOut o = 0
  · obtain ⟨⟨h1, h2⟩, h3⟩ := chkOut_zero h
    rw [← OI.to_val h1]
    exact (putRow_any o.to w S hin (by show o.num.toNat ≤ _; omega) h3 hS).mono fun _ _ hp => ⟨fun _ => hp, fun h2 => absurd h h2⟩
  · exact (putRow_bad o w S hin hS (ne_bool h)).mono fun _ _ hp => ⟨fun h2 => absurd h2 h, fun _ => hp⟩
def MI.to (m : MI) : MT := ⟨m.id.toNat, m.sum, ⟨m.rows.p, m.rows.n, m.rows.c, fun j => ((m.rows.item j).1.toNat, (m.rows.item j).2)⟩⟩
theorem chkMan_zero {m : MI} (h : chkMan m = 0) : (0 ≤ m.id ∧ m.id ≤ 9999) ∧ m.rows.n ≤ 12 ∧ ∀ j, j < m.rows.n → 0 ≤ (m.rows.item j).1 ∧ (m.rows.item j).1 ≤ 65536 := by
  unfold chkMan at h
  split at h
  · rename_i h1
    split at h
    · cases h
    · rename_i h2
      refine ⟨h1, by omega, fun j hj => ?_⟩
      have h3 := firstC_all _ h j hj
      unfold chkSize at h3
      split at h3
      · rename_i h4; exact h4
      · cases h3
  · cases h
theorem MI.to_val {m : MI} (h : 0 ≤ m.id) : m.to.val = m.val := by
  unfold MI.to MT.val MI.val
  simp only [Int.toNat_of_nonneg h]
theorem MI.to_in {m : MI} {w : World} {S : Nat → Prop} (h : LT.In elRowI w S m.rows) (hs : ∀ j, j < m.rows.n → 0 ≤ (m.rows.item j).1 ∧ (m.rows.item j).1 ≤ 65536) : LT.In elRow w S m.to.rows := by
  refine ⟨fun hn => ?_, fun j hj => ?_, h.nc, h.nn, h.cc, h.nil⟩
  · obtain ⟨b, o, e, hS, hl, ha⟩ := h.at_ hn
    refine ⟨b, o, e, hS, hl, fun j hj r u hu => ?_⟩
    refine ha j hj r u ?_
    have e1 : elRow.cells (m.to.rows.item j) = elRowI.cells (m.rows.item j) := by
      show [Value.int .i64 (((m.rows.item j).1.toNat : Nat) : Int), Value.int .u32 (((m.rows.item j).2 : Nat) : Int)] = [Value.int .i64 (m.rows.item j).1, Value.int .u32 (((m.rows.item j).2 : Nat) : Int)]
      rw [Int.toNat_of_nonneg (hs j hj).1]
    rw [← e1]
    exact hu
  · have h1 := h.each j hj
    have h2 := hs j hj
    refine ⟨?_, h1.2⟩
    show (m.rows.item j).1.toNat ≤ _
    omega
theorem MI.to_vm {m : MI} {w : World} {S : Nat → Prop} (h : LT.In elRowI w S m.rows) (hsum : m.sum < 4294967296) (hc : chkMan m = 0) : VM m.to := by
  obtain ⟨h1, h2, h3⟩ := chkMan_zero hc
  refine ⟨by show m.id.toNat ≤ _; omega, hsum, h2, fun j hj => ⟨?_, (h.each j hj).2⟩⟩
  have := h3 j hj
  show (m.rows.item j).1.toNat ≤ _
  omega
theorem putMan_gen (m : MI) (w : World) (S : Nat → Prop) (hin : LT.In elRowI w S m.rows) (hsum : m.sum < 4294967296) (hS : ∀ b, S b → b < w.heap.size) : Calls Try.prog 21 #[m.val] w fun x w' => PutR (chkMan m) (manB m.to) w x w' := by
  by_cases h : chkMan m = 0
  · obtain ⟨h1, h2, h3⟩ := chkMan_zero h
    rw [← MI.to_val h1.1]
    exact (putMan_any m.to w S (MI.to_in hin h3) (MI.to_vm hin hsum h) hS).mono fun _ _ hp => ⟨fun _ => hp, fun h2 => absurd h h2⟩
  · exact (putMan_bad m w S hin hS (ne_bool h)).mono fun _ _ hp => ⟨fun h2 => absurd h2 h, fun _ => hp⟩
def GI.to (g : GI) : GT := ⟨g.id.toNat, g.task.toNat, g.base.toNat, g.sum, g.st, ⟨g.dnum.toNat, g.set, g.gone⟩, g.logs, g.pend⟩
theorem chkGone_zero {l : LT ByteArray} (h : chkGone l = 0) : l.n ≤ 64 ∧ Rises l := by
  unfold chkGone at h
  split at h
  · cases h
  rename_i h1
  refine ⟨by omega, fun j hj => ?_⟩
  have h3 := firstC_all _ h j hj
  unfold chkGo at h3
  split at h3
  · cases h3
  rename_i h4
  split at h3
  · cases h3
  rename_i h5
  refine ⟨by omega, fun h0 => ?_⟩
  cases hb : Op.bytesLess (l.item (j - 1)).toList (l.item j).toList
  · exact absurd ⟨h0, hb⟩ h5
  · rfl
theorem chkRecs_zero {l : LT RT} (h : chkRecs l = 0) : l.n ≤ 256 ∧ ∀ j, j < l.n → chkRec (l.item j) = 0 := by
  unfold chkRecs at h
  split at h
  · cases h
  rename_i h1
  exact ⟨by omega, firstC_all _ h⟩
theorem chkState_num {s : ST} (h : chkState s = 0) : 0 ≤ s.num := (vs_of h).num0
theorem GI.to_fg {g : GI} {w : World} {S : Nat → Prop} (hin : GI.In w S g) (h : chkSeg g = 0) : FG g.to ∧ bnd g ∧ 0 ≤ g.dnum ∧ g.dnum ≤ 1073741824 := by
  unfold chkSeg at h
  split at h
  case isFalse => cases h
  rename_i hb
  split at h
  · cases h
  rename_i ho
  split at h
  case isFalse h1 => exact absurd h h1
  rename_i hk
  split at h
  case isFalse h1 => exact absurd h h1
  rename_i hl
  obtain ⟨p1, p2⟩ := chkRecs_zero h
  have hlg : g.logs.n ≤ 4 ∧ ∀ j, j < g.logs.n → chkRecs (g.logs.item j) = 0 := by
    unfold chkLogs at hl
    split at hl
    · cases hl
    rename_i h1
    exact ⟨by omega, firstC_all _ hl⟩
  obtain ⟨b1, b2, b3⟩ := hb
  have hof : other g = false := by simpa using ho
  by_cases h0 : g.base = 0
  · unfold other at hof
    rw [if_pos h0] at hof
    simp only [Bool.or_eq_false_iff, bne_eq_false_iff_eq, decide_eq_false_iff_not] at hof
    obtain ⟨o1, o2, o3, o4⟩ := hof
    unfold chkKept at hk
    rw [if_pos h0] at hk
    refine ⟨⟨by show g.id.toNat ≤ _; omega, by show g.task.toNat ≤ _; omega, by show g.base.toNat ≤ _; omega, hin.sum, fun _ => ⟨by show g.sum = 0; omega, by show g.dnum.toNat = 0; omega, by show g.set.n = 0; omega, by show g.gone.n = 0; omega, hk⟩, fun hne => absurd (show g.base.toNat = 0 by omega) hne, hlg.1, fun j hj => (chkRecs_zero (hlg.2 j hj)).1, fun j hj => (chkRecs_zero (hlg.2 j hj)).2, p1, p2⟩, ⟨b1, b2, b3⟩, by omega, by omega⟩
  · unfold other at hof
    rw [if_neg h0] at hof
    simp only [Bool.or_eq_false_iff, bne_eq_false_iff_eq, decide_eq_false_iff_not] at hof
    obtain ⟨o1, o2⟩ := hof
    unfold chkKept at hk
    rw [if_neg h0] at hk
    split at hk
    case isFalse h1 => exact absurd hk h1
    rename_i hd
    obtain ⟨q1, q2⟩ := chkGone_zero hk
    have hv := vs_of hd
    have n0 : 0 ≤ g.dnum := hv.num0
    have n1 : g.dnum ≤ 1073741824 := hv.num1
    refine ⟨⟨by show g.id.toNat ≤ _; omega, by show g.task.toNat ≤ _; omega, by show g.base.toNat ≤ _; omega, hin.sum, fun he => absurd (show g.base = 0 by have : g.base.toNat = 0 := he; omega) h0, fun _ => ⟨o1, by show g.st.n = 0; omega, ?_, q1, q2⟩, hlg.1, fun j hj => (chkRecs_zero (hlg.2 j hj)).1, fun j hj => (chkRecs_zero (hlg.2 j hj)).2, p1, p2⟩, ⟨b1, b2, b3⟩, n0, n1⟩
    show chkState ⟨((g.dnum.toNat : Nat) : Int), g.set.p, g.set.n, g.set.c, g.set.item⟩ = 0
    rw [Int.toNat_of_nonneg n0]
    exact hd
theorem GI.to_val {g : GI} (hb : bnd g) (h0 : 0 ≤ g.dnum) : g.to.val = g.val := by
  unfold GI.to GT.val GI.val
  simp only [Int.toNat_of_nonneg hb.1.1, Int.toNat_of_nonneg hb.2.1.1, Int.toNat_of_nonneg hb.2.2.1, Int.toNat_of_nonneg h0]
theorem GI.to_in {g : GI} {w : World} {S : Nat → Prop} (h : GI.In w S g) (hb : bnd g) (h1 : g.dnum ≤ 1073741824) : GT.In w S g.to := by
  obtain ⟨b1, b2, b3⟩ := hb
  exact ⟨by show g.id.toNat ≤ _; omega, by show g.task.toNat ≤ _; omega, by show g.base.toNat ≤ _; omega, h.sum, h.st, ⟨by show g.dnum.toNat ≤ _; omega, h.set, h.gone⟩, h.logs, h.pend⟩
theorem putSeg_gen (g : GI) (w : World) (S : Nat → Prop) (hin : GI.In w S g) (hS : ∀ b, S b → b < w.heap.size) : Calls Try.prog 20 #[g.val] w fun x w' => PutR (chkSeg g) (segB g.to) w x w' := by
  by_cases h : chkSeg g = 0
  · obtain ⟨h1, h2, h3, h4⟩ := GI.to_fg hin h
    rw [← GI.to_val h2 h3]
    exact (putSeg_any g.to w S (GI.to_in hin h2 h4) h1 hS).mono fun _ _ hp => ⟨fun _ => hp, fun h2 => absurd h h2⟩
  · exact (putSeg_bad g w S hin hS (ne_bool h)).mono fun _ _ hp => ⟨fun h2 => absurd h2 h, fun _ => hp⟩
end Go.Proofs.Ytikfpoabaaiegaa

namespace Go.Proofs.Ytikfpoabaaiegaa
open Go.RowKit
set_option maxRecDepth 8000
theorem enc_byt : ∀ t : VT, Val t → ∀ x ∈ encB t, 0 ≤ x ∧ x < 256 := by
  intro t
  induction t with
  | nil => intro h; exact h.elim
  | mk k i s n p c f ih =>
    intro h x hx
    obtain ⟨⟨h1, h2, h3, h4, h5⟩, hv⟩ := h
    obtain ⟨⟨k0, k3⟩, _⟩ := fit_facts h1
    rw [encB_eq] at hx
    rcases List.mem_cons.1 hx with rfl | hx
    · omega
    · split at hx
      · have key : ∀ u : Nat, ∀ y ∈ grpB u, 0 ≤ y ∧ y < 256 := by
          intro u
          induction u using Nat.strongRecOn with
          | ind u ihu =>
            intro y hy
            by_cases hu : u < 128
            · rw [grpB_small hu] at hy; simp at hy; omega
            · rw [grpB_great hu] at hy
              rcases List.mem_cons.1 hy with rfl | hy
              · omega
              · exact ihu (u / 128) (by omega) y hy
        exact key _ x hx
      · split at hx
        · rcases List.mem_cons.1 hx with rfl | hx
          · omega
          · unfold txtB at hx
            obtain ⟨b, _, rfl⟩ := List.mem_map.1 hx
            have := b.toNat_lt
            omega
        · split at hx
          · rcases List.mem_cons.1 hx with rfl | hx
            · omega
            · obtain ⟨j, hj, hx⟩ := List.mem_flatMap.1 hx
              exact ih j (hv j (List.mem_range.1 hj)) x hx
          · simp at hx
/-- bytes of the call's own, as bytes to read -/
theorem byt_app {A B : List Int} (h1 : Byt A) (h2 : Byt B) : Byt (A ++ B) := fun x hx => (List.mem_append.1 hx).elim (h1 x) (h2 x)
theorem byt_cons {a : Int} {B : List Int} (h0 : 0 ≤ a) (h1 : a < 256) (h2 : Byt B) : Byt (a :: B) := fun x hx => (List.mem_cons.1 hx).elim (fun h => by rw [h]; exact ⟨h0, h1⟩) (h2 x)
theorem byt_grp : ∀ u : Nat, Byt (grpB u) := by
  intro u
  induction u using Nat.strongRecOn with
  | ind u ihu =>
    intro y hy
    by_cases hu : u < 128
    · rw [grpB_small hu] at hy; simp at hy; omega
    · rw [grpB_great hu] at hy
      rcases List.mem_cons.1 hy with rfl | hy
      · omega
      · exact ihu (u / 128) (by omega) y hy
theorem byt_word (u : Nat) : Byt (wordB u) := by
  intro x hx
  simp only [wordB, List.mem_cons, List.not_mem_nil, or_false] at hx
  rcases hx with rfl | rfl | rfl | rfl <;> omega
theorem byt_txt (s : ByteArray) : Byt (txtB s) := by
  intro x hx
  unfold txtB at hx
  obtain ⟨b, _, rfl⟩ := List.mem_map.1 hx
  have := b.toNat_lt
  omega
theorem byt_key (s : ByteArray) : Byt (keyB s) := byt_app (byt_grp _) (byt_txt s)
theorem byt_list {α : Type} {enc : α → List Int} {n : Nat} {f : Nat → α} (h : ∀ j, j < n → Byt (enc (f j))) : Byt (listB enc n f) := by
  refine byt_app (byt_grp _) fun x hx => ?_
  obtain ⟨j, hj, hx⟩ := List.mem_flatMap.1 hx
  exact h j (List.mem_range.1 hj) x hx
theorem byt_val {w : World} {S : Nat → Prop} {t : VT} (h : VT.In w S t) : Byt (valB t) := enc_byt _ (clean_val h)
theorem byt_rec {w : World} {S : Nat → Prop} {r : RT} (h : RT.In w S r) : Byt (recB r) := byt_app (byt_key _) (byt_app (byt_val h.v) (byt_list fun _ _ => byt_grp _))
theorem byt_cell {w : World} {S : Nat → Prop} {t : VT} (h : VT.In w S t) : Byt (cellB t) := byt_app (byt_key _) (byt_list fun j hj => byt_val ((cell_vals h).each j hj))
theorem byt_state {w : World} {S : Nat → Prop} {s : ST} (h : ST.In w S s) : Byt (stateB s) := byt_app (byt_grp _) (byt_list fun j hj => byt_cell (h.each j hj))
theorem byt_delta {w : World} {S : Nat → Prop} {d : DT} (h : DT.In w S d) : Byt (deltaB d) := byt_app (byt_grp _) (byt_app (byt_list fun j hj => byt_cell (h.set.each j hj)) (byt_list fun _ _ => byt_key _))
theorem byt_recs {w : World} {S : Nat → Prop} {l : LT RT} (h : LT.In elRec w S l) : Byt (recsB l) := byt_list fun j hj => byt_rec (h.each j hj)
theorem byt_man (m : MT) : Byt (manB m) := byt_cons (by decide) (by decide) (byt_app (byt_grp _) (byt_app (byt_word _) (byt_list fun _ _ => byt_app (byt_grp _) (byt_word _))))
theorem byt_out {w : World} {S : Nat → Prop} {o : OT} (h : RT.In w S o.rec_) : Byt (outB o) := byt_cons (by decide) (by decide) (byt_app (byt_grp _) (byt_rec h))
theorem byt_seg {w : World} {S : Nat → Prop} {g : GT} (h : GT.In w S g) : Byt (segB g) := by
  refine byt_cons (by decide) (by decide) (byt_app (byt_grp _) (byt_app (byt_grp _) (byt_app (byt_grp _) (byt_app ?_ (byt_app (byt_list fun j hj => byt_recs (h.logs.each j hj)) (byt_recs h.pend))))))
  split
  · exact byt_state h.st.i
  · exact byt_app (byt_word _) (byt_delta h.d)
theorem grp_len10 {u : Nat} (h : u ≤ 1073741824) : (grpB u).length ≤ 10 := grpB_len 9 u (Nat.lt_of_le_of_lt h (by decide))
theorem seg_len {w : World} {S : Nat → Prop} {g : GT} (h : GT.In w S g) (hf : FG g) : (segB g).length ≤ 5000000 := by
  have hv := vg_of hf
  have h1 := grp_len10 (u := g.id) (by have := h.id; omega)
  have h2 := grp_len10 (u := g.task) (by have := h.task; omega)
  have h3 := grp_len10 (u := g.base) (by have := h.base; omega)
  have h4 := logs_len h.logs hv.logs
  have h5 := recsB_len h.pend hv.pend
  have h6 : (if g.base = 0 then stateB g.st else wordB g.sum ++ deltaB g.d).length ≤ 500004 := by
    split
    · rename_i h0
      have := stateB_len (ST.toLT h.st.i h.st.nil) (hv.st h0)
      omega
    · rename_i h0
      have a := deltaB_len h.d (hv.d h0)
      have b := wordB_len g.sum
      rw [List.length_append]
      omega
  unfold segB
  simp only [List.length_cons, List.length_append]
  omega
theorem man_len {m : MT} (h : VM m) : (manB m).length ≤ 5000000 := by
  have h1 := grp_len10 (u := m.id) (by have := h.id; omega)
  have h2 := wordB_len m.sum
  have h3 := files_len h.rows h.n
  unfold manB
  simp only [List.length_cons, List.length_append]
  omega
theorem out_len {w : World} {S : Nat → Prop} {o : OT} (h : RT.In w S o.rec_) (hn : o.num ≤ 1073741824) (hr : chkRec o.rec_ = 0) : (outB o).length ≤ 5000000 := by
  have h1 := grp_len10 hn
  have h2 := recB_len h (vr_of hr)
  unfold outB
  simp only [List.length_cons, List.length_append]
  omega
theorem OwnBy.byts {base : Nat} {w : World} {v : Value} {zs : List Int} (h : OwnBy base w v zs) (hz : Byt zs) (hl : zs.length ≤ 140737488355328) : ∃ p c, v = .slice p zs.length c ∧ Byts w (fun b => base ≤ b) p zs.length c (fun j => zs.getD j 0) := by
  have hlt := World.ownsRow.lt h
  have hce := @World.ownsRow.cells _ _ _ _ _ _ _ h
  have hfit : ∀ j, j < zs.length → 0 ≤ zs.getD j 0 ∧ zs.getD j 0 < 256 := fun j hj => hz _ (by simp [List.getD_eq_getElem?_getD, List.getElem?_eq_getElem hj])
  obtain ⟨_, ⟨hv, h0⟩ | ⟨gb, cap, cur, hv, hbg, hh, hnc, hcm, hcs, htake⟩⟩ := id h
  · refine ⟨none, 0, by rw [hv, h0], ⟨fun h1 => by omega, by omega, hl, Nat.zero_le _, hfit, fun _ => ⟨h0, rfl⟩⟩⟩
  · refine ⟨_, cap, hv, fun h1 => ⟨gb, 0, rfl, hbg, (hlt gb (by rw [hv]; rfl)).2, fun j hj => ?_⟩, hnc, hl, hcm, hfit, fun h => by cases h⟩
    have := hce (g := gb) (by rw [hv]; rfl) j (.int .u8 (zs.getD j 0)) (by simp [List.getD_eq_getElem?_getD, List.getElem?_eq_getElem hj])
    rw [Go.WideShapes.add_plain] at this
    exact this
set_option maxHeartbeats 2000000 in
theorem ySame (w : World) (S S' : Nat → Prop) (p p' : Option Addr) (c c' : Nat) (A B : List Int) (h : Byts w S p A.length c (fun j => A.getD j 0)) (h' : Byts w S' p' B.length c' (fun j => B.getD j 0)) : Calls Try.prog 8 #[.slice p A.length c, .slice p' B.length c'] w fun x w' => YesNo (A = B) x w w' := by
  by_cases hne : A.length = B.length
  case neg =>
    have hn' := int_ne hne
    have HN : Hid (¬ A = B) := fun e => hne (by rw [e])
    obtain ⟨n, hn⟩ : ∃ n, n = A.length := ⟨_, rfl⟩
    obtain ⟨m, hm⟩ : ∃ m, m = B.length := ⟨_, rfl⟩
    rw [← hn, ← hm] at hn' ⊢
    clear hne hn hm h h'
    go_enter Try.func8, Try.ntmps8
    go_wp2
    go_ret
    exact yn_no HN.out (Below.refl _ _)
  obtain ⟨n, hn⟩ : ∃ n, n = A.length := ⟨_, rfl⟩
  rw [← hne, ← hn] at h' ⊢
  rw [← hn] at h
  have H := hid h
  have H' := hid h'
  have hnn := h.nn
  have HL := hid (And.intro hn (hn.trans hne))
  clear h h' hn hne
  go_enter Try.func8, Try.ntmps8
  go_wp2_with fail
  go_loopw [5] (fun x wr => ∃ j : Nat, j ≤ n ∧ x = .int .i64 j ∧ (∀ q, q < j → A.getD q 0 = B.getD q 0) ∧ Below w.heap.size w wr) (fun x _ => n - (intOf x).toNat)
  case atStart => exact ⟨0, Nat.zero_le _, rfl, fun q hq => absurd hq (by omega), Below.refl _ _⟩
  case round =>
    obtain ⟨j, hj, rfl, hA, hbel⟩ := hrel
    have HA := hid hA
    clear hA
    by_cases hlt : j < n
    · have hlt' : (j : Int) < (n : Int) := by omega
      obtain ⟨b1, o1, hp, _, hl1, ha⟩ := H.out.at_ (by omega)
      obtain ⟨b2, o2, hp', _, hl2, ha'⟩ := H'.out.at_ (by omega)
      subst hp hp'
      have d1 := (World.cell?_of_block (a := ⟨b1, o1 + j, none⟩) (hbel.block b1 hl1)).trans (ha j hlt)
      have d2 := (World.cell?_of_block (a := ⟨b2, o2 + j, none⟩) (hbel.block b2 hl2)).trans (ha' j hlt)
      have HB := hid hbel
      clear ha ha' hbel
      obtain ⟨x1, hx1⟩ : ∃ x, x = A.getD j 0 := ⟨_, rfl⟩
      obtain ⟨x2, hx2⟩ : ∃ x, x = B.getD j 0 := ⟨_, rfl⟩
      rw [← hx1] at d1
      rw [← hx2] at d2
      by_cases hx : x1 = x2
      · have HA2 : Hid (∀ q, q < j + 1 → A.getD q 0 = B.getD q 0) := fun q hq => by
          by_cases h : q < j
          · exact HA.out q h
          · obtain rfl : q = j := by omega
            rw [← hx1, ← hx2, hx]
        subst hx
        clear hx1 hx2
        go_wp2_with fail
        go_region
        all_goals
          go_wp2
          go_roundw
          case rel => exact ⟨j + 1, by omega, by go_num, HA2.out, HB.out.drew⟩
          case measure => simp [intOf]; omega
      · have hx' := (show (x1 != x2) = true by rw [bne_iff_ne]; exact hx)
        have HN : Hid (¬ A = B) := fun e => hx (by rw [hx1, hx2, e])
        clear hx hx1 hx2
        go_wp2_with fail
        go_region
        all_goals
          go_wp2
          go_ret
          exact yn_no HN.out HB.out.drew
    · obtain rfl : j = n := by omega
      have hlt' : ¬ (j : Int) < (j : Int) := by omega
      have HB := hid hbel
      have HE : Hid (A = B) := by
        apply List.ext_getElem (HL.out.1.symm.trans HL.out.2)
        intro q h1 h2
        have := HA.out q (by rw [HL.out.1]; exact h1)
        simpa [List.getD_eq_getElem?_getD, List.getElem?_eq_getElem h1, List.getElem?_eq_getElem h2] using this
      clear hbel
      go_wp2
      go_ret
      exact yn_yes HE.out HB.out
theorem putR_any {k : Nat} {E : List Int} {W : World} {x : Ending} {w' : World} (h : PutR k E W x w') (hE : k = 0 → Byt E ∧ E.length ≤ 5000000) :
    ∃ p n c, x = .returned (.tuple #[.slice p n c, .int .i64 (k : Int)]) ∧ Below W.heap.size W w' ∧ (k = 0 → n = E.length ∧ Byts w' (fun b => W.heap.size ≤ b) p E.length c (fun j => E.getD j 0)) := by
  by_cases h0 : k = 0
  · obtain ⟨v, e, ho, hb⟩ := h.1 h0
    obtain ⟨h1, h2⟩ := hE h0
    obtain ⟨p, c, rfl, hy⟩ := ho.byts h1 (by omega)
    exact ⟨p, E.length, c, by rw [e, h0]; rfl, hb, fun _ => ⟨rfl, hy⟩⟩
  · obtain ⟨e, hb⟩ := h.2 h0
    exact ⟨none, 0, 0, e, hb, fun h => absurd h h0⟩

end Go.Proofs.Ytikfpoabaaiegaa

namespace Go.Proofs.Ytikfpoabaaiegaa
open Go.RowKit
set_option maxRecDepth 8000
theorem kindP : ∃ i, Kind 199 204 i (.agg #[.int .i64 0, .int .i64 0, .string ⟨#[]⟩, .int .i64 0]) 4 40 := by
  obtain ⟨i0, hi, hz0, hz1, hz2⟩ := info_parts (show (Try.prog.info? 204).map (fun i => (i.zero, i.size, i.bytes)) = some (some (.agg #[.int .i64 0, .int .i64 0, .string ⟨#[]⟩, .int .i64 0]), 4, 40) by kernel_rfl)
  exact ⟨i0, Try.underlying199, hi, hz0, hz1, hz2, rfl, by decide⟩
end Go.Proofs.Ytikfpoabaaiegaa
