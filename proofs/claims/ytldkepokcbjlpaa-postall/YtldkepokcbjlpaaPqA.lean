import Derived.Test.YtldkepokcbjlpaaPqB
import Derived.Test.YtldkepokcbjlpaaKsA
import Derived.Test.YtldkepokcbjlpaaPack6
namespace Go.Proofs.Ytldkepokcbjlpaa
open Go.RowKit Go.Conc
set_option maxRecDepth 60000
def Yes (w : World) (e : Ending) (w' : World) : Prop := e = .returned (.bool true) ∧ Below w.heap.size w w'
set_option maxHeartbeats 4000000 in
theorem yInts (p p2 : Option Addr) (n c c2 : Nat) (f f2 : Nat → Int) (w : World) (S R : Nat → Prop) (hl : Ints w S p n c f) (hu : Ints w R p2 n c2 f2) (ha : ∀ j, j < n → f2 j = f j) :
    Calls Try.prog 50 #[.slice p n c, .slice p2 n c2] w fun e w' => Yes w e w' := by
  have hnn := hl.nn
  have H := hid hl
  have H' := hid hu
  have HA := hid ha
  clear hl hu ha
  go_enter Try.func50, Try.ntmps50
  go_wp2_with fail
  go_loopw [5] (fun x wr => ∃ k : Nat, k ≤ n ∧ x = .int .i64 (k : Int) ∧ Below w.heap.size w wr) (fun x _ => n - (intOf x).toNat)
  case atStart => exact ⟨0, Nat.zero_le _, rfl, Below.refl _ _⟩
  case round =>
    obtain ⟨k, hk, rfl, hb⟩ := hrel
    have HB := hid hb
    by_cases hlt : k < n
    · have hlt' : (k : Int) < (n : Int) := by omega
      obtain ⟨b1, o1, hp, _, hl1, hat⟩ := H.out.at_ (by omega)
      obtain ⟨b2, o2, hp', _, hl2, hat'⟩ := H'.out.at_ (by omega)
      have ea := (World.cell?_of_block (a := ⟨b1, o1 + k, none⟩) (hb.block b1 hl1)).trans (hat k hlt)
      have eb := (World.cell?_of_block (a := ⟨b2, o2 + k, none⟩) (hb.block b2 hl2)).trans (hat' k hlt)
      rw [HA.out k hlt] at eb
      rw [hp, hp']
      clear hat hat' hb hp hp'
      go_wp2_with fail
      refine wp_region_calmD 30 (fun wx => Below wr.heap.size wr wx) [(0, true), (1, true), (2, true), (3, false), (4, true), (5, true), (6, true), (7, false), (8, true)] [] (by kernel_rfl) (by kernel_rfl) (Below.refl _ _).drew ?_
      refine wpPre_e rfl rfl (fun K1 hK1 => ?_)
      apply Exists.intro
      refine And.intro (fun wx hx => ?_) ?_
      · go_simp
        try rfl
      go_simp
      refine hK1 _ ?_
      clear hK1 K1
      refine wpPre_e rfl rfl (fun K1 hK1 => ?_)
      apply Exists.intro
      refine And.intro (fun wx hx => ?_) ?_
      · go_simp
        try rfl
      go_simp
      refine hK1 _ ?_
      clear hK1 K1
      refine wpPre_e rfl rfl (fun K1 hK1 => ?_)
      apply Exists.intro
      refine And.intro (fun wx hx => ?_) ?_
      · go_simp
        try rfl
      go_simp
      refine hK1 _ ?_
      clear hK1 K1
      refine wpPre_e rfl rfl (fun K1 hK1 => ?_)
      apply Exists.intro
      refine And.intro (fun wx hx => ?_) ?_
      · have e0 := below_fact hx rfl ea
        have e1 := below_fact hx rfl eb
        go_simp
        try rfl
      go_simp
      refine hK1 _ ?_
      clear hK1 K1
      refine wpPre_e rfl rfl (fun K1 hK1 => ?_)
      apply Exists.intro
      refine And.intro (fun wx hx => ?_) ?_
      · go_simp
        try rfl
      go_simp
      refine hK1 _ ?_
      clear hK1 K1
      refine wpPre_e rfl rfl (fun K1 hK1 => ?_)
      apply Exists.intro
      refine And.intro (fun wx hx => ?_) ?_
      · go_simp
        try rfl
      go_simp
      refine hK1 _ ?_
      clear hK1 K1
      refine wpPre_e rfl rfl (fun K1 hK1 => ?_)
      apply Exists.intro
      refine And.intro (fun wx hx => ?_) ?_
      · go_simp
        try rfl
      go_simp
      refine hK1 _ ?_
      clear hK1 K1
      refine wpPre_e rfl rfl (fun K1 hK1 => ?_)
      apply Exists.intro
      refine And.intro (fun wx hx => ?_) ?_
      · have e0 := below_fact hx rfl ea
        have e1 := below_fact hx rfl eb
        go_simp
        try rfl
      go_simp
      refine hK1 _ ?_
      clear hK1 K1
      refine wpPre_e rfl rfl (fun K1 hK1 => ?_)
      apply Exists.intro
      refine And.intro (fun wx hx => ?_) ?_
      · go_simp
        try rfl
      go_simp
      refine hK1 _ ?_
      clear hK1 K1
      refine wpPre_nil ?_
      refine wpStg_nil ?_
      go_wp2
      go_roundw
      case rel => exact ⟨k + 1, by omega, by go_num, HB.out.trans ((Below.refl wr.heap.size wr).drew.mono HB.out.size)⟩
      case measure => simp [intOf]; omega
    · have hlt' : ¬ (k : Int) < (n : Int) := by omega
      clear hb
      go_wp2
      refine bodyPost_ret (v := .bool true) (by simp [results, Try.results50, go_sem]) rfl ⟨rfl, HB.out⟩
set_option maxHeartbeats 8000000 in
theorem yRecs (l u : LT RT) (w : World) (S R : Nat → Prop) (hl : LT.In elRec w S l) (hu : LT.In elRec w R u) (ha : LAlk RT.Alike l u) :
    Calls Try.prog 38 #[.slice l.p l.n l.c, .slice u.p u.n u.c] w fun e w' => Yes w e w' := by
  have hnn := hl.nn
  have H := hid hl
  have H' := hid hu
  have HA := hid ha.item
  have hn := ha.n
  rw [hn]
  have HN := hid hn
  clear hl hu ha hn
  go_enter Try.func38, Try.ntmps38
  go_wp2_with fail
  go_loopw [5] (fun x wr => ∃ k : Nat, k ≤ l.n ∧ x = .int .i64 (k : Int) ∧ Below w.heap.size w wr) (fun x _ => l.n - (intOf x).toNat)
  case atStart => exact ⟨0, Nat.zero_le _, rfl, Below.refl _ _⟩
  case round =>
    obtain ⟨k, hk, rfl, hb⟩ := hrel
    have HB := hid hb
    by_cases hlt : k < l.n
    · have hlt' : (k : Int) < (l.n : Int) := by omega
      have hlu : k < u.n := by rw [HN.out]; exact hlt
      obtain ⟨b1, o1, hp, _, hl1, hat⟩ := H.out.at_ (by omega)
      obtain ⟨b2, o2, hp', _, hl2, hat'⟩ := H'.out.at_ (by omega)
      have hca : ∀ r v, (elRec.cells (l.item k))[r]? = some v → wr.cell? ⟨b1, o1 + k * 6 + r, none⟩ = some v := fun r v hv => (World.cell?_of_block (a := ⟨b1, o1 + k * 6 + r, none⟩) (hb.block b1 hl1)).trans (hat k hlt r v hv)
      have hcb : ∀ r v, (elRec.cells (u.item k))[r]? = some v → wr.cell? ⟨b2, o2 + k * 6 + r, none⟩ = some v := fun r v hv => (World.cell?_of_block (a := ⟨b2, o2 + k * 6 + r, none⟩) (hb.block b2 hl2)).trans (hat' k hlu r v hv)
      have a0 := hca 0 _ rfl
      have a1 := hca 1 _ rfl
      have a2 := hca 2 _ rfl
      have a3 := hca 3 _ rfl
      have a4 := hca 4 _ rfl
      have a5 := hca 5 _ rfl
      have d0 := hcb 0 _ rfl
      have d1 := hcb 1 _ rfl
      have d2 := hcb 2 _ rfl
      have d3 := hcb 3 _ rfl
      have d4 := hcb 4 _ rfl
      have d5 := hcb 5 _ rfl
      simp only [Nat.add_zero] at a0 d0
      have hak := HA.out k hlt
      rw [hak.key] at d0
      have hr1 : RT.In w S (l.item k) := H.out.each k hlt
      have hr2 : RT.In w R (u.item k) := H'.out.each k hlu
      have HIn : Hid (∀ V, Below wr.heap.size wr V → Calls Try.prog 50 #[.slice (l.item k).p (l.item k).n (l.item k).c, .slice (u.item k).p (u.item k).n (u.item k).c] V fun e w' => Yes V e w') := fun V hV => by
        have h2 := (hr2.below (hb.trans (hV.mono hb.size))).l
        rw [hak.n] at h2 ⊢
        exact yInts _ _ _ _ _ _ _ V S R (hr1.below (hb.trans (hV.mono hb.size))).l h2 (fun j hj => hak.loop j hj)
      have HVn : Hid (∀ V, Below wr.heap.size wr V → Calls Try.prog 58 #[.agg #[.int .i64 (l.item k).v.kind, .int .i64 (l.item k).v.int, .string (l.item k).v.text, .slice (l.item k).v.p (l.item k).v.n (l.item k).v.c], .agg #[.int .i64 (u.item k).v.kind, .int .i64 (u.item k).v.int, .string (u.item k).v.text, .slice (u.item k).v.p (u.item k).v.n (u.item k).v.c]] V fun e w' => YesNo (VT.Alike (l.item k).v (u.item k).v) e V w') := fun V hV => yValue _ _ V S R (hr1.below (hb.trans (hV.mono hb.size))).v (hr2.below (hb.trans (hV.mono hb.size))).v
      have HVa := hid hak.v
      rw [hp, hp']
      clear hat hat' hb hp hp' hca hcb hak hr1 hr2
      go_wp2_with fail
      refine wp_region_calmE 30 (fun wx => Below wr.heap.size wr wx) [(0, true), (1, true), (2, true), (3, true), (4, false), (5, true), (6, true), (7, true), (8, true), (9, false), (10, true), (11, true), (12, true), (13, true), (14, true), (15, true), (16, false), (17, true), (18, true), (19, true), (20, true), (21, false)] (.one 22 true [(23, true), (24, true), (25, true), (26, true), (27, true), (28, true), (29, true), (30, false), (31, true), (32, true), (33, true), (34, true), (35, false)] (.one 36 false [(37, true), (38, true)] .done)) (by kernel_rfl) (by kernel_rfl) (Below.refl _ _).drew ?_
      refine wpPre_e rfl rfl (fun K1 hK1 => ?_)
      apply Exists.intro
      refine And.intro (fun wx hx => ?_) ?_
      · go_simp
        try rfl
      go_simp
      refine hK1 _ ?_
      clear hK1 K1
      refine wpPre_e rfl rfl (fun K1 hK1 => ?_)
      apply Exists.intro
      refine And.intro (fun wx hx => ?_) ?_
      · go_simp
        try rfl
      go_simp
      refine hK1 _ ?_
      clear hK1 K1
      refine wpPre_e rfl rfl (fun K1 hK1 => ?_)
      apply Exists.intro
      refine And.intro (fun wx hx => ?_) ?_
      · go_simp
        try rfl
      go_simp
      refine hK1 _ ?_
      clear hK1 K1
      refine wpPre_e rfl rfl (fun K1 hK1 => ?_)
      apply Exists.intro
      refine And.intro (fun wx hx => ?_) ?_
      · go_simp
        try rfl
      go_simp
      refine hK1 _ ?_
      clear hK1 K1
      refine wpPre_e rfl rfl (fun K1 hK1 => ?_)
      apply Exists.intro
      refine And.intro (fun wx hx => ?_) ?_
      · have e0 := below_fact hx rfl a0
        have e1 := below_fact hx rfl a1
        have e2 := below_fact hx rfl a2
        have e3 := below_fact hx rfl a3
        have e4 := below_fact hx rfl a4
        have e5 := below_fact hx rfl a5
        have e6 := below_fact hx rfl d0
        have e7 := below_fact hx rfl d1
        have e8 := below_fact hx rfl d2
        have e9 := below_fact hx rfl d3
        have e10 := below_fact hx rfl d4
        have e11 := below_fact hx rfl d5
        go_simp
        try rfl
      go_simp
      refine hK1 _ ?_
      clear hK1 K1
      refine wpPre_e rfl rfl (fun K1 hK1 => ?_)
      apply Exists.intro
      refine And.intro (fun wx hx => ?_) ?_
      · go_simp
        try rfl
      go_simp
      refine hK1 _ ?_
      clear hK1 K1
      refine wpPre_e rfl rfl (fun K1 hK1 => ?_)
      apply Exists.intro
      refine And.intro (fun wx hx => ?_) ?_
      · go_simp
        try rfl
      go_simp
      refine hK1 _ ?_
      clear hK1 K1
      refine wpPre_e rfl rfl (fun K1 hK1 => ?_)
      apply Exists.intro
      refine And.intro (fun wx hx => ?_) ?_
      · go_simp
        try rfl
      go_simp
      refine hK1 _ ?_
      clear hK1 K1
      refine wpPre_e rfl rfl (fun K1 hK1 => ?_)
      apply Exists.intro
      refine And.intro (fun wx hx => ?_) ?_
      · go_simp
        try rfl
      go_simp
      refine hK1 _ ?_
      clear hK1 K1
      refine wpPre_e rfl rfl (fun K1 hK1 => ?_)
      apply Exists.intro
      refine And.intro (fun wx hx => ?_) ?_
      · have e0 := below_fact hx rfl a0
        have e1 := below_fact hx rfl a1
        have e2 := below_fact hx rfl a2
        have e3 := below_fact hx rfl a3
        have e4 := below_fact hx rfl a4
        have e5 := below_fact hx rfl a5
        have e6 := below_fact hx rfl d0
        have e7 := below_fact hx rfl d1
        have e8 := below_fact hx rfl d2
        have e9 := below_fact hx rfl d3
        have e10 := below_fact hx rfl d4
        have e11 := below_fact hx rfl d5
        go_simp
        try rfl
      go_simp
      refine hK1 _ ?_
      clear hK1 K1
      refine wpPre_e rfl rfl (fun K1 hK1 => ?_)
      apply Exists.intro
      refine And.intro (fun wx hx => ?_) ?_
      · go_simp
        try rfl
      go_simp
      refine hK1 _ ?_
      clear hK1 K1
      refine wpPre_e rfl rfl (fun K1 hK1 => ?_)
      apply Exists.intro
      refine And.intro (fun wx hx => ?_) ?_
      · go_simp
        try rfl
      go_simp
      refine hK1 _ ?_
      clear hK1 K1
      refine wpPre_i rfl (fun K1 hK1 => ?_)
      rw [if_pos (by go_simp)]
      apply Exists.intro
      refine And.intro (fun wx hx => ?_) ?_
      · go_simp
        try rfl
      go_simp
      refine hK1 _ ?_
      clear hK1 K1
      refine wpPre_i rfl (fun K1 hK1 => ?_)
      rw [if_pos (by go_simp)]
      apply Exists.intro
      refine And.intro (fun wx hx => ?_) ?_
      · go_simp
        try rfl
      go_simp
      refine hK1 _ ?_
      clear hK1 K1
      refine wpPre_i rfl (fun K1 hK1 => ?_)
      rw [if_pos (by go_simp)]
      apply Exists.intro
      refine And.intro (fun wx hx => ?_) ?_
      · go_simp
        try rfl
      go_simp
      refine hK1 _ ?_
      clear hK1 K1
      refine wpPre_i rfl (fun K1 hK1 => ?_)
      rw [if_pos (by go_simp)]
      apply Exists.intro
      refine And.intro (fun wx hx => ?_) ?_
      · go_simp
        try rfl
      go_simp
      refine hK1 _ ?_
      clear hK1 K1
      refine wpPre_i rfl (fun K1 hK1 => ?_)
      rw [if_pos (by go_simp)]
      apply Exists.intro
      refine And.intro (fun wx hx => ?_) ?_
      · have e0 := below_fact hx rfl a0
        have e1 := below_fact hx rfl a1
        have e2 := below_fact hx rfl a2
        have e3 := below_fact hx rfl a3
        have e4 := below_fact hx rfl a4
        have e5 := below_fact hx rfl a5
        have e6 := below_fact hx rfl d0
        have e7 := below_fact hx rfl d1
        have e8 := below_fact hx rfl d2
        have e9 := below_fact hx rfl d3
        have e10 := below_fact hx rfl d4
        have e11 := below_fact hx rfl d5
        go_simp
        try rfl
      go_simp
      refine hK1 _ ?_
      clear hK1 K1
      refine wpPre_i rfl (fun K1 hK1 => ?_)
      rw [if_pos (by go_simp)]
      apply Exists.intro
      refine And.intro (fun wx hx => ?_) ?_
      · go_simp
        try rfl
      go_simp
      refine hK1 _ ?_
      clear hK1 K1
      refine wpPre_i rfl (fun K1 hK1 => ?_)
      rw [if_pos (by go_simp)]
      apply Exists.intro
      refine And.intro (fun wx hx => ?_) ?_
      · go_simp
        try rfl
      go_simp
      refine hK1 _ ?_
      clear hK1 K1
      refine wpPre_i rfl (fun K1 hK1 => ?_)
      rw [if_pos (by go_simp)]
      apply Exists.intro
      refine And.intro (fun wx hx => ?_) ?_
      · go_simp
        try rfl
      go_simp
      refine hK1 _ ?_
      clear hK1 K1
      refine wpPre_i rfl (fun K1 hK1 => ?_)
      rw [if_pos (by go_simp)]
      apply Exists.intro
      refine And.intro (fun wx hx => ?_) ?_
      · go_simp
        try rfl
      go_simp
      refine hK1 _ ?_
      clear hK1 K1
      refine wpPre_i rfl (fun K1 hK1 => ?_)
      rw [if_pos (by go_simp)]
      apply Exists.intro
      refine And.intro (fun wx hx => ?_) ?_
      · have e0 := below_fact hx rfl a0
        have e1 := below_fact hx rfl a1
        have e2 := below_fact hx rfl a2
        have e3 := below_fact hx rfl a3
        have e4 := below_fact hx rfl a4
        have e5 := below_fact hx rfl a5
        have e6 := below_fact hx rfl d0
        have e7 := below_fact hx rfl d1
        have e8 := below_fact hx rfl d2
        have e9 := below_fact hx rfl d3
        have e10 := below_fact hx rfl d4
        have e11 := below_fact hx rfl d5
        go_simp
        try rfl
      go_simp
      refine hK1 _ ?_
      clear hK1 K1
      refine wpPre_nil ?_
      refine wpTr_e rfl (fun K1 hK1 => ?_)
      refine step_callG (by go_simp) 50 #[.tmp 33, .tmp 38] _ rfl Try.f50 Try.func50 (by kernel_rfl) rfl #[.slice (l.item k).p (l.item k).n (l.item k).c, .slice (u.item k).p (u.item k).n (u.item k).c] rfl _ (HIn.out _ (Below.refl _ _).drew) (fun e w3 h3 => ?_)
      obtain ⟨rfl, hb3⟩ := h3
      refine ⟨_, rfl, ?_⟩
      have HB3 : Hid (Below wr.heap.size wr w3) := (Below.refl wr.heap.size wr).drew.trans hb3
      clear hb3
      go_simp
      refine hK1 _ _ (fun _ => HB3.out) ?_
      clear hK1 K1
      refine wpPre_i rfl (fun K1 hK1 => ?_)
      rw [if_pos (by go_simp)]
      apply Exists.intro
      refine And.intro (fun wx hx => ?_) ?_
      · go_simp
        try rfl
      go_simp
      refine hK1 _ ?_
      clear hK1 K1
      refine wpPre_e rfl rfl (fun K1 hK1 => ?_)
      apply Exists.intro
      refine And.intro (fun wx hx => ?_) ?_
      · go_simp
        try rfl
      go_simp
      refine hK1 _ ?_
      clear hK1 K1
      refine wpPre_e rfl rfl (fun K1 hK1 => ?_)
      apply Exists.intro
      refine And.intro (fun wx hx => ?_) ?_
      · go_simp
        try rfl
      go_simp
      refine hK1 _ ?_
      clear hK1 K1
      refine wpPre_i rfl (fun K1 hK1 => ?_)
      rw [if_pos (by go_simp)]
      apply Exists.intro
      refine And.intro (fun wx hx => ?_) ?_
      · go_simp
        try rfl
      go_simp
      refine hK1 _ ?_
      clear hK1 K1
      refine wpPre_i rfl (fun K1 hK1 => ?_)
      rw [if_pos (by go_simp)]
      apply Exists.intro
      refine And.intro (fun wx hx => ?_) ?_
      · go_simp
        try rfl
      go_simp
      refine hK1 _ ?_
      clear hK1 K1
      refine wpPre_i rfl (fun K1 hK1 => ?_)
      rw [if_pos (by go_simp)]
      apply Exists.intro
      refine And.intro (fun wx hx => ?_) ?_
      · go_simp
        try rfl
      go_simp
      refine hK1 _ ?_
      clear hK1 K1
      refine wpPre_i rfl (fun K1 hK1 => ?_)
      rw [if_pos (by go_simp)]
      apply Exists.intro
      refine And.intro (fun wx hx => ?_) ?_
      · go_simp
        try rfl
      go_simp
      refine hK1 _ ?_
      clear hK1 K1
      refine wpPre_i rfl (fun K1 hK1 => ?_)
      rw [if_pos (by go_simp)]
      apply Exists.intro
      refine And.intro (fun wx hx => ?_) ?_
      · have e0 := below_fact hx rfl a0
        have e1 := below_fact hx rfl a1
        have e2 := below_fact hx rfl a2
        have e3 := below_fact hx rfl a3
        have e4 := below_fact hx rfl a4
        have e5 := below_fact hx rfl a5
        have e6 := below_fact hx rfl d0
        have e7 := below_fact hx rfl d1
        have e8 := below_fact hx rfl d2
        have e9 := below_fact hx rfl d3
        have e10 := below_fact hx rfl d4
        have e11 := below_fact hx rfl d5
        go_simp
        try rfl
      go_simp
      refine hK1 _ ?_
      clear hK1 K1
      refine wpPre_i rfl (fun K1 hK1 => ?_)
      rw [if_pos (by go_simp)]
      apply Exists.intro
      refine And.intro (fun wx hx => ?_) ?_
      · go_simp
        try rfl
      go_simp
      refine hK1 _ ?_
      clear hK1 K1
      refine wpPre_i rfl (fun K1 hK1 => ?_)
      rw [if_pos (by go_simp)]
      apply Exists.intro
      refine And.intro (fun wx hx => ?_) ?_
      · go_simp
        try rfl
      go_simp
      refine hK1 _ ?_
      clear hK1 K1
      refine wpPre_i rfl (fun K1 hK1 => ?_)
      rw [if_pos (by go_simp)]
      apply Exists.intro
      refine And.intro (fun wx hx => ?_) ?_
      · go_simp
        try rfl
      go_simp
      refine hK1 _ ?_
      clear hK1 K1
      refine wpPre_i rfl (fun K1 hK1 => ?_)
      rw [if_pos (by go_simp)]
      apply Exists.intro
      refine And.intro (fun wx hx => ?_) ?_
      · go_simp
        try rfl
      go_simp
      refine hK1 _ ?_
      clear hK1 K1
      refine wpPre_i rfl (fun K1 hK1 => ?_)
      rw [if_pos (by go_simp)]
      apply Exists.intro
      refine And.intro (fun wx hx => ?_) ?_
      · have e0 := below_fact hx rfl a0
        have e1 := below_fact hx rfl a1
        have e2 := below_fact hx rfl a2
        have e3 := below_fact hx rfl a3
        have e4 := below_fact hx rfl a4
        have e5 := below_fact hx rfl a5
        have e6 := below_fact hx rfl d0
        have e7 := below_fact hx rfl d1
        have e8 := below_fact hx rfl d2
        have e9 := below_fact hx rfl d3
        have e10 := below_fact hx rfl d4
        have e11 := below_fact hx rfl d5
        go_simp
        try rfl
      go_simp
      refine hK1 _ ?_
      clear hK1 K1
      refine wpPre_nil ?_
      refine wpTr_e rfl (fun K1 hK1 => ?_)
      refine step_callG (by go_simp) 58 #[.tmp 47, .tmp 52] _ rfl Try.f58 Try.func58 (by kernel_rfl) rfl #[.agg #[.int .i64 (l.item k).v.kind, .int .i64 (l.item k).v.int, .string (l.item k).v.text, .slice (l.item k).v.p (l.item k).v.n (l.item k).v.c], .agg #[.int .i64 (u.item k).v.kind, .int .i64 (u.item k).v.int, .string (u.item k).v.text, .slice (u.item k).v.p (u.item k).v.n (u.item k).v.c]] rfl _ (HVn.out _ HB3.out) (fun e w4 h4 => ?_)
      obtain ⟨r4, rfl, hr4, hb4⟩ := h4
      obtain rfl : r4 = true := hr4.2 HVa.out
      refine ⟨_, rfl, ?_⟩
      have HB4 : Hid (Below wr.heap.size wr w4) := HB3.out.trans (hb4.mono HB3.out.size)
      clear hb4 hr4
      go_simp
      refine hK1 _ _ (fun h => by cases h) ?_
      clear hK1 K1
      refine wpPre_i rfl (fun K1 hK1 => ?_)
      rw [if_pos (by go_simp)]
      apply Exists.intro
      refine And.intro (fun wx hx => ?_) ?_
      · go_simp
        try rfl
      go_simp
      refine hK1 _ ?_
      clear hK1 K1
      refine wpPre_e rfl rfl (fun K1 hK1 => ?_)
      apply Exists.intro
      refine And.intro (fun wx hx => ?_) ?_
      · go_simp
        try rfl
      go_simp
      refine hK1 _ ?_
      clear hK1 K1
      refine wpPre_nil ?_
      refine wpTr_done ?_
      go_wp2
      go_roundw
      case rel => exact ⟨k + 1, by omega, by go_num, HB.out.trans (HB4.out.mono HB.out.size)⟩
      case measure => simp [intOf]; omega
    · have hlt' : ¬ (k : Int) < (l.n : Int) := by omega
      clear hb
      go_wp2
      refine bodyPost_ret (v := .bool true) (by simp [results, Try.results38, go_sem]) rfl ⟨rfl, HB.out⟩
set_option maxHeartbeats 4000000 in
theorem yState0 (num : Int) (p p2 : Option Addr) (c c2 : Nat) (w : World) : Calls Try.prog 37 #[.agg #[.int .i64 num, .slice p 0 c], .agg #[.int .i64 num, .slice p2 0 c2]] w fun e w' => Yes w e w' := by
  have HB : Hid (Below w.heap.size w ((w.alloc (.cells #[.int .i64 num, .slice p 0 c] 35)).alloc (.cells #[.int .i64 num, .slice p2 0 c2] 35))) := ((Below.refl _ _).alloc (Nat.le_refl _) _).alloc (by simp) _
  go_enter Try.func37, Try.ntmps37
  go_wp2_with fail
  go_loopw [5] (fun x wr => x = .int .i64 0 ∧ wr = (w.alloc (.cells #[.int .i64 num, .slice p 0 c] 35)).alloc (.cells #[.int .i64 num, .slice p2 0 c2] 35)) (fun _ _ => 0)
  case atStart => exact ⟨rfl, rfl⟩
  case round =>
    obtain ⟨rfl, rfl⟩ := hrel
    go_wp2
    refine bodyPost_ret (v := .bool true) (by simp [results, Try.results37, go_sem]) rfl ⟨rfl, HB.out⟩
set_option maxHeartbeats 8000000 in
theorem yPart (t u : PtT) (w : World) (S R : Nat → Prop) (ht : PtIn w S t) (hu : PtIn w R u) (ha : PtAlk t u) (h0 : t.cl.n = 0) :
    Calls Try.prog 19 #[.agg #[.int .i64 t.num, .slice t.cl.p t.cl.n t.cl.c, .slice t.lg.p t.lg.n t.lg.c, .slice t.pd.p t.pd.n t.pd.c], .agg #[.int .i64 u.num, .slice u.cl.p u.cl.n u.cl.c, .slice u.lg.p u.lg.n u.lg.c, .slice u.pd.p u.pd.n u.pd.c]] w fun e w' => Yes w e w' := by
  have hnn := ht.lg.nn
  have Ht := hid ht
  have Hu := hid hu
  have HA := hid ha
  have hcn := ha.cl.n
  have hln := ha.lg.n
  have hnum := ha.num
  obtain ⟨W, hW⟩ : ∃ V, V = (w.alloc (.cells #[.int .i64 t.num, .slice t.cl.p t.cl.n t.cl.c, .slice t.lg.p t.lg.n t.lg.c, .slice t.pd.p t.pd.n t.pd.c] 39)).alloc (.cells #[.int .i64 u.num, .slice u.cl.p u.cl.n u.cl.c, .slice u.lg.p u.lg.n u.lg.c, .slice u.pd.p u.pd.n u.pd.c] 39) := ⟨_, rfl⟩
  have hB : Below w.heap.size w W := by rw [hW]; exact ((Below.refl _ _).alloc (Nat.le_refl _) _).alloc (by simp) _
  have hX : Box W w.heap.size #[.int .i64 t.num, .slice t.cl.p t.cl.n t.cl.c, .slice t.lg.p t.lg.n t.lg.c, .slice t.pd.p t.pd.n t.pd.c] 39 := by rw [hW]; exact (Box.new _ _ _).below ((Below.refl _ _).alloc (Nat.le_refl _) _)
  have hY : Box W (w.heap.size + 1) #[.int .i64 u.num, .slice u.cl.p u.cl.n u.cl.c, .slice u.lg.p u.lg.n u.lg.c, .slice u.pd.p u.pd.n u.pd.c] 39 := by
    have h := Box.new (w.alloc (.cells #[.int .i64 t.num, .slice t.cl.p t.cl.n t.cl.c, .slice t.lg.p t.lg.n t.lg.c, .slice t.pd.p t.pd.n t.pd.c] 39)) #[.int .i64 u.num, .slice u.cl.p u.cl.n u.cl.c, .slice u.lg.p u.lg.n u.lg.c, .slice u.pd.p u.pd.n u.pd.c] 39
    rw [← hW] at h
    simpa using h
  have HSt : Hid (∀ V, Calls Try.prog 37 #[.agg #[.int .i64 t.num, .slice t.cl.p t.cl.n t.cl.c], .agg #[.int .i64 u.num, .slice u.cl.p u.cl.n u.cl.c]] V fun e w' => Yes V e w') := fun V => by
    rw [hcn, h0, hnum]
    exact yState0 _ _ _ _ _ V
  have HPd : Hid (∀ V, Below w.heap.size w V → Calls Try.prog 38 #[.slice t.pd.p t.pd.n t.pd.c, .slice u.pd.p u.pd.n u.pd.c] V fun e w' => Yes V e w') := fun V hV => yRecs _ _ V _ _ (ht.pd.below hV) (hu.pd.below hV) ha.pd
  have HX := hid hX
  have HY := hid hY
  have HB := hid hB
  have x0 := hX.cell 0
  have x1 := hX.cell 1
  have x2 := hX.cell 2
  have x3 := hX.cell 3
  have y0 := hY.cell 0
  have y1 := hY.cell 1
  have y2 := hY.cell 2
  have y3 := hY.cell 3
  have xl := hX.lt
  have yl := hY.lt
  simp at x0 x1 x2 x3 y0 y1 y2 y3
  rw [hln] at y2
  have HLn := hid hln
  have HW := hid hW
  clear ht hu ha hcn hnum h0 hX hY hB hln hW
  go_enter Try.func19, Try.ntmps19
  go_upto_region 1 with fail
  rw [← HW.out]
  go_wp2_with fail
  refine (HSt.out _).mono ?_
  rintro e w1 ⟨rfl, hb1⟩
  have HB1 := hid (HB.out.trans (hb1.mono HB.out.size))
  have H1 := hid hb1
  have z3 := (World.cell?_of_block (a := ⟨w.heap.size, 3, none⟩) (hb1.block _ xl)).trans x3
  have v3 := (World.cell?_of_block (a := ⟨w.heap.size + 1, 3, none⟩) (hb1.block _ yl)).trans y3
  have xl1 := Nat.lt_of_lt_of_le xl hb1.size
  have yl1 := Nat.lt_of_lt_of_le yl hb1.size
  clear hb1
  go_wp2_with fail
  refine (HPd.out _ HB1.out).mono ?_
  rintro e w2 ⟨rfl, hb2⟩
  have HB2 := hid (H1.out.trans (hb2.mono H1.out.size))
  clear hb2
  go_wp2_with fail
  go_loopw [5] (fun x wr => ∃ k : Nat, k ≤ t.lg.n ∧ x = .int .i64 (k : Int) ∧ Below W.heap.size W wr) (fun x _ => t.lg.n - (intOf x).toNat)
  case atStart => exact ⟨0, Nat.zero_le _, rfl, HB2.out⟩
  case round =>
    obtain ⟨k, hk, rfl, hb⟩ := hrel
    have HBk := hid hb
    have x2 := (World.cell?_of_block (a := ⟨w.heap.size, 2, none⟩) (hb.block _ xl)).trans x2
    have y2 := (World.cell?_of_block (a := ⟨w.heap.size + 1, 2, none⟩) (hb.block _ yl)).trans y2
    have xl1 := Nat.lt_of_lt_of_le xl hb.size
    have yl1 := Nat.lt_of_lt_of_le yl hb.size
    have hbw := HB.out.trans (hb.mono HB.out.size)
    by_cases hlt : k < t.lg.n
    · have hlt' : (k : Int) < (t.lg.n : Int) := by omega
      have hlu : k < u.lg.n := by rw [HLn.out]; exact hlt
      obtain ⟨b1, o1, hp, _, hl1, hat⟩ := Ht.out.lg.at_ (by omega)
      obtain ⟨b2, o2, hp', _, hl2, hat'⟩ := Hu.out.lg.at_ (by omega)
      have a0 : wr.cell? ⟨b1, o1 + k, none⟩ = some (.slice (t.lg.item k).p (t.lg.item k).n (t.lg.item k).c) := (World.cell?_of_block (a := ⟨b1, o1 + k, none⟩) (hbw.block b1 hl1)).trans (by have := hat k hlt 0 _ rfl; simpa [elRecs] using this)
      have d0 : wr.cell? ⟨b2, o2 + k, none⟩ = some (.slice (u.lg.item k).p (u.lg.item k).n (u.lg.item k).c) := (World.cell?_of_block (a := ⟨b2, o2 + k, none⟩) (hbw.block b2 hl2)).trans (by have := hat' k hlu 0 _ rfl; simpa [elRecs] using this)
      have HR : Hid (∀ V, Below wr.heap.size wr V → Calls Try.prog 38 #[.slice (t.lg.item k).p (t.lg.item k).n (t.lg.item k).c, .slice (u.lg.item k).p (u.lg.item k).n (u.lg.item k).c] V fun e w' => Yes V e w') := fun V hV => yRecs _ _ V _ _ (LT.In.below (Ht.out.lg.each k hlt) (hbw.trans (hV.mono hbw.size))) (LT.In.below (Hu.out.lg.each k hlu) (hbw.trans (hV.mono hbw.size))) (HA.out.lg.item k hlt)
      rw [hp] at x2
      rw [hp'] at y2
      clear hat hat' hb hp hp' hbw
      go_wp2_with fail
      refine wp_region_calmE 30 (fun wx => Below wr.heap.size wr wx) [(0, true), (1, false), (2, true), (3, true), (4, false), (5, true), (6, false), (7, true), (8, true), (9, false)] (.one 10 false [(11, true)] .done) (by kernel_rfl) (by kernel_rfl) (Below.refl _ _).drew ?_
      refine wpPre_e rfl rfl (fun K1 hK1 => ?_)
      apply Exists.intro
      refine And.intro (fun wx hx => ?_) ?_
      · go_simp
        try rfl
      go_simp
      refine hK1 _ ?_
      clear hK1 K1
      refine wpPre_e rfl rfl (fun K1 hK1 => ?_)
      apply Exists.intro
      refine And.intro (fun wx hx => ?_) ?_
      · have e0 := below_fact hx rfl x2
        have e1 := below_fact hx rfl y2
        have e2 := below_fact hx rfl a0
        have e3 := below_fact hx rfl d0
        go_simp
        try rfl
      go_simp
      refine hK1 _ ?_
      clear hK1 K1
      refine wpPre_e rfl rfl (fun K1 hK1 => ?_)
      apply Exists.intro
      refine And.intro (fun wx hx => ?_) ?_
      · go_simp
        try rfl
      go_simp
      refine hK1 _ ?_
      clear hK1 K1
      refine wpPre_e rfl rfl (fun K1 hK1 => ?_)
      apply Exists.intro
      refine And.intro (fun wx hx => ?_) ?_
      · go_simp
        try rfl
      go_simp
      refine hK1 _ ?_
      clear hK1 K1
      refine wpPre_e rfl rfl (fun K1 hK1 => ?_)
      apply Exists.intro
      refine And.intro (fun wx hx => ?_) ?_
      · have e0 := below_fact hx rfl x2
        have e1 := below_fact hx rfl y2
        have e2 := below_fact hx rfl a0
        have e3 := below_fact hx rfl d0
        go_simp
        try rfl
      go_simp
      refine hK1 _ ?_
      clear hK1 K1
      refine wpPre_e rfl rfl (fun K1 hK1 => ?_)
      apply Exists.intro
      refine And.intro (fun wx hx => ?_) ?_
      · go_simp
        try rfl
      go_simp
      refine hK1 _ ?_
      clear hK1 K1
      refine wpPre_e rfl rfl (fun K1 hK1 => ?_)
      apply Exists.intro
      refine And.intro (fun wx hx => ?_) ?_
      · have e0 := below_fact hx rfl x2
        have e1 := below_fact hx rfl y2
        have e2 := below_fact hx rfl a0
        have e3 := below_fact hx rfl d0
        go_simp
        try rfl
      go_simp
      refine hK1 _ ?_
      clear hK1 K1
      refine wpPre_e rfl rfl (fun K1 hK1 => ?_)
      apply Exists.intro
      refine And.intro (fun wx hx => ?_) ?_
      · go_simp
        try rfl
      go_simp
      refine hK1 _ ?_
      clear hK1 K1
      refine wpPre_e rfl rfl (fun K1 hK1 => ?_)
      apply Exists.intro
      refine And.intro (fun wx hx => ?_) ?_
      · go_simp
        try rfl
      go_simp
      refine hK1 _ ?_
      clear hK1 K1
      refine wpPre_e rfl rfl (fun K1 hK1 => ?_)
      apply Exists.intro
      refine And.intro (fun wx hx => ?_) ?_
      · have e0 := below_fact hx rfl x2
        have e1 := below_fact hx rfl y2
        have e2 := below_fact hx rfl a0
        have e3 := below_fact hx rfl d0
        go_simp
        try rfl
      go_simp
      refine hK1 _ ?_
      clear hK1 K1
      refine wpPre_nil ?_
      refine wpTr_e rfl (fun K1 hK1 => ?_)
      refine step_call rfl 38 #[.tmp 40, .tmp 45] _ rfl Try.f38 Try.func38 (by kernel_rfl) rfl #[.slice (t.lg.item k).p (t.lg.item k).n (t.lg.item k).c, .slice (u.lg.item k).p (u.lg.item k).n (u.lg.item k).c] rfl _ (HR.out _ (Below.refl _ _).drew) (fun e w4 h4 => ?_)
      obtain ⟨rfl, hb4⟩ := h4
      refine ⟨_, rfl, ?_⟩
      have HB4 : Hid (Below wr.heap.size wr w4) := (Below.refl wr.heap.size wr).drew.trans hb4
      clear hb4
      go_simp
      refine hK1 _ _ (fun h => by cases h) ?_
      clear hK1 K1
      refine wpPre_e rfl rfl (fun K1 hK1 => ?_)
      apply Exists.intro
      refine And.intro (fun wx hx => ?_) ?_
      · go_simp
        try rfl
      go_simp
      refine hK1 _ ?_
      clear hK1 K1
      refine wpPre_nil ?_
      refine wpTr_done ?_
      go_wp2
      go_roundw
      case rel => exact ⟨k + 1, by omega, by go_num, HBk.out.trans (HB4.out.mono HBk.out.size)⟩
      case measure => simp [intOf]; omega
    · have hlt' : ¬ (k : Int) < (t.lg.n : Int) := by omega
      have HBw := hid hbw
      clear hb hbw
      go_wp2
      refine bodyPost_ret (v := .bool true) (by simp [results, Try.results19, go_sem]) rfl ⟨rfl, HBw.out⟩
end Go.Proofs.Ytldkepokcbjlpaa
