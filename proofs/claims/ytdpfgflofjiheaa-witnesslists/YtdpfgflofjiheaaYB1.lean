import Derived.Test.YtdpfgflofjiheaaPack5
namespace Go.Proofs.Ytdpfgflofjiheaa
open Go.RowKit
set_option maxRecDepth 8000
set_option maxHeartbeats 8000000 in
theorem canBe_1 (k t p i n : Int) (w : World) (hn : 1 ≤ n) (hk : k = 1) : Calls Try.prog 42 #[.agg #[.int .i64 k, .int .i64 t, .int .i64 p, .int .i64 i], .int .i64 n] w fun e w' => CanQ n ⟨k, t, p, i⟩ w e w' := by
  subst hk
  have H := hid hn
  have HE := fun w => hid (eventOf_any 1 t p i w)
  have HS := fun w => hid (stepOf_any t p w)
  clear hn
  obtain ⟨W, hW⟩ : ∃ X, X = w.alloc (.cells #[.int .i64 1, .int .i64 t, .int .i64 p, .int .i64 i] 37) := ⟨_, rfl⟩
  have hx : Box W w.heap.size #[.int .i64 1, .int .i64 t, .int .i64 p, .int .i64 i] 37 := by rw [hW]; exact Box.new _ _ _
  have HB : Hid (Below w.heap.size w W) := by rw [hW]; exact below1 _ _
  have HW := hid hW
  have c0 := hx.cell 0
  have c1 := hx.cell 1
  have c2 := hx.cell 2
  have c3 := hx.cell 3
  have xl := hx.lt
  simp at c0 c1 c2 c3
  clear hW hx
  rcases (show t < 0 ∨ (0 ≤ t ∧ ¬ t < n) ∨ (0 ≤ t ∧ t < n) by omega) with ht | ⟨ht, ht2⟩ | ⟨ht, ht2⟩
  · rcases (show p < 0 ∨ (0 ≤ p ∧ ¬ p < 4) ∨ (0 ≤ p ∧ p < 4) by omega) with hp | ⟨hp, hp2⟩ | ⟨hp, hp2⟩
    · go_enter Try.func42, Try.ntmps42
      go_upto_region 1 with fail
      rw [← HW.out]
      go_upto_region 6 with fail
      all_goals
        refine wp_region_calmE 30 (fun wx => Below W.heap.size W wx) [(0, true), (1, true), (2, true), (3, true), (4, true), (5, false), (6, false)] (.one 7 true [] (.one 8 true [(9, true), (10, true), (11, true)] .done)) (by kernel_rfl) (by kernel_rfl) (Below.refl _ _).drew ?_
        refine wpPre_e rfl rfl (fun K1 hK1 => ?_)
        apply Exists.intro
        refine And.intro (fun wx hx => ?_) ?_
        · go_simp
          try rfl
        go_simp
        refine hK1 _ ?_
        clear hK1 K1
        refine wpPre_e rfl rfl (fun K1 hK1 => ?_)
        apply Exists.intro
        refine And.intro (fun wx hx => ?_) ?_
        · go_simp
          try rfl
        go_simp
        refine hK1 _ ?_
        clear hK1 K1
        refine wpPre_i rfl (fun K1 hK1 => ?_)
        rw [if_neg (by go_simp; all_goals (intro h; cases h))]
        go_simp
        refine hK1 _ ?_
        clear hK1 K1
        refine wpPre_e rfl rfl (fun K1 hK1 => ?_)
        apply Exists.intro
        refine And.intro (fun wx hx => ?_) ?_
        · go_simp
          try rfl
        go_simp
        refine hK1 _ ?_
        clear hK1 K1
        refine wpPre_e rfl rfl (fun K1 hK1 => ?_)
        apply Exists.intro
        refine And.intro (fun wx hx => ?_) ?_
        · go_simp
          try rfl
        go_simp
        refine hK1 _ ?_
        clear hK1 K1
        refine wpPre_i rfl (fun K1 hK1 => ?_)
        rw [if_neg (by go_simp; all_goals (intro h; cases h))]
        go_simp
        refine hK1 _ ?_
        clear hK1 K1
        refine wpPre_i rfl (fun K1 hK1 => ?_)
        rw [if_neg (by go_simp; all_goals (intro h; cases h))]
        go_simp
        refine hK1 _ ?_
        clear hK1 K1
        refine wpPre_nil ?_
        refine wpTr_e rfl (fun K1 hK1 => ?_)
        rw [if_neg (by go_simp; all_goals (intro h; cases h))]
        go_simp
        refine hK1 _ _ (fun _ => (Below.refl _ _).drew) ?_
        clear hK1 K1
        refine wpPre_nil ?_
        refine wpTr_e rfl (fun K1 hK1 => ?_)
        rw [if_neg (by go_simp; all_goals (intro h; cases h))]
        go_simp
        refine hK1 _ _ (fun _ => (Below.refl _ _).drew) ?_
        clear hK1 K1
        refine wpPre_i rfl (fun K1 hK1 => ?_)
        rw [if_neg (by go_simp; all_goals (intro h; cases h))]
        go_simp
        refine hK1 _ ?_
        clear hK1 K1
        refine wpPre_e rfl rfl (fun K1 hK1 => ?_)
        apply Exists.intro
        refine And.intro (fun wx hx => ?_) ?_
        · go_simp
          try rfl
        go_simp
        refine hK1 _ ?_
        clear hK1 K1
        refine wpPre_e rfl rfl (fun K1 hK1 => ?_)
        apply Exists.intro
        refine And.intro (fun wx hx => ?_) ?_
        · go_simp
          try rfl
        go_simp
        refine hK1 _ ?_
        clear hK1 K1
        refine wpPre_nil ?_
        refine wpTr_done ?_
        go_wp2
        go_ret
        refine ⟨_, rfl, ?_, HB.out.drew⟩
        have hn := H.out
        unfold Can
        try dsimp only
        first | omega | (simp; omega) | simp
    · go_enter Try.func42, Try.ntmps42
      go_upto_region 1 with fail
      rw [← HW.out]
      go_upto_region 6 with fail
      all_goals
        refine wp_region_calmE 30 (fun wx => Below W.heap.size W wx) [(0, true), (1, true), (2, true), (3, true), (4, true), (5, false), (6, false)] (.one 7 true [] (.one 8 true [(9, true), (10, true), (11, true)] .done)) (by kernel_rfl) (by kernel_rfl) (Below.refl _ _).drew ?_
        refine wpPre_e rfl rfl (fun K1 hK1 => ?_)
        apply Exists.intro
        refine And.intro (fun wx hx => ?_) ?_
        · go_simp
          try rfl
        go_simp
        refine hK1 _ ?_
        clear hK1 K1
        refine wpPre_e rfl rfl (fun K1 hK1 => ?_)
        apply Exists.intro
        refine And.intro (fun wx hx => ?_) ?_
        · go_simp
          try rfl
        go_simp
        refine hK1 _ ?_
        clear hK1 K1
        refine wpPre_i rfl (fun K1 hK1 => ?_)
        rw [if_neg (by go_simp; all_goals (intro h; cases h))]
        go_simp
        refine hK1 _ ?_
        clear hK1 K1
        refine wpPre_e rfl rfl (fun K1 hK1 => ?_)
        apply Exists.intro
        refine And.intro (fun wx hx => ?_) ?_
        · go_simp
          try rfl
        go_simp
        refine hK1 _ ?_
        clear hK1 K1
        refine wpPre_e rfl rfl (fun K1 hK1 => ?_)
        apply Exists.intro
        refine And.intro (fun wx hx => ?_) ?_
        · go_simp
          try rfl
        go_simp
        refine hK1 _ ?_
        clear hK1 K1
        refine wpPre_i rfl (fun K1 hK1 => ?_)
        rw [if_neg (by go_simp; all_goals (intro h; cases h))]
        go_simp
        refine hK1 _ ?_
        clear hK1 K1
        refine wpPre_i rfl (fun K1 hK1 => ?_)
        rw [if_neg (by go_simp; all_goals (intro h; cases h))]
        go_simp
        refine hK1 _ ?_
        clear hK1 K1
        refine wpPre_nil ?_
        refine wpTr_e rfl (fun K1 hK1 => ?_)
        rw [if_neg (by go_simp; all_goals (intro h; cases h))]
        go_simp
        refine hK1 _ _ (fun _ => (Below.refl _ _).drew) ?_
        clear hK1 K1
        refine wpPre_nil ?_
        refine wpTr_e rfl (fun K1 hK1 => ?_)
        rw [if_neg (by go_simp; all_goals (intro h; cases h))]
        go_simp
        refine hK1 _ _ (fun _ => (Below.refl _ _).drew) ?_
        clear hK1 K1
        refine wpPre_i rfl (fun K1 hK1 => ?_)
        rw [if_neg (by go_simp; all_goals (intro h; cases h))]
        go_simp
        refine hK1 _ ?_
        clear hK1 K1
        refine wpPre_e rfl rfl (fun K1 hK1 => ?_)
        apply Exists.intro
        refine And.intro (fun wx hx => ?_) ?_
        · go_simp
          try rfl
        go_simp
        refine hK1 _ ?_
        clear hK1 K1
        refine wpPre_e rfl rfl (fun K1 hK1 => ?_)
        apply Exists.intro
        refine And.intro (fun wx hx => ?_) ?_
        · go_simp
          try rfl
        go_simp
        refine hK1 _ ?_
        clear hK1 K1
        refine wpPre_nil ?_
        refine wpTr_done ?_
        go_wp2
        go_ret
        refine ⟨_, rfl, ?_, HB.out.drew⟩
        have hn := H.out
        unfold Can
        try dsimp only
        first | omega | (simp; omega) | simp
    · go_enter Try.func42, Try.ntmps42
      go_upto_region 1 with fail
      rw [← HW.out]
      go_upto_region 6 with fail
      all_goals
        refine wp_region_calmE 30 (fun wx => Below W.heap.size W wx) [(0, true), (1, true), (2, true), (3, true), (4, true), (5, false), (6, false)] (.one 7 true [] (.one 8 true [(9, true), (10, true), (11, true)] .done)) (by kernel_rfl) (by kernel_rfl) (Below.refl _ _).drew ?_
        refine wpPre_e rfl rfl (fun K1 hK1 => ?_)
        apply Exists.intro
        refine And.intro (fun wx hx => ?_) ?_
        · go_simp
          try rfl
        go_simp
        refine hK1 _ ?_
        clear hK1 K1
        refine wpPre_e rfl rfl (fun K1 hK1 => ?_)
        apply Exists.intro
        refine And.intro (fun wx hx => ?_) ?_
        · go_simp
          try rfl
        go_simp
        refine hK1 _ ?_
        clear hK1 K1
        refine wpPre_i rfl (fun K1 hK1 => ?_)
        rw [if_neg (by go_simp; all_goals (intro h; cases h))]
        go_simp
        refine hK1 _ ?_
        clear hK1 K1
        refine wpPre_e rfl rfl (fun K1 hK1 => ?_)
        apply Exists.intro
        refine And.intro (fun wx hx => ?_) ?_
        · go_simp
          try rfl
        go_simp
        refine hK1 _ ?_
        clear hK1 K1
        refine wpPre_e rfl rfl (fun K1 hK1 => ?_)
        apply Exists.intro
        refine And.intro (fun wx hx => ?_) ?_
        · go_simp
          try rfl
        go_simp
        refine hK1 _ ?_
        clear hK1 K1
        refine wpPre_i rfl (fun K1 hK1 => ?_)
        rw [if_neg (by go_simp; all_goals (intro h; cases h))]
        go_simp
        refine hK1 _ ?_
        clear hK1 K1
        refine wpPre_i rfl (fun K1 hK1 => ?_)
        rw [if_neg (by go_simp; all_goals (intro h; cases h))]
        go_simp
        refine hK1 _ ?_
        clear hK1 K1
        refine wpPre_nil ?_
        refine wpTr_e rfl (fun K1 hK1 => ?_)
        rw [if_neg (by go_simp; all_goals (intro h; cases h))]
        go_simp
        refine hK1 _ _ (fun _ => (Below.refl _ _).drew) ?_
        clear hK1 K1
        refine wpPre_nil ?_
        refine wpTr_e rfl (fun K1 hK1 => ?_)
        rw [if_neg (by go_simp; all_goals (intro h; cases h))]
        go_simp
        refine hK1 _ _ (fun _ => (Below.refl _ _).drew) ?_
        clear hK1 K1
        refine wpPre_i rfl (fun K1 hK1 => ?_)
        rw [if_neg (by go_simp; all_goals (intro h; cases h))]
        go_simp
        refine hK1 _ ?_
        clear hK1 K1
        refine wpPre_e rfl rfl (fun K1 hK1 => ?_)
        apply Exists.intro
        refine And.intro (fun wx hx => ?_) ?_
        · go_simp
          try rfl
        go_simp
        refine hK1 _ ?_
        clear hK1 K1
        refine wpPre_e rfl rfl (fun K1 hK1 => ?_)
        apply Exists.intro
        refine And.intro (fun wx hx => ?_) ?_
        · go_simp
          try rfl
        go_simp
        refine hK1 _ ?_
        clear hK1 K1
        refine wpPre_nil ?_
        refine wpTr_done ?_
        go_wp2
        go_ret
        refine ⟨_, rfl, ?_, HB.out.drew⟩
        have hn := H.out
        unfold Can
        try dsimp only
        first | omega | (simp; omega) | simp
  · rcases (show p < 0 ∨ (0 ≤ p ∧ ¬ p < 4) ∨ (0 ≤ p ∧ p < 4) by omega) with hp | ⟨hp, hp2⟩ | ⟨hp, hp2⟩
    · go_enter Try.func42, Try.ntmps42
      go_upto_region 1 with fail
      rw [← HW.out]
      go_upto_region 6 with fail
      all_goals
        refine wp_region_calmE 30 (fun wx => Below W.heap.size W wx) [(0, true), (1, true), (2, true), (3, true), (4, true), (5, false), (6, false)] (.one 7 true [] (.one 8 true [(9, true), (10, true), (11, true)] .done)) (by kernel_rfl) (by kernel_rfl) (Below.refl _ _).drew ?_
        refine wpPre_e rfl rfl (fun K1 hK1 => ?_)
        apply Exists.intro
        refine And.intro (fun wx hx => ?_) ?_
        · go_simp
          try rfl
        go_simp
        refine hK1 _ ?_
        clear hK1 K1
        refine wpPre_e rfl rfl (fun K1 hK1 => ?_)
        apply Exists.intro
        refine And.intro (fun wx hx => ?_) ?_
        · go_simp
          try rfl
        go_simp
        refine hK1 _ ?_
        clear hK1 K1
        refine wpPre_i rfl (fun K1 hK1 => ?_)
        rw [if_neg (by go_simp; all_goals (intro h; cases h))]
        go_simp
        refine hK1 _ ?_
        clear hK1 K1
        refine wpPre_e rfl rfl (fun K1 hK1 => ?_)
        apply Exists.intro
        refine And.intro (fun wx hx => ?_) ?_
        · go_simp
          try rfl
        go_simp
        refine hK1 _ ?_
        clear hK1 K1
        refine wpPre_e rfl rfl (fun K1 hK1 => ?_)
        apply Exists.intro
        refine And.intro (fun wx hx => ?_) ?_
        · go_simp
          try rfl
        go_simp
        refine hK1 _ ?_
        clear hK1 K1
        refine wpPre_i rfl (fun K1 hK1 => ?_)
        rw [if_neg (by go_simp; all_goals (intro h; cases h))]
        go_simp
        refine hK1 _ ?_
        clear hK1 K1
        refine wpPre_i rfl (fun K1 hK1 => ?_)
        rw [if_neg (by go_simp; all_goals (intro h; cases h))]
        go_simp
        refine hK1 _ ?_
        clear hK1 K1
        refine wpPre_nil ?_
        refine wpTr_e rfl (fun K1 hK1 => ?_)
        rw [if_neg (by go_simp; all_goals (intro h; cases h))]
        go_simp
        refine hK1 _ _ (fun _ => (Below.refl _ _).drew) ?_
        clear hK1 K1
        refine wpPre_nil ?_
        refine wpTr_e rfl (fun K1 hK1 => ?_)
        rw [if_neg (by go_simp; all_goals (intro h; cases h))]
        go_simp
        refine hK1 _ _ (fun _ => (Below.refl _ _).drew) ?_
        clear hK1 K1
        refine wpPre_i rfl (fun K1 hK1 => ?_)
        rw [if_neg (by go_simp; all_goals (intro h; cases h))]
        go_simp
        refine hK1 _ ?_
        clear hK1 K1
        refine wpPre_e rfl rfl (fun K1 hK1 => ?_)
        apply Exists.intro
        refine And.intro (fun wx hx => ?_) ?_
        · go_simp
          try rfl
        go_simp
        refine hK1 _ ?_
        clear hK1 K1
        refine wpPre_e rfl rfl (fun K1 hK1 => ?_)
        apply Exists.intro
        refine And.intro (fun wx hx => ?_) ?_
        · go_simp
          try rfl
        go_simp
        refine hK1 _ ?_
        clear hK1 K1
        refine wpPre_nil ?_
        refine wpTr_done ?_
        go_wp2
        go_ret
        refine ⟨_, rfl, ?_, HB.out.drew⟩
        have hn := H.out
        unfold Can
        try dsimp only
        first | omega | (simp; omega) | simp
    · go_enter Try.func42, Try.ntmps42
      go_upto_region 1 with fail
      rw [← HW.out]
      go_upto_region 6 with fail
      all_goals
        refine wp_region_calmE 30 (fun wx => Below W.heap.size W wx) [(0, true), (1, true), (2, true), (3, true), (4, true), (5, false), (6, false)] (.one 7 true [] (.one 8 true [(9, true), (10, true), (11, true)] .done)) (by kernel_rfl) (by kernel_rfl) (Below.refl _ _).drew ?_
        refine wpPre_e rfl rfl (fun K1 hK1 => ?_)
        apply Exists.intro
        refine And.intro (fun wx hx => ?_) ?_
        · go_simp
          try rfl
        go_simp
        refine hK1 _ ?_
        clear hK1 K1
        refine wpPre_e rfl rfl (fun K1 hK1 => ?_)
        apply Exists.intro
        refine And.intro (fun wx hx => ?_) ?_
        · go_simp
          try rfl
        go_simp
        refine hK1 _ ?_
        clear hK1 K1
        refine wpPre_i rfl (fun K1 hK1 => ?_)
        rw [if_neg (by go_simp; all_goals (intro h; cases h))]
        go_simp
        refine hK1 _ ?_
        clear hK1 K1
        refine wpPre_e rfl rfl (fun K1 hK1 => ?_)
        apply Exists.intro
        refine And.intro (fun wx hx => ?_) ?_
        · go_simp
          try rfl
        go_simp
        refine hK1 _ ?_
        clear hK1 K1
        refine wpPre_e rfl rfl (fun K1 hK1 => ?_)
        apply Exists.intro
        refine And.intro (fun wx hx => ?_) ?_
        · go_simp
          try rfl
        go_simp
        refine hK1 _ ?_
        clear hK1 K1
        refine wpPre_i rfl (fun K1 hK1 => ?_)
        rw [if_neg (by go_simp; all_goals (intro h; cases h))]
        go_simp
        refine hK1 _ ?_
        clear hK1 K1
        refine wpPre_i rfl (fun K1 hK1 => ?_)
        rw [if_neg (by go_simp; all_goals (intro h; cases h))]
        go_simp
        refine hK1 _ ?_
        clear hK1 K1
        refine wpPre_nil ?_
        refine wpTr_e rfl (fun K1 hK1 => ?_)
        rw [if_neg (by go_simp; all_goals (intro h; cases h))]
        go_simp
        refine hK1 _ _ (fun _ => (Below.refl _ _).drew) ?_
        clear hK1 K1
        refine wpPre_nil ?_
        refine wpTr_e rfl (fun K1 hK1 => ?_)
        rw [if_neg (by go_simp; all_goals (intro h; cases h))]
        go_simp
        refine hK1 _ _ (fun _ => (Below.refl _ _).drew) ?_
        clear hK1 K1
        refine wpPre_i rfl (fun K1 hK1 => ?_)
        rw [if_neg (by go_simp; all_goals (intro h; cases h))]
        go_simp
        refine hK1 _ ?_
        clear hK1 K1
        refine wpPre_e rfl rfl (fun K1 hK1 => ?_)
        apply Exists.intro
        refine And.intro (fun wx hx => ?_) ?_
        · go_simp
          try rfl
        go_simp
        refine hK1 _ ?_
        clear hK1 K1
        refine wpPre_e rfl rfl (fun K1 hK1 => ?_)
        apply Exists.intro
        refine And.intro (fun wx hx => ?_) ?_
        · go_simp
          try rfl
        go_simp
        refine hK1 _ ?_
        clear hK1 K1
        refine wpPre_nil ?_
        refine wpTr_done ?_
        go_wp2
        go_ret
        refine ⟨_, rfl, ?_, HB.out.drew⟩
        have hn := H.out
        unfold Can
        try dsimp only
        first | omega | (simp; omega) | simp
    · go_enter Try.func42, Try.ntmps42
      go_upto_region 1 with fail
      rw [← HW.out]
      go_upto_region 6 with fail
      all_goals
        refine wp_region_calmE 30 (fun wx => Below W.heap.size W wx) [(0, true), (1, true), (2, true), (3, true), (4, true), (5, false), (6, false)] (.one 7 true [] (.one 8 true [(9, true), (10, true), (11, true)] .done)) (by kernel_rfl) (by kernel_rfl) (Below.refl _ _).drew ?_
        refine wpPre_e rfl rfl (fun K1 hK1 => ?_)
        apply Exists.intro
        refine And.intro (fun wx hx => ?_) ?_
        · go_simp
          try rfl
        go_simp
        refine hK1 _ ?_
        clear hK1 K1
        refine wpPre_e rfl rfl (fun K1 hK1 => ?_)
        apply Exists.intro
        refine And.intro (fun wx hx => ?_) ?_
        · go_simp
          try rfl
        go_simp
        refine hK1 _ ?_
        clear hK1 K1
        refine wpPre_i rfl (fun K1 hK1 => ?_)
        rw [if_neg (by go_simp; all_goals (intro h; cases h))]
        go_simp
        refine hK1 _ ?_
        clear hK1 K1
        refine wpPre_e rfl rfl (fun K1 hK1 => ?_)
        apply Exists.intro
        refine And.intro (fun wx hx => ?_) ?_
        · go_simp
          try rfl
        go_simp
        refine hK1 _ ?_
        clear hK1 K1
        refine wpPre_e rfl rfl (fun K1 hK1 => ?_)
        apply Exists.intro
        refine And.intro (fun wx hx => ?_) ?_
        · go_simp
          try rfl
        go_simp
        refine hK1 _ ?_
        clear hK1 K1
        refine wpPre_i rfl (fun K1 hK1 => ?_)
        rw [if_neg (by go_simp; all_goals (intro h; cases h))]
        go_simp
        refine hK1 _ ?_
        clear hK1 K1
        refine wpPre_i rfl (fun K1 hK1 => ?_)
        rw [if_neg (by go_simp; all_goals (intro h; cases h))]
        go_simp
        refine hK1 _ ?_
        clear hK1 K1
        refine wpPre_nil ?_
        refine wpTr_e rfl (fun K1 hK1 => ?_)
        rw [if_neg (by go_simp; all_goals (intro h; cases h))]
        go_simp
        refine hK1 _ _ (fun _ => (Below.refl _ _).drew) ?_
        clear hK1 K1
        refine wpPre_nil ?_
        refine wpTr_e rfl (fun K1 hK1 => ?_)
        rw [if_neg (by go_simp; all_goals (intro h; cases h))]
        go_simp
        refine hK1 _ _ (fun _ => (Below.refl _ _).drew) ?_
        clear hK1 K1
        refine wpPre_i rfl (fun K1 hK1 => ?_)
        rw [if_neg (by go_simp; all_goals (intro h; cases h))]
        go_simp
        refine hK1 _ ?_
        clear hK1 K1
        refine wpPre_e rfl rfl (fun K1 hK1 => ?_)
        apply Exists.intro
        refine And.intro (fun wx hx => ?_) ?_
        · go_simp
          try rfl
        go_simp
        refine hK1 _ ?_
        clear hK1 K1
        refine wpPre_e rfl rfl (fun K1 hK1 => ?_)
        apply Exists.intro
        refine And.intro (fun wx hx => ?_) ?_
        · go_simp
          try rfl
        go_simp
        refine hK1 _ ?_
        clear hK1 K1
        refine wpPre_nil ?_
        refine wpTr_done ?_
        go_wp2
        go_ret
        refine ⟨_, rfl, ?_, HB.out.drew⟩
        have hn := H.out
        unfold Can
        try dsimp only
        first | omega | (simp; omega) | simp
  · rcases (show p < 0 ∨ (0 ≤ p ∧ ¬ p < 4) ∨ (0 ≤ p ∧ p < 4) by omega) with hp | ⟨hp, hp2⟩ | ⟨hp, hp2⟩
    · go_enter Try.func42, Try.ntmps42
      go_upto_region 1 with fail
      rw [← HW.out]
      go_upto_region 6 with fail
      all_goals
        refine wp_region_calmE 30 (fun wx => Below W.heap.size W wx) [(0, true), (1, true), (2, true), (3, true), (4, true), (5, false), (6, false)] (.one 7 true [] (.one 8 true [(9, true), (10, true), (11, true)] .done)) (by kernel_rfl) (by kernel_rfl) (Below.refl _ _).drew ?_
        refine wpPre_e rfl rfl (fun K1 hK1 => ?_)
        apply Exists.intro
        refine And.intro (fun wx hx => ?_) ?_
        · go_simp
          try rfl
        go_simp
        refine hK1 _ ?_
        clear hK1 K1
        refine wpPre_e rfl rfl (fun K1 hK1 => ?_)
        apply Exists.intro
        refine And.intro (fun wx hx => ?_) ?_
        · go_simp
          try rfl
        go_simp
        refine hK1 _ ?_
        clear hK1 K1
        refine wpPre_i rfl (fun K1 hK1 => ?_)
        rw [if_pos (by go_simp)]
        apply Exists.intro
        refine And.intro (fun wx hx => ?_) ?_
        · go_simp
          try rfl
        go_simp
        refine hK1 _ ?_
        clear hK1 K1
        refine wpPre_e rfl rfl (fun K1 hK1 => ?_)
        apply Exists.intro
        refine And.intro (fun wx hx => ?_) ?_
        · go_simp
          try rfl
        go_simp
        refine hK1 _ ?_
        clear hK1 K1
        refine wpPre_e rfl rfl (fun K1 hK1 => ?_)
        apply Exists.intro
        refine And.intro (fun wx hx => ?_) ?_
        · go_simp
          try rfl
        go_simp
        refine hK1 _ ?_
        clear hK1 K1
        refine wpPre_i rfl (fun K1 hK1 => ?_)
        rw [if_neg (by go_simp; all_goals (intro h; cases h))]
        go_simp
        refine hK1 _ ?_
        clear hK1 K1
        refine wpPre_i rfl (fun K1 hK1 => ?_)
        rw [if_neg (by go_simp; all_goals (intro h; cases h))]
        go_simp
        refine hK1 _ ?_
        clear hK1 K1
        refine wpPre_nil ?_
        refine wpTr_e rfl (fun K1 hK1 => ?_)
        rw [if_neg (by go_simp; all_goals (intro h; cases h))]
        go_simp
        refine hK1 _ _ (fun _ => (Below.refl _ _).drew) ?_
        clear hK1 K1
        refine wpPre_nil ?_
        refine wpTr_e rfl (fun K1 hK1 => ?_)
        rw [if_neg (by go_simp; all_goals (intro h; cases h))]
        go_simp
        refine hK1 _ _ (fun _ => (Below.refl _ _).drew) ?_
        clear hK1 K1
        refine wpPre_i rfl (fun K1 hK1 => ?_)
        rw [if_neg (by go_simp; all_goals (intro h; cases h))]
        go_simp
        refine hK1 _ ?_
        clear hK1 K1
        refine wpPre_e rfl rfl (fun K1 hK1 => ?_)
        apply Exists.intro
        refine And.intro (fun wx hx => ?_) ?_
        · go_simp
          try rfl
        go_simp
        refine hK1 _ ?_
        clear hK1 K1
        refine wpPre_e rfl rfl (fun K1 hK1 => ?_)
        apply Exists.intro
        refine And.intro (fun wx hx => ?_) ?_
        · go_simp
          try rfl
        go_simp
        refine hK1 _ ?_
        clear hK1 K1
        refine wpPre_nil ?_
        refine wpTr_done ?_
        go_wp2
        go_ret
        refine ⟨_, rfl, ?_, HB.out.drew⟩
        have hn := H.out
        unfold Can
        try dsimp only
        first | omega | (simp; omega) | simp
    · go_enter Try.func42, Try.ntmps42
      go_upto_region 1 with fail
      rw [← HW.out]
      go_upto_region 6 with fail
      all_goals
        refine wp_region_calmE 30 (fun wx => Below W.heap.size W wx) [(0, true), (1, true), (2, true), (3, true), (4, true), (5, false), (6, false)] (.one 7 true [] (.one 8 true [(9, true), (10, true), (11, true)] .done)) (by kernel_rfl) (by kernel_rfl) (Below.refl _ _).drew ?_
        refine wpPre_e rfl rfl (fun K1 hK1 => ?_)
        apply Exists.intro
        refine And.intro (fun wx hx => ?_) ?_
        · go_simp
          try rfl
        go_simp
        refine hK1 _ ?_
        clear hK1 K1
        refine wpPre_e rfl rfl (fun K1 hK1 => ?_)
        apply Exists.intro
        refine And.intro (fun wx hx => ?_) ?_
        · go_simp
          try rfl
        go_simp
        refine hK1 _ ?_
        clear hK1 K1
        refine wpPre_i rfl (fun K1 hK1 => ?_)
        rw [if_pos (by go_simp)]
        apply Exists.intro
        refine And.intro (fun wx hx => ?_) ?_
        · go_simp
          try rfl
        go_simp
        refine hK1 _ ?_
        clear hK1 K1
        refine wpPre_e rfl rfl (fun K1 hK1 => ?_)
        apply Exists.intro
        refine And.intro (fun wx hx => ?_) ?_
        · go_simp
          try rfl
        go_simp
        refine hK1 _ ?_
        clear hK1 K1
        refine wpPre_e rfl rfl (fun K1 hK1 => ?_)
        apply Exists.intro
        refine And.intro (fun wx hx => ?_) ?_
        · go_simp
          try rfl
        go_simp
        refine hK1 _ ?_
        clear hK1 K1
        refine wpPre_i rfl (fun K1 hK1 => ?_)
        rw [if_neg (by go_simp; all_goals (intro h; cases h))]
        go_simp
        refine hK1 _ ?_
        clear hK1 K1
        refine wpPre_i rfl (fun K1 hK1 => ?_)
        rw [if_neg (by go_simp; all_goals (intro h; cases h))]
        go_simp
        refine hK1 _ ?_
        clear hK1 K1
        refine wpPre_nil ?_
        refine wpTr_e rfl (fun K1 hK1 => ?_)
        rw [if_neg (by go_simp; all_goals (intro h; cases h))]
        go_simp
        refine hK1 _ _ (fun _ => (Below.refl _ _).drew) ?_
        clear hK1 K1
        refine wpPre_nil ?_
        refine wpTr_e rfl (fun K1 hK1 => ?_)
        rw [if_neg (by go_simp; all_goals (intro h; cases h))]
        go_simp
        refine hK1 _ _ (fun _ => (Below.refl _ _).drew) ?_
        clear hK1 K1
        refine wpPre_i rfl (fun K1 hK1 => ?_)
        rw [if_neg (by go_simp; all_goals (intro h; cases h))]
        go_simp
        refine hK1 _ ?_
        clear hK1 K1
        refine wpPre_e rfl rfl (fun K1 hK1 => ?_)
        apply Exists.intro
        refine And.intro (fun wx hx => ?_) ?_
        · go_simp
          try rfl
        go_simp
        refine hK1 _ ?_
        clear hK1 K1
        refine wpPre_e rfl rfl (fun K1 hK1 => ?_)
        apply Exists.intro
        refine And.intro (fun wx hx => ?_) ?_
        · go_simp
          try rfl
        go_simp
        refine hK1 _ ?_
        clear hK1 K1
        refine wpPre_nil ?_
        refine wpTr_done ?_
        go_wp2
        go_ret
        refine ⟨_, rfl, ?_, HB.out.drew⟩
        have hn := H.out
        unfold Can
        try dsimp only
        first | omega | (simp; omega) | simp
    · by_cases hi : i = 0
      · subst hi
        go_enter Try.func42, Try.ntmps42
        go_upto_region 1 with fail
        rw [← HW.out]
        go_upto_region 6 with fail
        all_goals
          refine wp_region_calmE 30 (fun wx => Below W.heap.size W wx) [(0, true), (1, true), (2, true), (3, true), (4, true), (5, false), (6, false)] (.one 7 true [] (.one 8 true [(9, true), (10, true), (11, true)] .done)) (by kernel_rfl) (by kernel_rfl) (Below.refl _ _).drew ?_
          refine wpPre_e rfl rfl (fun K1 hK1 => ?_)
          apply Exists.intro
          refine And.intro (fun wx hx => ?_) ?_
          · go_simp
            try rfl
          go_simp
          refine hK1 _ ?_
          clear hK1 K1
          refine wpPre_e rfl rfl (fun K1 hK1 => ?_)
          apply Exists.intro
          refine And.intro (fun wx hx => ?_) ?_
          · go_simp
            try rfl
          go_simp
          refine hK1 _ ?_
          clear hK1 K1
          refine wpPre_i rfl (fun K1 hK1 => ?_)
          rw [if_pos (by go_simp)]
          apply Exists.intro
          refine And.intro (fun wx hx => ?_) ?_
          · go_simp
            try rfl
          go_simp
          refine hK1 _ ?_
          clear hK1 K1
          refine wpPre_e rfl rfl (fun K1 hK1 => ?_)
          apply Exists.intro
          refine And.intro (fun wx hx => ?_) ?_
          · go_simp
            try rfl
          go_simp
          refine hK1 _ ?_
          clear hK1 K1
          refine wpPre_e rfl rfl (fun K1 hK1 => ?_)
          apply Exists.intro
          refine And.intro (fun wx hx => ?_) ?_
          · go_simp
            try rfl
          go_simp
          refine hK1 _ ?_
          clear hK1 K1
          refine wpPre_i rfl (fun K1 hK1 => ?_)
          rw [if_pos (by go_simp)]
          apply Exists.intro
          refine And.intro (fun wx hx => ?_) ?_
          · have e0 := below_fact hx rfl c0
            have e1 := below_fact hx rfl c1
            have e2 := below_fact hx rfl c2
            have e3 := below_fact hx rfl c3
            go_simp
            try rfl
          go_simp
          refine hK1 _ ?_
          clear hK1 K1
          refine wpPre_i rfl (fun K1 hK1 => ?_)
          rw [if_pos (by go_simp)]
          apply Exists.intro
          refine And.intro (fun wx hx => ?_) ?_
          · have e0 := below_fact hx rfl c0
            have e1 := below_fact hx rfl c1
            have e2 := below_fact hx rfl c2
            have e3 := below_fact hx rfl c3
            go_simp
            try rfl
          go_simp
          refine hK1 _ ?_
          clear hK1 K1
          refine wpPre_nil ?_
          refine wpTr_e rfl (fun K1 hK1 => ?_)
          refine step_callG (by first | rfl | go_simp) 38 #[.tmp 43] _ rfl Try.f38 Try.func38 (by kernel_rfl) rfl #[.agg #[.int .i64 1, .int .i64 t, .int .i64 p, .int .i64 0]] rfl _ ((HE _).out) ?_
          rintro e_ w1 ⟨rfl, hb1⟩
          refine ⟨_, rfl, ?_⟩
          have HB1 : Hid (Below W.heap.size W w1) := (Below.refl _ _).drew.trans hb1
          clear hb1
          go_simp
          refine hK1 _ _ (fun _ => HB1.out) ?_
          clear hK1 K1
          refine wpPre_nil ?_
          refine wpTr_e rfl (fun K1 hK1 => ?_)
          refine step_callG (by first | rfl | go_simp) 45 #[.tmp 44] _ rfl Try.f45 Try.func45 (by kernel_rfl) rfl #[.agg #[.int .i64 t, .int .i64 p]] rfl _ ((HS _).out) ?_
          rintro e_ w2 ⟨rfl, hb2⟩
          refine ⟨_, rfl, ?_⟩
          have HB2 : Hid (Below W.heap.size W w2) := HB1.out.trans (hb2.mono HB1.out.size)
          clear hb2
          go_simp
          refine hK1 _ _ (fun _ => HB2.out) ?_
          clear hK1 K1
          refine wpPre_i rfl (fun K1 hK1 => ?_)
          rw [if_pos (by go_simp)]
          apply Exists.intro
          refine And.intro (fun wx hx => ?_) ?_
          · go_simp
            try rfl
          go_simp
          refine hK1 _ ?_
          clear hK1 K1
          refine wpPre_e rfl rfl (fun K1 hK1 => ?_)
          apply Exists.intro
          refine And.intro (fun wx hx => ?_) ?_
          · go_simp
            try rfl
          go_simp
          refine hK1 _ ?_
          clear hK1 K1
          refine wpPre_e rfl rfl (fun K1 hK1 => ?_)
          apply Exists.intro
          refine And.intro (fun wx hx => ?_) ?_
          · go_simp
            try rfl
          go_simp
          refine hK1 _ ?_
          clear hK1 K1
          refine wpPre_nil ?_
          refine wpTr_done ?_
          go_wp2
        all_goals
          go_ret
          refine ⟨_, rfl, ?_, (HB.out.trans (HB2.out.mono HB.out.size))⟩
          have hn := H.out
          unfold Can
          try dsimp only
          first | omega | (simp; omega) | simp
      · go_enter Try.func42, Try.ntmps42
        go_upto_region 1 with fail
        rw [← HW.out]
        go_upto_region 6 with fail
        all_goals
          refine wp_region_calmE 30 (fun wx => Below W.heap.size W wx) [(0, true), (1, true), (2, true), (3, true), (4, true), (5, false), (6, false)] (.one 7 true [] (.one 8 true [(9, true), (10, true), (11, true)] .done)) (by kernel_rfl) (by kernel_rfl) (Below.refl _ _).drew ?_
          refine wpPre_e rfl rfl (fun K1 hK1 => ?_)
          apply Exists.intro
          refine And.intro (fun wx hx => ?_) ?_
          · go_simp
            try rfl
          go_simp
          refine hK1 _ ?_
          clear hK1 K1
          refine wpPre_e rfl rfl (fun K1 hK1 => ?_)
          apply Exists.intro
          refine And.intro (fun wx hx => ?_) ?_
          · go_simp
            try rfl
          go_simp
          refine hK1 _ ?_
          clear hK1 K1
          refine wpPre_i rfl (fun K1 hK1 => ?_)
          rw [if_pos (by go_simp)]
          apply Exists.intro
          refine And.intro (fun wx hx => ?_) ?_
          · go_simp
            try rfl
          go_simp
          refine hK1 _ ?_
          clear hK1 K1
          refine wpPre_e rfl rfl (fun K1 hK1 => ?_)
          apply Exists.intro
          refine And.intro (fun wx hx => ?_) ?_
          · go_simp
            try rfl
          go_simp
          refine hK1 _ ?_
          clear hK1 K1
          refine wpPre_e rfl rfl (fun K1 hK1 => ?_)
          apply Exists.intro
          refine And.intro (fun wx hx => ?_) ?_
          · go_simp
            try rfl
          go_simp
          refine hK1 _ ?_
          clear hK1 K1
          refine wpPre_i rfl (fun K1 hK1 => ?_)
          rw [if_pos (by go_simp)]
          apply Exists.intro
          refine And.intro (fun wx hx => ?_) ?_
          · have e0 := below_fact hx rfl c0
            have e1 := below_fact hx rfl c1
            have e2 := below_fact hx rfl c2
            have e3 := below_fact hx rfl c3
            go_simp
            try rfl
          go_simp
          refine hK1 _ ?_
          clear hK1 K1
          refine wpPre_i rfl (fun K1 hK1 => ?_)
          rw [if_pos (by go_simp)]
          apply Exists.intro
          refine And.intro (fun wx hx => ?_) ?_
          · have e0 := below_fact hx rfl c0
            have e1 := below_fact hx rfl c1
            have e2 := below_fact hx rfl c2
            have e3 := below_fact hx rfl c3
            go_simp
            try rfl
          go_simp
          refine hK1 _ ?_
          clear hK1 K1
          refine wpPre_nil ?_
          refine wpTr_e rfl (fun K1 hK1 => ?_)
          refine step_callG (by first | rfl | go_simp) 38 #[.tmp 43] _ rfl Try.f38 Try.func38 (by kernel_rfl) rfl #[.agg #[.int .i64 1, .int .i64 t, .int .i64 p, .int .i64 i]] rfl _ ((HE _).out) ?_
          rintro e_ w1 ⟨rfl, hb1⟩
          refine ⟨_, rfl, ?_⟩
          have HB1 : Hid (Below W.heap.size W w1) := (Below.refl _ _).drew.trans hb1
          clear hb1
          go_simp
          refine hK1 _ _ (fun _ => HB1.out) ?_
          clear hK1 K1
          refine wpPre_nil ?_
          refine wpTr_e rfl (fun K1 hK1 => ?_)
          refine step_callG (by first | rfl | go_simp) 45 #[.tmp 44] _ rfl Try.f45 Try.func45 (by kernel_rfl) rfl #[.agg #[.int .i64 t, .int .i64 p]] rfl _ ((HS _).out) ?_
          rintro e_ w2 ⟨rfl, hb2⟩
          refine ⟨_, rfl, ?_⟩
          have HB2 : Hid (Below W.heap.size W w2) := HB1.out.trans (hb2.mono HB1.out.size)
          clear hb2
          go_simp
          refine hK1 _ _ (fun _ => HB2.out) ?_
          clear hK1 K1
          refine wpPre_i rfl (fun K1 hK1 => ?_)
          rw [if_pos (by go_simp)]
          apply Exists.intro
          refine And.intro (fun wx hx => ?_) ?_
          · go_simp
            try rfl
          go_simp
          refine hK1 _ ?_
          clear hK1 K1
          refine wpPre_e rfl rfl (fun K1 hK1 => ?_)
          apply Exists.intro
          refine And.intro (fun wx hx => ?_) ?_
          · go_simp
            try rfl
          go_simp
          refine hK1 _ ?_
          clear hK1 K1
          refine wpPre_e rfl rfl (fun K1 hK1 => ?_)
          apply Exists.intro
          refine And.intro (fun wx hx => ?_) ?_
          · go_simp
            try rfl
          go_simp
          refine hK1 _ ?_
          clear hK1 K1
          refine wpPre_nil ?_
          refine wpTr_done ?_
          go_wp2
        all_goals
          go_ret
          refine ⟨_, rfl, ?_, (HB.out.trans (HB2.out.mono HB.out.size))⟩
          have hn := H.out
          unfold Can
          try dsimp only
          first | omega | (simp; omega) | simp
end Go.Proofs.Ytdpfgflofjiheaa
