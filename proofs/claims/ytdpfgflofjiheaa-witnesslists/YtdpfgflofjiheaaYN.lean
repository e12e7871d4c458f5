import Derived.Test.YtdpfgflofjiheaaPack6
namespace Go.Proofs.Ytdpfgflofjiheaa
open Go.RowKit
set_option maxRecDepth 8000

/-- the first place of v -/
def YNQ (l : LT TR) (v : TR) (e : Ending) : Prop := (e = .returned (.int .i64 (-1)) ∧ ∀ q, q < l.n → l.item q ≠ v) ∨ ∃ k : Nat, k < l.n ∧ e = .returned (.int .i64 (k : Int)) ∧ l.item k = v ∧ ∀ q, q < k → l.item q ≠ v
set_option maxHeartbeats 8000000 in
theorem YN_any (l : LT TR) (v : TR) (w : World) (S : Nat → Prop) (hl : LT.In elTr w S l) :
    Calls Try.prog 51 #[.slice l.p l.n l.c, .agg #[.int .i64 v.kind, .int .i64 v.task, .int .i64 v.port, .int .i64 v.id]] w fun e w' => YNQ l v e ∧ Below w.heap.size w w' := by
  have hnn := hl.nn
  obtain ⟨W, hW⟩ : ∃ X, X = w.alloc (.cells #[.int .i64 v.kind, .int .i64 v.task, .int .i64 v.port, .int .i64 v.id] 37) := ⟨_, rfl⟩
  have hx : Box W w.heap.size #[.int .i64 v.kind, .int .i64 v.task, .int .i64 v.port, .int .i64 v.id] 37 := by rw [hW]; exact Box.new _ _ _
  have HB : Hid (Below w.heap.size w W) := by rw [hW]; exact below1 _ _
  have HW := hid hW
  have c0 := hx.cell 0
  have c1 := hx.cell 1
  have c2 := hx.cell 2
  have c3 := hx.cell 3
  have xl := hx.lt
  simp at c0 c1 c2 c3
  have H := hid (hl.below HB.out)
  clear hW hx hl
  go_enter Try.func51, Try.ntmps51
  go_upto_region 1 with fail
  rw [← HW.out]
  go_wp2_with fail
  go_loopw [8] (fun x wr => ∃ k : Nat, k ≤ l.n ∧ x = .int .i64 (k : Int) ∧ (∀ q, q < k → l.item q ≠ v) ∧ Below W.heap.size W wr) (fun x _ => l.n - (intOf x).toNat)
  case atStart => exact ⟨0, Nat.zero_le _, rfl, fun q hq => absurd hq (by omega), Below.refl _ _⟩
  case round =>
    obtain ⟨k, hk, rfl, hno, hb⟩ := hrel
    have HNo := hid hno
    have HBr := hid hb
    have d0 := (World.cell?_of_block (a := ⟨w.heap.size, 0, none⟩) (hb.block w.heap.size xl)).trans c0
    have d1 := (World.cell?_of_block (a := ⟨w.heap.size, 1, none⟩) (hb.block w.heap.size xl)).trans c1
    have d2 := (World.cell?_of_block (a := ⟨w.heap.size, 2, none⟩) (hb.block w.heap.size xl)).trans c2
    have d3 := (World.cell?_of_block (a := ⟨w.heap.size, 3, none⟩) (hb.block w.heap.size xl)).trans c3
    have xr : w.heap.size < wr.heap.size := Nat.lt_of_lt_of_le xl hb.size
    clear hno hb
    by_cases hlt : k < l.n
    · have hlt' : (k : Int) < (l.n : Int) := by omega
      obtain ⟨b1, o1, hp, _, hl1, ha⟩ := (H.out.below HBr.out).tr (by omega)
      obtain ⟨a0, a1, a2, a3⟩ := ha k hlt
      rw [hp]
      clear ha hp
      by_cases h0 : (l.item k).kind = v.kind
      · by_cases h1 : (l.item k).task = v.task
        · by_cases h2 : (l.item k).port = v.port
          · by_cases h3 : (l.item k).id = v.id
            · have HE : Hid (l.item k = v) := TR.ext_ h0 h1 h2 h3
              rw [h0] at a0
              rw [h1] at a1
              rw [h2] at a2
              rw [h3] at a3
              clear h0 h1 h2 h3
              go_upto_region 4 with fail
              refine wp_region_calmE 30 (fun wx => Below wr.heap.size wr wx) [(0, false), (1, true), (2, true), (3, true), (4, false), (5, true)] .done (by kernel_rfl) (by kernel_rfl) (Below.refl _ _).drew ?_
              refine wpPre_e rfl rfl (fun K1 hK1 => ?_)
              apply Exists.intro
              refine And.intro (fun wx hx => ?_) ?_
              · have e0 := below_fact hx rfl d0
                have e1 := below_fact hx rfl d1
                have e2 := below_fact hx rfl d2
                have e3 := below_fact hx rfl d3
                have e4 := below_fact hx rfl a0
                have e5 := below_fact hx rfl a1
                have e6 := below_fact hx rfl a2
                have e7 := below_fact hx rfl a3
                go_simp
                try rfl
              go_simp
              refine hK1 _ ?_
              clear hK1 K1
              refine wpPre_e rfl rfl (fun K1 hK1 => ?_)
              apply Exists.intro
              refine And.intro (fun wx hx => ?_) ?_
              · go_simp
                try rfl
              go_simp
              refine hK1 _ ?_
              clear hK1 K1
              refine wpPre_e rfl rfl (fun K1 hK1 => ?_)
              apply Exists.intro
              refine And.intro (fun wx hx => ?_) ?_
              · go_simp
                try rfl
              go_simp
              refine hK1 _ ?_
              clear hK1 K1
              refine wpPre_e rfl rfl (fun K1 hK1 => ?_)
              apply Exists.intro
              refine And.intro (fun wx hx => ?_) ?_
              · go_simp
                try rfl
              go_simp
              refine hK1 _ ?_
              clear hK1 K1
              refine wpPre_e rfl rfl (fun K1 hK1 => ?_)
              apply Exists.intro
              refine And.intro (fun wx hx => ?_) ?_
              · have e0 := below_fact hx rfl d0
                have e1 := below_fact hx rfl d1
                have e2 := below_fact hx rfl d2
                have e3 := below_fact hx rfl d3
                have e4 := below_fact hx rfl a0
                have e5 := below_fact hx rfl a1
                have e6 := below_fact hx rfl a2
                have e7 := below_fact hx rfl a3
                go_simp
                try rfl
              go_simp
              refine hK1 _ ?_
              clear hK1 K1
              refine wpPre_e rfl rfl (fun K1 hK1 => ?_)
              apply Exists.intro
              refine And.intro (fun wx hx => ?_) ?_
              · go_simp
                try rfl
              go_simp
              refine hK1 _ ?_
              clear hK1 K1
              refine wpPre_nil ?_
              refine wpTr_done ?_
              go_wp2
              go_ret
              exact ⟨.inr ⟨k, hlt, rfl, HE.out, HNo.out⟩, (HB.out.trans (HBr.out.mono HB.out.size)).drew⟩
            · have HE : Hid (l.item k ≠ v) := fun h => h3 (by rw [h])
              rw [h0] at a0
              rw [h1] at a1
              rw [h2] at a2
              have h3s : ¬ v.id = (l.item k).id := fun h => h3 h.symm
              clear h0 h1 h2
              go_upto_region 4 with fail
              refine wp_region_calmE 30 (fun wx => Below wr.heap.size wr wx) [(0, false), (1, true), (2, true), (3, true), (4, false), (5, true)] .done (by kernel_rfl) (by kernel_rfl) (Below.refl _ _).drew ?_
              refine wpPre_e rfl rfl (fun K1 hK1 => ?_)
              apply Exists.intro
              refine And.intro (fun wx hx => ?_) ?_
              · have e0 := below_fact hx rfl d0
                have e1 := below_fact hx rfl d1
                have e2 := below_fact hx rfl d2
                have e3 := below_fact hx rfl d3
                have e4 := below_fact hx rfl a0
                have e5 := below_fact hx rfl a1
                have e6 := below_fact hx rfl a2
                have e7 := below_fact hx rfl a3
                go_simp
                try rfl
              go_simp
              refine hK1 _ ?_
              clear hK1 K1
              refine wpPre_e rfl rfl (fun K1 hK1 => ?_)
              apply Exists.intro
              refine And.intro (fun wx hx => ?_) ?_
              · go_simp
                try rfl
              go_simp
              refine hK1 _ ?_
              clear hK1 K1
              refine wpPre_e rfl rfl (fun K1 hK1 => ?_)
              apply Exists.intro
              refine And.intro (fun wx hx => ?_) ?_
              · go_simp
                try rfl
              go_simp
              refine hK1 _ ?_
              clear hK1 K1
              refine wpPre_e rfl rfl (fun K1 hK1 => ?_)
              apply Exists.intro
              refine And.intro (fun wx hx => ?_) ?_
              · go_simp
                try rfl
              go_simp
              refine hK1 _ ?_
              clear hK1 K1
              refine wpPre_e rfl rfl (fun K1 hK1 => ?_)
              apply Exists.intro
              refine And.intro (fun wx hx => ?_) ?_
              · have e0 := below_fact hx rfl d0
                have e1 := below_fact hx rfl d1
                have e2 := below_fact hx rfl d2
                have e3 := below_fact hx rfl d3
                have e4 := below_fact hx rfl a0
                have e5 := below_fact hx rfl a1
                have e6 := below_fact hx rfl a2
                have e7 := below_fact hx rfl a3
                go_simp
                try rfl
              go_simp
              refine hK1 _ ?_
              clear hK1 K1
              refine wpPre_e rfl rfl (fun K1 hK1 => ?_)
              apply Exists.intro
              refine And.intro (fun wx hx => ?_) ?_
              · go_simp
                try rfl
              go_simp
              refine hK1 _ ?_
              clear hK1 K1
              refine wpPre_nil ?_
              refine wpTr_done ?_
              go_wp2
              go_roundw
              case rel =>
                refine ⟨k + 1, by omega, by go_num, fun q hq => ?_, HBr.out.drew⟩
                by_cases hqk : q < k
                · exact HNo.out q hqk
                · obtain rfl : q = k := by omega
                  exact HE.out
              case measure => simp [intOf]; omega
          · have HE : Hid (l.item k ≠ v) := fun h => h2 (by rw [h])
            rw [h0] at a0
            rw [h1] at a1
            have h2s : ¬ v.port = (l.item k).port := fun h => h2 h.symm
            clear h0 h1
            go_upto_region 4 with fail
            refine wp_region_calmE 30 (fun wx => Below wr.heap.size wr wx) [(0, false), (1, true), (2, true), (3, true), (4, false), (5, true)] .done (by kernel_rfl) (by kernel_rfl) (Below.refl _ _).drew ?_
            refine wpPre_e rfl rfl (fun K1 hK1 => ?_)
            apply Exists.intro
            refine And.intro (fun wx hx => ?_) ?_
            · have e0 := below_fact hx rfl d0
              have e1 := below_fact hx rfl d1
              have e2 := below_fact hx rfl d2
              have e3 := below_fact hx rfl d3
              have e4 := below_fact hx rfl a0
              have e5 := below_fact hx rfl a1
              have e6 := below_fact hx rfl a2
              have e7 := below_fact hx rfl a3
              go_simp
              try rfl
            go_simp
            refine hK1 _ ?_
            clear hK1 K1
            refine wpPre_e rfl rfl (fun K1 hK1 => ?_)
            apply Exists.intro
            refine And.intro (fun wx hx => ?_) ?_
            · go_simp
              try rfl
            go_simp
            refine hK1 _ ?_
            clear hK1 K1
            refine wpPre_e rfl rfl (fun K1 hK1 => ?_)
            apply Exists.intro
            refine And.intro (fun wx hx => ?_) ?_
            · go_simp
              try rfl
            go_simp
            refine hK1 _ ?_
            clear hK1 K1
            refine wpPre_e rfl rfl (fun K1 hK1 => ?_)
            apply Exists.intro
            refine And.intro (fun wx hx => ?_) ?_
            · go_simp
              try rfl
            go_simp
            refine hK1 _ ?_
            clear hK1 K1
            refine wpPre_e rfl rfl (fun K1 hK1 => ?_)
            apply Exists.intro
            refine And.intro (fun wx hx => ?_) ?_
            · have e0 := below_fact hx rfl d0
              have e1 := below_fact hx rfl d1
              have e2 := below_fact hx rfl d2
              have e3 := below_fact hx rfl d3
              have e4 := below_fact hx rfl a0
              have e5 := below_fact hx rfl a1
              have e6 := below_fact hx rfl a2
              have e7 := below_fact hx rfl a3
              go_simp
              try rfl
            go_simp
            refine hK1 _ ?_
            clear hK1 K1
            refine wpPre_e rfl rfl (fun K1 hK1 => ?_)
            apply Exists.intro
            refine And.intro (fun wx hx => ?_) ?_
            · go_simp
              try rfl
            go_simp
            refine hK1 _ ?_
            clear hK1 K1
            refine wpPre_nil ?_
            refine wpTr_done ?_
            go_wp2
            go_roundw
            case rel =>
              refine ⟨k + 1, by omega, by go_num, fun q hq => ?_, HBr.out.drew⟩
              by_cases hqk : q < k
              · exact HNo.out q hqk
              · obtain rfl : q = k := by omega
                exact HE.out
            case measure => simp [intOf]; omega
        · have HE : Hid (l.item k ≠ v) := fun h => h1 (by rw [h])
          rw [h0] at a0
          have h1s : ¬ v.task = (l.item k).task := fun h => h1 h.symm
          clear h0
          go_upto_region 4 with fail
          refine wp_region_calmE 30 (fun wx => Below wr.heap.size wr wx) [(0, false), (1, true), (2, true), (3, true), (4, false), (5, true)] .done (by kernel_rfl) (by kernel_rfl) (Below.refl _ _).drew ?_
          refine wpPre_e rfl rfl (fun K1 hK1 => ?_)
          apply Exists.intro
          refine And.intro (fun wx hx => ?_) ?_
          · have e0 := below_fact hx rfl d0
            have e1 := below_fact hx rfl d1
            have e2 := below_fact hx rfl d2
            have e3 := below_fact hx rfl d3
            have e4 := below_fact hx rfl a0
            have e5 := below_fact hx rfl a1
            have e6 := below_fact hx rfl a2
            have e7 := below_fact hx rfl a3
            go_simp
            try rfl
          go_simp
          refine hK1 _ ?_
          clear hK1 K1
          refine wpPre_e rfl rfl (fun K1 hK1 => ?_)
          apply Exists.intro
          refine And.intro (fun wx hx => ?_) ?_
          · go_simp
            try rfl
          go_simp
          refine hK1 _ ?_
          clear hK1 K1
          refine wpPre_e rfl rfl (fun K1 hK1 => ?_)
          apply Exists.intro
          refine And.intro (fun wx hx => ?_) ?_
          · go_simp
            try rfl
          go_simp
          refine hK1 _ ?_
          clear hK1 K1
          refine wpPre_e rfl rfl (fun K1 hK1 => ?_)
          apply Exists.intro
          refine And.intro (fun wx hx => ?_) ?_
          · go_simp
            try rfl
          go_simp
          refine hK1 _ ?_
          clear hK1 K1
          refine wpPre_e rfl rfl (fun K1 hK1 => ?_)
          apply Exists.intro
          refine And.intro (fun wx hx => ?_) ?_
          · have e0 := below_fact hx rfl d0
            have e1 := below_fact hx rfl d1
            have e2 := below_fact hx rfl d2
            have e3 := below_fact hx rfl d3
            have e4 := below_fact hx rfl a0
            have e5 := below_fact hx rfl a1
            have e6 := below_fact hx rfl a2
            have e7 := below_fact hx rfl a3
            go_simp
            try rfl
          go_simp
          refine hK1 _ ?_
          clear hK1 K1
          refine wpPre_e rfl rfl (fun K1 hK1 => ?_)
          apply Exists.intro
          refine And.intro (fun wx hx => ?_) ?_
          · go_simp
            try rfl
          go_simp
          refine hK1 _ ?_
          clear hK1 K1
          refine wpPre_nil ?_
          refine wpTr_done ?_
          go_wp2
          go_roundw
          case rel =>
            refine ⟨k + 1, by omega, by go_num, fun q hq => ?_, HBr.out.drew⟩
            by_cases hqk : q < k
            · exact HNo.out q hqk
            · obtain rfl : q = k := by omega
              exact HE.out
          case measure => simp [intOf]; omega
      · have HE : Hid (l.item k ≠ v) := fun h => h0 (by rw [h])
        have h0s : ¬ v.kind = (l.item k).kind := fun h => h0 h.symm
        go_upto_region 4 with fail
        refine wp_region_calmE 30 (fun wx => Below wr.heap.size wr wx) [(0, false), (1, true), (2, true), (3, true), (4, false), (5, true)] .done (by kernel_rfl) (by kernel_rfl) (Below.refl _ _).drew ?_
        refine wpPre_e rfl rfl (fun K1 hK1 => ?_)
        apply Exists.intro
        refine And.intro (fun wx hx => ?_) ?_
        · have e0 := below_fact hx rfl d0
          have e1 := below_fact hx rfl d1
          have e2 := below_fact hx rfl d2
          have e3 := below_fact hx rfl d3
          have e4 := below_fact hx rfl a0
          have e5 := below_fact hx rfl a1
          have e6 := below_fact hx rfl a2
          have e7 := below_fact hx rfl a3
          go_simp
          try rfl
        go_simp
        refine hK1 _ ?_
        clear hK1 K1
        refine wpPre_e rfl rfl (fun K1 hK1 => ?_)
        apply Exists.intro
        refine And.intro (fun wx hx => ?_) ?_
        · go_simp
          try rfl
        go_simp
        refine hK1 _ ?_
        clear hK1 K1
        refine wpPre_e rfl rfl (fun K1 hK1 => ?_)
        apply Exists.intro
        refine And.intro (fun wx hx => ?_) ?_
        · go_simp
          try rfl
        go_simp
        refine hK1 _ ?_
        clear hK1 K1
        refine wpPre_e rfl rfl (fun K1 hK1 => ?_)
        apply Exists.intro
        refine And.intro (fun wx hx => ?_) ?_
        · go_simp
          try rfl
        go_simp
        refine hK1 _ ?_
        clear hK1 K1
        refine wpPre_e rfl rfl (fun K1 hK1 => ?_)
        apply Exists.intro
        refine And.intro (fun wx hx => ?_) ?_
        · have e0 := below_fact hx rfl d0
          have e1 := below_fact hx rfl d1
          have e2 := below_fact hx rfl d2
          have e3 := below_fact hx rfl d3
          have e4 := below_fact hx rfl a0
          have e5 := below_fact hx rfl a1
          have e6 := below_fact hx rfl a2
          have e7 := below_fact hx rfl a3
          go_simp
          try rfl
        go_simp
        refine hK1 _ ?_
        clear hK1 K1
        refine wpPre_e rfl rfl (fun K1 hK1 => ?_)
        apply Exists.intro
        refine And.intro (fun wx hx => ?_) ?_
        · go_simp
          try rfl
        go_simp
        refine hK1 _ ?_
        clear hK1 K1
        refine wpPre_nil ?_
        refine wpTr_done ?_
        go_wp2
        go_roundw
        case rel =>
          refine ⟨k + 1, by omega, by go_num, fun q hq => ?_, HBr.out.drew⟩
          by_cases hqk : q < k
          · exact HNo.out q hqk
          · obtain rfl : q = k := by omega
            exact HE.out
        case measure => simp [intOf]; omega
    · obtain rfl : k = l.n := by omega
      go_wp2
      go_ret
      exact ⟨.inl ⟨rfl, HNo.out⟩, HB.out.trans (HBr.out.mono HB.out.size)⟩
end Go.Proofs.Ytdpfgflofjiheaa
