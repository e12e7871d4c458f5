import Derived.Test.YtdpfgflofjiheaaPack14
import Derived.Test.YtdpfgflofjiheaaPack7
namespace Go.Proofs.Ytdpfgflofjiheaa
open Go.RowKit
set_option maxRecDepth 8000
theorem evsF_shift (f : Nat → TR) (a d : Nat) : evsF (fun j => f (a + j)) (fun _ => true) 0 d = evsF f (fun _ => true) a d := by
  induction d with
  | zero => rfl
  | succ d ih =>
    rw [evsF, evsF, ih, Nat.zero_add]
set_option maxHeartbeats 8000000 in
theorem steps_any (l : LT TR) (w : World) (S : Nat → Prop) (hl : LT.In elTr w S l) (h47 : l.n * 32 ≤ 140737488355328) :
    Calls Try.prog 26 #[.slice l.p l.n l.c] w fun e w' => EvQ (evsF l.item (fun _ => true) 0 l.n) w e w' := by
  have hnn := hl.nn
  have H := hid hl
  obtain ⟨i0, Kd⟩ := kindEv
  have HKd := hid Kd
  have H47 := hid h47
  clear hl Kd h47
  go_enter Try.func26, Try.ntmps26
  go_wp2_with fail
  go_loopw [3, 8] (fun x y wr => ∃ k : Nat, k ≤ l.n ∧ y = .int .i64 (k : Int) ∧ EvRow w.heap.size wr x (evsF l.item (fun _ => true) 0 k) ∧ Below w.heap.size w wr) (fun _ y _ => l.n - (intOf y).toNat)
  case atStart => exact ⟨0, Nat.zero_le _, rfl, EvRow.nil _ _, Below.refl _ _⟩
  case round =>
    obtain ⟨k, hk, rfl, hr, hbl⟩ := hrel
    have HR := hid hr
    have HB := hid hbl
    clear hr hbl
    by_cases hlt : k < l.n
    · have hlt' : (k : Int) < (l.n : Int) := by omega
      obtain ⟨b1, o1, hp, _, hl1, ha⟩ := (H.out.below HB.out).tr (by omega)
      obtain ⟨a0, a1, a2, a3⟩ := ha k hlt
      rw [hp]
      clear ha hp
      obtain ⟨V, hV⟩ : ∃ X, X = wr.alloc (.cells #[.int .i64 (l.item k).kind, .int .i64 (l.item k).task, .int .i64 (l.item k).port, .int .i64 (l.item k).id] 37) := ⟨_, rfl⟩
      have bx : Box V wr.heap.size #[.int .i64 (l.item k).kind, .int .i64 (l.item k).task, .int .i64 (l.item k).port, .int .i64 (l.item k).id] 37 := by rw [hV]; exact Box.new _ _ _
      have hbV : Below wr.heap.size wr V := by rw [hV]; exact below1 _ _
      have q0 := bx.cell 0
      have q1 := bx.cell 1
      have q2 := bx.cell 2
      have q3 := bx.cell 3
      simp at q0 q1 q2 q3
      have HV := hid hV
      have HBV : Hid (Below w.heap.size w V) := HB.out.trans (hbV.mono HB.out.size)
      have HRV := hid (HR.out.below hbV)
      clear hV bx hbV
      by_cases h1 : (l.item k).kind = 1
      · have HE : Hid (evsF l.item (fun _ => true) 0 (k + 1) = evsF l.item (fun _ => true) 0 k ++ [(l.item k).ev]) := by
          show _ = _
          rw [evsF_yes (by rw [Nat.zero_add]; exact h1) rfl, Nat.zero_add]
        have HEv := hid (eventOf_any 1 (l.item k).task (l.item k).port (l.item k).id V)
        have hlen : (evsF l.item (fun _ => true) 0 k).length ≤ k := evsF_len _ _ _ _
        have h47 := H47.out
        have HK1 := hid h1
        clear h1
        go_upto_region 5 with fail
        rw [← HV.out]
        rw [HK1.out] at q0 ⊢
        go_wp2_with fail
        refine HEv.out.mono ?_
        rintro e V2 ⟨rfl, hb2⟩
        have HR2 := hid (HRV.out.below hb2)
        have HB2 : Hid (Below w.heap.size w V2) := HBV.out.trans (hb2.mono HBV.out.size)
        clear hb2
        go_wp2_with (at_builtin; refine wpList_app rfl (.tmp 15) (.tmp 18) 31 39 i0 _ 2 16 HKd.out rfl w.heap.size u3 (evsF l.item (fun _ => true) 0 k).length _ rfl (World.ownsRow.alloc HR2.out _) ⟨V2.heap.size, 0, none⟩ 1 1 [.int .i64 (l.item k).task, .int .i64 (l.item k).port] rfl rfl (news2 V2 _ _) (one2 _ _) (by omega) (by omega) (by have := HB2.out.size; simp; omega) ?_)
        intro v3 w3 ho3 hg3 hn3
        obtain ⟨pp, cc, rfl⟩ := ownsRow_slice ho3
        have HR3 : Hid (EvRow w.heap.size w3 (.slice pp ((evsF l.item (fun _ => true) 0 k).length + 1) cc) (evsF l.item (fun _ => true) 0 k ++ [(l.item k).ev])) := EvRow.push ho3
        have HB3 : Hid (Below w.heap.size w w3) := (HB2.out.trans ((below1 V2 _).mono HB2.out.size)).grown hg3 (by have := HB2.out.size; simp; omega) (fun q hq => (HR2.out.lt q hq).1)
        clear ho3 hg3 hn3
        go_wp2
        go_roundw
        case rel => exact ⟨k + 1, by omega, by go_num, by rw [HE.out]; exact HR3.out, HB3.out⟩
        case measure => simp [intOf]; omega
      · have HE : Hid (evsF l.item (fun _ => true) 0 (k + 1) = evsF l.item (fun _ => true) 0 k) := evsF_no (by rw [Nat.zero_add]; exact fun h => h1 h.1)
        go_upto_region 5 with fail
        rw [← HV.out]
        go_wp2
        go_roundw
        case rel => exact ⟨k + 1, by omega, by go_num, by rw [HE.out]; exact HRV.out, HBV.out⟩
        case measure => simp [intOf]; omega
    · obtain rfl : k = l.n := by omega
      obtain ⟨pp, cc, rfl⟩ := ownsRow_slice HR.out
      go_wp2
      go_ret
      exact ⟨_, rfl, HR.out, HB.out⟩
end Go.Proofs.Ytdpfgflofjiheaa

namespace Go.Proofs.Ytdpfgflofjiheaa
open Go.RowKit
set_option maxRecDepth 8000

/-- the first place of v -/
def YNeQ (l : LT EV) (v : EV) (e : Ending) : Prop := (e = .returned (.int .i64 (-1)) ∧ ∀ q, q < l.n → l.item q ≠ v) ∨ ∃ k : Nat, k < l.n ∧ e = .returned (.int .i64 (k : Int)) ∧ l.item k = v ∧ ∀ q, q < k → l.item q ≠ v
set_option maxHeartbeats 8000000 in
theorem YNe_any (l : LT EV) (v : EV) (w : World) (S : Nat → Prop) (hl : LT.In elEv w S l) :
    Calls Try.prog 39 #[.slice l.p l.n l.c, .agg #[.int .i64 v.task, .int .i64 v.port]] w fun e w' => YNeQ l v e ∧ Below w.heap.size w w' := by
  have hnn := hl.nn
  obtain ⟨W, hW⟩ : ∃ X, X = w.alloc (.cells #[.int .i64 v.task, .int .i64 v.port] 39) := ⟨_, rfl⟩
  have hx : Box W w.heap.size #[.int .i64 v.task, .int .i64 v.port] 39 := by rw [hW]; exact Box.new _ _ _
  have HB : Hid (Below w.heap.size w W) := by rw [hW]; exact below1 _ _
  have HW := hid hW
  have c0 := hx.cell 0
  have c1 := hx.cell 1
  have xl := hx.lt
  simp at c0 c1
  have H := hid (hl.below HB.out)
  clear hW hx hl
  go_enter Try.func39, Try.ntmps39
  go_upto_region 1 with fail
  rw [← HW.out]
  go_wp2_with fail
  go_loopw [8] (fun x wr => ∃ k : Nat, k ≤ l.n ∧ x = .int .i64 (k : Int) ∧ (∀ q, q < k → l.item q ≠ v) ∧ Below W.heap.size W wr) (fun x _ => l.n - (intOf x).toNat)
  case atStart => exact ⟨0, Nat.zero_le _, rfl, fun q hq => absurd hq (by omega), Below.refl _ _⟩
  case round =>
    obtain ⟨k, hk, rfl, hno, hb⟩ := hrel
    have HNo := hid hno
    have HBr := hid hb
    have d0 := (World.cell?_of_block (a := ⟨w.heap.size, 0, none⟩) (hb.block w.heap.size xl)).trans c0
    have d1 := (World.cell?_of_block (a := ⟨w.heap.size, 1, none⟩) (hb.block w.heap.size xl)).trans c1
    have xr : w.heap.size < wr.heap.size := Nat.lt_of_lt_of_le xl hb.size
    clear hno hb
    by_cases hlt : k < l.n
    · have hlt' : (k : Int) < (l.n : Int) := by omega
      obtain ⟨b1, o1, hp, _, hl1, ha⟩ := (H.out.below HBr.out).ev (by omega)
      obtain ⟨a0, a1⟩ := ha k hlt
      rw [hp]
      clear ha hp
      by_cases h0 : (l.item k).task = v.task
      · by_cases h1 : (l.item k).port = v.port
        · have HE : Hid (l.item k = v) := EV.ext_ h0 h1
          rw [h0] at a0
          rw [h1] at a1
          clear h0 h1
          go_upto_region 4 with fail
          refine wp_region_calmE 30 (fun wx => Below wr.heap.size wr wx) [(0, false), (1, true), (2, true), (3, true), (4, false), (5, true)] .done (by kernel_rfl) (by kernel_rfl) (Below.refl _ _).drew ?_
          refine wpPre_e rfl rfl (fun K1 hK1 => ?_)
          apply Exists.intro
          refine And.intro (fun wx hx => ?_) ?_
          · have e0 := below_fact hx rfl d0
            have e1 := below_fact hx rfl d1
            have e2 := below_fact hx rfl a0
            have e3 := below_fact hx rfl a1
            go_simp
            try rfl
          go_simp
          refine hK1 _ ?_
          clear hK1 K1
          refine wpPre_e rfl rfl (fun K1 hK1 => ?_)
          apply Exists.intro
          refine And.intro (fun wx hx => ?_) ?_
          · go_simp
            try rfl
          go_simp
          refine hK1 _ ?_
          clear hK1 K1
          refine wpPre_e rfl rfl (fun K1 hK1 => ?_)
          apply Exists.intro
          refine And.intro (fun wx hx => ?_) ?_
          · go_simp
            try rfl
          go_simp
          refine hK1 _ ?_
          clear hK1 K1
          refine wpPre_e rfl rfl (fun K1 hK1 => ?_)
          apply Exists.intro
          refine And.intro (fun wx hx => ?_) ?_
          · go_simp
            try rfl
          go_simp
          refine hK1 _ ?_
          clear hK1 K1
          refine wpPre_e rfl rfl (fun K1 hK1 => ?_)
          apply Exists.intro
          refine And.intro (fun wx hx => ?_) ?_
          · have e0 := below_fact hx rfl d0
            have e1 := below_fact hx rfl d1
            have e2 := below_fact hx rfl a0
            have e3 := below_fact hx rfl a1
            go_simp
            try rfl
          go_simp
          refine hK1 _ ?_
          clear hK1 K1
          refine wpPre_e rfl rfl (fun K1 hK1 => ?_)
          apply Exists.intro
          refine And.intro (fun wx hx => ?_) ?_
          · go_simp
            try rfl
          go_simp
          refine hK1 _ ?_
          clear hK1 K1
          refine wpPre_nil ?_
          refine wpTr_done ?_
          go_wp2
          go_ret
          exact ⟨.inr ⟨k, hlt, rfl, HE.out, HNo.out⟩, (HB.out.trans (HBr.out.mono HB.out.size)).drew⟩
        · have HE : Hid (l.item k ≠ v) := fun h => h1 (by rw [h])
          rw [h0] at a0
          have h1s : ¬ v.port = (l.item k).port := fun h => h1 h.symm
          clear h0
          go_upto_region 4 with fail
          refine wp_region_calmE 30 (fun wx => Below wr.heap.size wr wx) [(0, false), (1, true), (2, true), (3, true), (4, false), (5, true)] .done (by kernel_rfl) (by kernel_rfl) (Below.refl _ _).drew ?_
          refine wpPre_e rfl rfl (fun K1 hK1 => ?_)
          apply Exists.intro
          refine And.intro (fun wx hx => ?_) ?_
          · have e0 := below_fact hx rfl d0
            have e1 := below_fact hx rfl d1
            have e2 := below_fact hx rfl a0
            have e3 := below_fact hx rfl a1
            go_simp
            try rfl
          go_simp
          refine hK1 _ ?_
          clear hK1 K1
          refine wpPre_e rfl rfl (fun K1 hK1 => ?_)
          apply Exists.intro
          refine And.intro (fun wx hx => ?_) ?_
          · go_simp
            try rfl
          go_simp
          refine hK1 _ ?_
          clear hK1 K1
          refine wpPre_e rfl rfl (fun K1 hK1 => ?_)
          apply Exists.intro
          refine And.intro (fun wx hx => ?_) ?_
          · go_simp
            try rfl
          go_simp
          refine hK1 _ ?_
          clear hK1 K1
          refine wpPre_e rfl rfl (fun K1 hK1 => ?_)
          apply Exists.intro
          refine And.intro (fun wx hx => ?_) ?_
          · go_simp
            try rfl
          go_simp
          refine hK1 _ ?_
          clear hK1 K1
          refine wpPre_e rfl rfl (fun K1 hK1 => ?_)
          apply Exists.intro
          refine And.intro (fun wx hx => ?_) ?_
          · have e0 := below_fact hx rfl d0
            have e1 := below_fact hx rfl d1
            have e2 := below_fact hx rfl a0
            have e3 := below_fact hx rfl a1
            go_simp
            try rfl
          go_simp
          refine hK1 _ ?_
          clear hK1 K1
          refine wpPre_e rfl rfl (fun K1 hK1 => ?_)
          apply Exists.intro
          refine And.intro (fun wx hx => ?_) ?_
          · go_simp
            try rfl
          go_simp
          refine hK1 _ ?_
          clear hK1 K1
          refine wpPre_nil ?_
          refine wpTr_done ?_
          go_wp2
          go_roundw
          case rel =>
            refine ⟨k + 1, by omega, by go_num, fun q hq => ?_, HBr.out.drew⟩
            by_cases hqk : q < k
            · exact HNo.out q hqk
            · obtain rfl : q = k := by omega
              exact HE.out
          case measure => simp [intOf]; omega
      · have HE : Hid (l.item k ≠ v) := fun h => h0 (by rw [h])
        have h0s : ¬ v.task = (l.item k).task := fun h => h0 h.symm
        go_upto_region 4 with fail
        refine wp_region_calmE 30 (fun wx => Below wr.heap.size wr wx) [(0, false), (1, true), (2, true), (3, true), (4, false), (5, true)] .done (by kernel_rfl) (by kernel_rfl) (Below.refl _ _).drew ?_
        refine wpPre_e rfl rfl (fun K1 hK1 => ?_)
        apply Exists.intro
        refine And.intro (fun wx hx => ?_) ?_
        · have e0 := below_fact hx rfl d0
          have e1 := below_fact hx rfl d1
          have e2 := below_fact hx rfl a0
          have e3 := below_fact hx rfl a1
          go_simp
          try rfl
        go_simp
        refine hK1 _ ?_
        clear hK1 K1
        refine wpPre_e rfl rfl (fun K1 hK1 => ?_)
        apply Exists.intro
        refine And.intro (fun wx hx => ?_) ?_
        · go_simp
          try rfl
        go_simp
        refine hK1 _ ?_
        clear hK1 K1
        refine wpPre_e rfl rfl (fun K1 hK1 => ?_)
        apply Exists.intro
        refine And.intro (fun wx hx => ?_) ?_
        · go_simp
          try rfl
        go_simp
        refine hK1 _ ?_
        clear hK1 K1
        refine wpPre_e rfl rfl (fun K1 hK1 => ?_)
        apply Exists.intro
        refine And.intro (fun wx hx => ?_) ?_
        · go_simp
          try rfl
        go_simp
        refine hK1 _ ?_
        clear hK1 K1
        refine wpPre_e rfl rfl (fun K1 hK1 => ?_)
        apply Exists.intro
        refine And.intro (fun wx hx => ?_) ?_
        · have e0 := below_fact hx rfl d0
          have e1 := below_fact hx rfl d1
          have e2 := below_fact hx rfl a0
          have e3 := below_fact hx rfl a1
          go_simp
          try rfl
        go_simp
        refine hK1 _ ?_
        clear hK1 K1
        refine wpPre_e rfl rfl (fun K1 hK1 => ?_)
        apply Exists.intro
        refine And.intro (fun wx hx => ?_) ?_
        · go_simp
          try rfl
        go_simp
        refine hK1 _ ?_
        clear hK1 K1
        refine wpPre_nil ?_
        refine wpTr_done ?_
        go_wp2
        go_roundw
        case rel =>
          refine ⟨k + 1, by omega, by go_num, fun q hq => ?_, HBr.out.drew⟩
          by_cases hqk : q < k
          · exact HNo.out q hqk
          · obtain rfl : q = k := by omega
            exact HE.out
        case measure => simp [intOf]; omega
    · obtain rfl : k = l.n := by omega
      go_wp2
      go_ret
      exact ⟨.inl ⟨rfl, HNo.out⟩, HB.out.trans (HBr.out.mono HB.out.size)⟩
end Go.Proofs.Ytdpfgflofjiheaa
