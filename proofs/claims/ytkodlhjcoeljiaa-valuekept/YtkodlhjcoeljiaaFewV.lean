import Derived.Test.YtkodlhjcoeljiaaFew
namespace Go.Proofs.Ytkodlhjcoeljiaa
open Go.RowKit
set_option maxRecDepth 8000

set_option maxHeartbeats 4000000 in
theorem values_of (k i : Int) (s : ByteArray) (n : Nat) (p : Option Addr) (c : Nat) (f : Nat → VT) (ih : ∀ j, WithinC (f j)) (base : Nat) (w : World) (R : RS) (S : Nat → Prop) (hR : Rm base w R) (hbase : base ≤ w.heap.size) (hin : VT.In w S (.mk k i s n p c f)) (hS : ∀ b, S b → ¬ R.hot b) (hcnt : ∀ q, q < 10 → (R.L q).length + 1 + (VT.mk k i s n p c f).total ≤ 100000) :
    Calls Try.prog 36 #[.pointer (some ⟨R.rb, 0, none⟩), .slice p n c] w fun e w' => FPost base w R (.mk k i s n p c f) e w' := by
  have hnn : n ≤ 100000 := by have := hcnt 0 (by omega); rw [VT.total_upto] at this; simp only [VT.n_mk] at this; omega
  obtain ⟨i0, Kd⟩ := kindV
  obtain ⟨i1, Kd1⟩ := kindVs
  have HI : Hid (VT.In w S (.mk k i s n p c f)) := hin
  have HSS : Hid (∀ b, S b → ¬ R.hot b) := hS
  have HCn : Hid (∀ q, q < 10 → (R.L q).length + 1 + (VT.mk k i s n p c f).total ≤ 100000) := hcnt
  have HR : Hid (Rm base w R) := hR
  clear hin hS hcnt hR
  go_enter Try.func36, Try.ntmps36
  go_wp2_with fail
  have hF0 : Fill w.heap.size (w.alloc (.cells #[] 24)) R (.slice (some ⟨w.heap.size, 0, none⟩) 0 0) 0 f := Fill.nil _ _ _ _ (Nat.le_refl _) fun b hb => HR.out.footlt hb
  have hb0 : Below w.heap.size w (w.alloc (.cells #[] 24)) := (Below.refl _ _).alloc (Nat.le_refl _) _
  have hR0 : Rm base (w.alloc (.cells #[] 24)) R := HR.out.below hb0
  go_loopw [5, 6] (fun v x wr => ∃ (j : Nat) (g : Nat → VT) (Rj : RS), j ≤ n ∧ x = .int .i64 j ∧ Fill w.heap.size wr Rj v j g ∧ (∀ q, q < j → VT.Alike (f q) (g q)) ∧ Rm base wr Rj ∧ Next w R Rj ∧ But R.hot w wr ∧ (∀ q, q < 10 → (Rj.L q).length ≤ (R.L q).length + j + VT.upto (.mk k i s n p c f) j)) (fun _ x _ => n - (intOf x).toNat)
  case atStart => exact ⟨0, f, R, Nat.zero_le _, rfl, hF0, fun q hq => absurd hq (by omega), hR0, Next.refl _ _, But.ofBelow hb0, fun q hq => by omega⟩
  case round =>
    obtain ⟨j, g, Rj, hj, rfl, hF, hal, hRj, hNx, hBt, hCn⟩ := hrel
    clear hF0 hb0 hR0
    have hrb := hNx.rb
    by_cases hlt : j < n
    · have hlt' : (j : Int) < (n : Int) := by omega
      obtain ⟨bb, o, hp, hSb, hbl, hat⟩ := HI.out.at_ (show 0 < (VT.mk k i s n p c f).n from by simp only [VT.n]; omega)
      simp only [VT.p_mk] at hp
      subst hp
      obtain ⟨c0, c1, c2, c3⟩ := (hat j hlt).kept (hBt.block bb hbl (HSS.out bb hSb))
      simp only [VT.item_mk] at c0 c1 c2 c3
      have HC : Hid (Calls Try.prog 60 #[.pointer (some ⟨R.rb, 0, none⟩), (f j).val] wr fun e w' => WPost base wr Rj (f j) e w') := by
        have h := ih j base wr Rj (fun b => S b ∧ b < w.heap.size) hRj (Nat.le_trans hbase hBt.size) (((HI.out.sub hlt).mono fun b hb hl => ⟨hb, hl⟩).kept hBt.size (fun b hb hl => hBt.block b hb.2 (HSS.out b hb.1))) (fun b hb hh => ?_) (fun q hq => ?_)
        · rw [hrb] at h; exact h
        · rcases hNx.hot b hh with h2 | h2
          · exact HSS.out b hb.1 h2
          · have := hb.2; omega
        · have h1 := hCn q hq
          have h2 := HCn.out q hq
          have h3 := VT.upto_succ (.mk k i s n (some ⟨bb, o, none⟩) c f) j
          have h4 := VT.upto_mono (.mk k i s n (some ⟨bb, o, none⟩) c f) (show j + 1 ≤ n from hlt)
          rw [VT.total_upto] at h2
          simp only [VT.n_mk, VT.item_mk] at h2 h3 h4
          omega
      have HU : Hid (VT.upto (.mk k i s n (some ⟨bb, o, none⟩) c f) (j + 1) = VT.upto (.mk k i s n (some ⟨bb, o, none⟩) c f) j + (f j).total) := VT.upto_succ _ j
      unfold VT.val at HC
      have HX : Hid (Fill w.heap.size wr Rj u5 j g ∧ (∀ q, q < j → VT.Alike (f q) (g q)) ∧ Rm base wr Rj ∧ Next w R Rj ∧ But R.hot w wr ∧ (∀ q, q < 10 → (Rj.L q).length ≤ (R.L q).length + j + VT.upto (.mk k i s n (some ⟨bb, o, none⟩) c f) j)) := ⟨hF, hal, hRj, hNx, hBt, hCn⟩
      clear hat hF hal hRj hNx hBt hCn ih
      go_wp2_with (go_at_call 60; refine HC.out.mono ?_)
      intro e w2 hP
      obtain ⟨u, R2, rfl, hu⟩ := hP
      obtain ⟨k', i', s', n', p', c', f', rfl⟩ := hu.in_.mk_
      simp only [VT.val, VT.kind_mk, VT.int_mk, VT.text_mk, VT.p_mk, VT.n_mk, VT.c_mk]
      obtain ⟨hF, hal, hRj, hNx, hBt, hCn⟩ := HX.out
      have hF2 := hF.call hu.but hu.next
      have hs2 := hu.but.size
      have hsw := hBt.size
      have hu2 : VT.In w2 (fun b => w.heap.size ≤ b ∧ u5.ownBlock ≠ some b ∧ ¬ R2.hot b) (.mk k' i' s' n' p' c' f') := by
        refine hu.in_.mono fun b hb hl => ⟨by omega, fun e => ?_, hb.2⟩
        have := (hF.row.lt b e).2
        omega
      have HY : Hid (Fill w.heap.size w2 R2 u5 j g ∧ VT.In w2 (fun b => w.heap.size ≤ b ∧ u5.ownBlock ≠ some b ∧ ¬ R2.hot b) (.mk k' i' s' n' p' c' f') ∧ Roomed base wr Rj (f j) (.mk k' i' s' n' p' c' f') w2 R2) := ⟨hF2, hu2, hu⟩
      have hRow := hF2.row
      have hsz2 : w.heap.size ≤ w2.heap.size := by omega
      clear hF hal hRj hNx hBt hCn hF2 hu2 hu c0 c1 c2 c3 HC hs2 hsw
      go_wp2_with (at_builtin; refine wpList_app rfl (.tmp 15) (.tmp 22) 22 24 i0 _ 4 56 Kd rfl w.heap.size u5 j _ rfl (hRow.alloc _) ⟨w2.heap.size, 0, none⟩ 1 1 [.int .i64 k', .int .i64 i', .string s', .slice p' n' c'] rfl rfl (news4 _ _ _ _ _ _) (oneCell_cells (.mk k' i' s' n' p' c' f')) ?_ ?_ ?_ ?_)
      · omega
      · omega
      · simp; omega
      intro v3 w3 ho3 hg3 hn3
      obtain ⟨hF, hal, hRj, hNx, hBt, hCn⟩ := HX.out
      obtain ⟨hF2, hu2, hu⟩ := HY.out
      have ha : Below w2.heap.size w2 (w2.alloc (.cells #[.int .i64 k', .int .i64 i', .string s', .slice p' n' c'] 24)) := (Below.refl _ _).alloc (Nat.le_refl _) _
      have HF3 : Hid (Fill w.heap.size w3 R2 v3 (j + 1) (fun q => if q < j then g q else .mk k' i' s' n' p' c' f')) := (hF2.below ha).push (fun b hb => (hu.rm.below ha).footlt hb) (hu2.below ha) ho3 hg3 hn3
      have HA3 : Hid (∀ q, q < j + 1 → VT.Alike (f q) (if q < j then g q else .mk k' i' s' n' p' c' f')) := by
        intro q hq
        by_cases hqj : q < j
        · rw [if_pos hqj]; exact hal q hqj
        · rw [if_neg hqj]
          obtain rfl : q = j := by omega
          exact hu.alike
      have HR3 : Hid (Rm base w3 R2) := (hF2.below ha).room (hu.rm.below ha) hg3
      have HN3 : Hid (Next w R R2) := hNx.trans hu.next hBt.size
      have HB3 : Hid (But R.hot w w3) := ((hBt.next hNx hu.but).alloc _).grown hg3 fun b hb hl => absurd (hF2.row.lt b hb).1 (by omega)
      have HC3 : Hid (∀ q, q < 10 → (R2.L q).length ≤ (R.L q).length + (j + 1) + VT.upto (.mk k i s n (some ⟨bb, o, none⟩) c f) (j + 1)) := by
        intro q hq
        have h1 := hCn q hq
        have h2 := hu.cnt q hq
        rw [HU.out]; omega
      clear hF hal hRj hNx hBt hCn hF2 hu2 hu ha ho3 hg3 hn3 hRow HX HY
      go_wp2
      go_roundw
      case rel => exact ⟨j + 1, _, R2, by omega, by go_num, HF3.out, HA3.out, HR3.out, HN3.out, HB3.out, HC3.out⟩
      case measure => simp [intOf]; omega
    · obtain rfl : j = n := by omega
      have HA : Hid ((∀ q, q < j → VT.Alike (f q) (g q)) ∧ Next w R Rj ∧ (∀ q, q < 10 → (Rj.L q).length ≤ (R.L q).length + j + VT.upto (.mk k i s j p c f) j)) := ⟨hal, hNx, hCn⟩
      have HRj : Hid (Rm base wr Rj) := hRj
      have hF1 : Fill w.heap.size wr Rj u5 (j + 0) (fun q => if q < j then g q else markV (q - j)) := hF.congr fun q hq => by rw [if_pos hq]
      clear hal hNx hCn ih hF hRj
      go_wp2_with fail
      go_loopw [5, 7] (fun v x wr => ∃ m : Nat, m ≤ 40 ∧ x = .int .i64 m ∧ Fill w.heap.size wr Rj v (j + m) (fun q => if q < j then g q else markV (q - j)) ∧ Rm base wr Rj ∧ But R.hot w wr) (fun _ x _ => 40 - (intOf x).toNat)
      case atStart => exact ⟨0, by omega, rfl, hF1, HRj.out, hBt⟩
      case round =>
        obtain ⟨m, hm, rfl, hFm, hRm, hBm⟩ := hrel
        clear hF1 hBt
        by_cases hlt4 : m < 40
        · have hlt4' : (m : Int) < 40 := by omega
          have HLo := lot_any m (by omega)
          have HMk := fun W => mark_any (lotN m) W
          have HX : Hid (Fill w.heap.size wr Rj u5 (j + m) (fun q => if q < j then g q else markV (q - j)) ∧ Rm base wr Rj ∧ But R.hot w wr) := ⟨hFm, hRm, hBm⟩
          have hlo : -7702 ≤ lotN m ∧ lotN m ≤ -7701 := by unfold lotN; split <;> omega
          obtain ⟨l1, l2⟩ := hlo
          clear hFm hRm hBm
          go_wp2_with (first | (go_at_call 53; refine (HLo _).mono ?_; rintro e w2 ⟨rfl, rfl⟩) | (go_at_call 61; refine (HMk _).mono ?_))
          rintro e w4 ⟨rfl, hb4⟩
          obtain ⟨hFm, hRm, hBm⟩ := HX.out
          have hF4 := hFm.below hb4
          have hR4 := hRm.below hb4
          have hB4 := hBm.trans (But.ofBelow hb4)
          have hsw := hB4.size
          have hRow := hF4.row
          have HY : Hid (Fill w.heap.size w4 Rj u5 (j + m) (fun q => if q < j then g q else markV (q - j)) ∧ Rm base w4 Rj ∧ But R.hot w w4) := ⟨hF4, hR4, hB4⟩
          clear hFm hRm hBm hF4 hR4 hB4 hb4 HX HLo HMk
          go_wp2_with (at_builtin; refine wpList_app rfl (.tmp 28) (.tmp 32) 22 24 i0 _ 4 56 Kd rfl w.heap.size u5 (j + m) _ rfl (hRow.alloc _) ⟨w4.heap.size, 0, none⟩ 1 1 [.int .i64 1, .int .i64 (lotN m), .string ⟨#[]⟩, .slice none 0 0] rfl rfl (news4 _ _ _ _ _ _) (oneCell_cells (markV m)) ?_ ?_ ?_ ?_)
          · omega
          · omega
          · simp; omega
          intro v5 w5 ho5 hg5 hn5
          obtain ⟨hF4, hR4, hB4⟩ := HY.out
          have ha : Below w4.heap.size w4 (w4.alloc (.cells #[.int .i64 1, .int .i64 (lotN m), .string ⟨#[]⟩, .slice none 0 0] 24)) := (Below.refl _ _).alloc (Nat.le_refl _) _
          have HF5 : Hid (Fill w.heap.size w5 Rj v5 (j + (m + 1)) (fun q => if q < j then g q else markV (q - j))) := by
            have h := (hF4.below ha).push (u := markV m) (fun b hb => (hR4.below ha).footlt hb) (markV_in _ _ m) ho5 hg5 hn5
            refine h.congr fun q hq => ?_
            by_cases h1 : q < j + m
            · simp only [if_pos h1]
            · obtain rfl : q = j + m := by omega
              rw [if_neg h1, if_neg (by omega), Nat.add_sub_cancel_left]
          have HR5 : Hid (Rm base w5 Rj) := (hF4.below ha).room (hR4.below ha) hg5
          have HB5 : Hid (But R.hot w w5) := (hB4.alloc _).grown hg5 fun b hb hl => absurd (hF4.row.lt b hb).1 (by omega)
          clear hF4 hR4 hB4 ha ho5 hg5 hn5 hRow HY
          go_wp2
          go_roundw
          case rel => exact ⟨m + 1, by omega, by go_num, HF5.out, HR5.out, HB5.out⟩
          case measure => simp [intOf]; omega
        · obtain rfl : m = 40 := by omega
          obtain ⟨gb, cap, hv, hgB, hgl, hcap⟩ : ∃ gb cap, u5 = .slice (some ⟨gb, 0, none⟩) (j + 40) cap ∧ w.heap.size ≤ gb ∧ gb < wr.heap.size ∧ j + 40 ≤ cap := by
            have hlt := hFm.row.lt
            obtain ⟨_, ⟨hv, h0⟩ | ⟨gb, cap, cur, hv, hbg, hh, hnc, _⟩⟩ := id hFm.row
            · omega
            · exact ⟨gb, cap, hv, hbg, (hlt gb (by rw [hv]; rfl)).2, hnc⟩
          subst hv
          have hrow3 := hRm.row 2 (by omega)
          have hb3 := hRm.box.cell 2
          rw [HA.out.2.1.rb] at hb3
          simp at hb3
          have hl3 : (Rj.L 2).length < 100000 := by
            have h1 := HA.out.2.2 2 (by omega)
            have h2 := HCn.out 2 (by omega)
            rw [VT.total_upto] at h2
            simp only [VT.n_mk] at h2
            omega
          have HX : Hid (Fill w.heap.size wr Rj (.slice (some ⟨gb, 0, none⟩) (j + 40) cap) (j + 40) (fun q => if q < j then g q else markV (q - j)) ∧ Rm base wr Rj ∧ But R.hot w wr) := ⟨hFm, hRm, hBm⟩
          have hbw : base ≤ wr.heap.size := Nat.le_trans hbase hBm.size
          clear hFm hRm hBm
          go_wp2_with (at_builtin; refine wpList_app rfl (.tmp 38) (.tmp 40) 30 22 i1 _ 1 24 Kd1 rfl base (Rj.F 2) (Rj.L 2).length ((Rj.L 2).map Made.val) rfl (hrow3.alloc _) ⟨wr.heap.size, 0, none⟩ 1 1 [.slice (some ⟨gb, 0, none⟩) (j + 40) cap] rfl rfl (cell_one_new _ _ _) ?_ ?_ ?_ ?_ ?_)
          · intro u hu
            simp only [List.mem_singleton] at hu
            subst hu
            rfl
          · omega
          · omega
          · simp; omega
          intro v5 w5 ho5 hg5 hn5
          obtain ⟨hFm, hRm, hBm⟩ := HX.out
          have hmk : Marks wr 2 ⟨gb, j + 40, cap⟩ := by
            refine ⟨⟨by show 40 ≤ j + 40; omega, by show j + 40 ≤ 281474976710656; omega⟩, fun q hq r hr => ?_⟩
            have hq4 : q < 40 := hq
            have hr4 : r < 4 := hr
            have hc := hFm.row.cells (g := gb) rfl ((j + q) * 4 + r)
            have e : ((List.range (j + 40)).flatMap fun q => (if q < j then g q else markV (q - j)).cells)[(j + q) * 4 + r]? = (markV q).cells[r]? := by
              rw [flat_get _ (j + 40) (j + q) r (by omega) hr4, if_neg (by omega), Nat.add_sub_cancel_left]
            have hsome : ∃ u, (markV q).cells[r]? = some u := ⟨(markV q).cells[r]'(by simp [VT.cells]; omega), List.getElem?_eq_getElem _⟩
            obtain ⟨u, hu⟩ := hsome
            have h1 := hc u (by rw [e]; exact hu)
            rw [Go.WideShapes.add_plain] at h1
            show wr.cell? ⟨gb, (j + 40 - 40 + q) * 4 + r, none⟩ = (markV q).cells[r]?
            rw [hu, ← h1]
            congr 2
            omega
          have hsep := hFm.sep gb rfl
          have hput := hRm.put (i := 2) (v := v5) (x := ⟨gb, j + 40, cap⟩) (by omega) hmk hgl (fun h => hsep (.inl h)) ((Below.refl _ _).alloc (Nat.le_refl _) _) ho5 hg5 hn5 hl3
          obtain ⟨q5, e5, hv5⟩ := ownsRow_slice ho5
          obtain ⟨x3, y3, z3⟩ : w5.cell? ⟨R.rb, 2, none⟩ = some (Rj.F 2) ∧ w5.frozen? ⟨R.rb, 2, none⟩ = false ∧ R.rb < w5.heap.size := by
            have h := (hRm.box.below ((Below.refl _ _).alloc (Nat.le_refl _) (.cells #[.slice (some ⟨gb, 0, none⟩) (j + 40) cap] 22)))
            have h2 := h.kept (hg5.block _ h.lt fun e => hRm.off 2 (by omega) e.symm)
            rw [hrb] at h2
            exact ⟨by have := h2.cell 2; simpa using this, h2.frozen 2, h2.lt⟩
          subst hv5
          have HP : Hid (FPost base w R (.mk k i s j p c f) (.returned (.slice (some ⟨gb, 0, none⟩) j (j + 40))) (w5.setCell ⟨R.rb, 2, none⟩ (.slice q5 ((Rj.L 2).length + 1) e5))) := by
            rw [hrb] at hput
            exact few_post HA.out.1 HA.out.2.1 HA.out.2.2 HI.out.fit hgB hgl hcap hFm hBm hput (by omega) (by omega)
          clear hFm hRm hBm hmk hput ho5 hg5 hn5 hrow3 HX
          go_wp2
          go_ret
          exact HP.out
end Go.Proofs.Ytkodlhjcoeljiaa
