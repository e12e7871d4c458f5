import Derived.Test.YtkodlhjcoeljiaaApp2
namespace Go.Proofs.Ytkodlhjcoeljiaa
open Go.RowKit
set_option maxRecDepth 8000

set_option maxHeartbeats 1000000 in
theorem deep_any (t : VT) : ∀ (w : World) (S : Nat → Prop), VT.In w S t → t.total ≤ 10000 →
    Calls Try.prog 8 #[t.val] w fun e w' => ∃ u, e = .returned u.val ∧ VT.Alike t u ∧ VT.In w' (fun b => w.heap.size ≤ b) u ∧ Below w.heap.size w w' := by
  induction t with
  | nil => intro w S hin; exact hin.elim
  | mk k i s n p c f ih =>
    intro w S hin ht
    have hfit := hin.fit
    have hnn := hfit.nn
    simp only [VT.n] at hnn
    have hn1 : n ≤ 10000 := by rw [VT.total_upto] at ht; simp only [VT.n] at ht; omega
    obtain ⟨i0, Kd⟩ := kindV
    simp only [VT.val, VT.kind_mk, VT.int_mk, VT.text_mk, VT.p_mk, VT.n_mk, VT.c_mk]
    have HI : Hid (VT.In w S (.mk k i s n p c f)) := hin
    have HF := hfit
    have HTot : Hid (∀ j, j < n → (f j).total ≤ 10000) := fun j hj => Nat.le_trans (VT.item_total (.mk k i s n p c f) hj) ht
    clear hin hfit ht
    go_enter Try.func8, Try.ntmps8
    go_wp2_with fail
    have hS1 : Box (w.alloc (.cells #[.int .i64 k, .int .i64 i, .string s, .slice p n c] 24)) w.heap.size #[.int .i64 k, .int .i64 i, .string s, .slice p n c] 24 := Box.new _ _ _
    have hS2 := hS1.below ((Below.refl _ _).alloc (Nat.le_refl _) (.cells #[.int .i64 0, .int .i64 0, .string ⟨#[]⟩, .slice none 0 0] 24))
    have hS3 : Box ((w.alloc (.cells #[.int .i64 k, .int .i64 i, .string s, .slice p n c] 24)).alloc (.cells #[.int .i64 0, .int .i64 0, .string ⟨#[]⟩, .slice none 0 0] 24)) (w.heap.size + 1) #[.int .i64 0, .int .i64 0, .string ⟨#[]⟩, .slice none 0 0] 24 := by
      have := Box.new (w.alloc (.cells #[.int .i64 k, .int .i64 i, .string s, .slice p n c] 24)) #[.int .i64 0, .int .i64 0, .string ⟨#[]⟩, .slice none 0 0] 24
      simpa using this
    have hS4 : Below w.heap.size w ((w.alloc (.cells #[.int .i64 k, .int .i64 i, .string s, .slice p n c] 24)).alloc (.cells #[.int .i64 0, .int .i64 0, .string ⟨#[]⟩, .slice none 0 0] 24)) := ((Below.refl _ _).alloc (Nat.le_refl _) _).alloc (by simp) _
    go_loopw [3, 4] (fun v x wr => ∃ (j : Nat) (g : Nat → VT), j ≤ n ∧ x = .int .i64 j ∧ OwnV (w.heap.size + 2) wr v j g ∧ (∀ q, q < j → VT.Alike (f q) (g q)) ∧ Box wr w.heap.size #[.int .i64 k, .int .i64 i, .string s, .slice p n c] 24 ∧
        Box wr (w.heap.size + 1) #[.int .i64 0, .int .i64 0, .string ⟨#[]⟩, .slice none 0 0] 24 ∧ Below w.heap.size w wr) (fun _ x _ => n - (intOf x).toNat)
    case atStart => exact ⟨0, f, Nat.zero_le _, rfl, OwnV.nil _ _ _, fun q hq => absurd hq (by omega), hS2, hS3, hS4⟩
    case round =>
      obtain ⟨j, g, hj, rfl, hO, hal, hB0, hB1, hbel⟩ := hrel
      clear hS1 hS2 hS3 hS4
      have b0 := hB0.cell 0
      have b1 := hB0.cell 1
      have b2 := hB0.cell 2
      have b3 := hB0.cell 3
      simp at b0 b1 b2 b3
      have hlt1 := hB1.lt
      by_cases hlt : j < n
      · have hlt' : (j : Int) < (n : Int) := by omega
        obtain ⟨bb, o, hp, hSb, hbl, hat⟩ := HI.out.at_ (show 0 < (VT.mk k i s n p c f).n from by simp only [VT.n]; omega)
        simp only [VT.p] at hp
        subst hp
        have hA := (hat j hlt).kept (hbel.block bb hbl)
        obtain ⟨c0, c1, c2, c3⟩ := hA
        simp only [VT.item] at c0 c1 c2 c3
        have HC : Hid (Calls Try.prog 8 #[(f j).val] wr fun e w' => ∃ u, e = .returned u.val ∧ VT.Alike (f j) u ∧ VT.In w' (fun b => wr.heap.size ≤ b) u ∧ Below wr.heap.size wr w') :=
          ih j wr (fun b => S b ∧ b < w.heap.size) (((HI.out.sub hlt).mono fun b hb hl => ⟨hb, hl⟩).kept hbel.size (fun b hb _ => hbel.block b hb.2)) (HTot.out j hlt)
        unfold VT.val at HC
        have HAl : Hid (∀ q, q < j → VT.Alike (f q) (g q)) := hal
        clear hat hal
        go_wp2_with (go_at_call 8; refine HC.out.mono ?_)
        rintro e w2 ⟨u, rfl, hal2, hin2, hb2⟩
        obtain ⟨k', i', s', n', p', c', f', rfl⟩ := hin2.mk_
        simp only [VT.kind_mk, VT.int_mk, VT.text_mk, VT.p_mk, VT.n_mk, VT.c_mk]
        have hO2 := hO.below hb2
        have hB02 := hB0.below hb2
        have hB12 := hB1.below hb2
        have hbel2 := hbel.trans (hb2.mono hbel.size)
        have hsz2 := hb2.size
        have hu2 : VT.In w2 (fun b => w.heap.size + 2 ≤ b ∧ u3.ownBlock ≠ some b) (.mk k' i' s' n' p' c' f') := by
          refine hin2.mono fun b hb hl => ⟨by omega, fun e => ?_⟩
          have := (hO.own.lt b e).2
          omega
        have HX : Hid (OwnV (w.heap.size + 2) w2 u3 j g ∧ VT.In w2 (fun b => w.heap.size + 2 ≤ b ∧ u3.ownBlock ≠ some b) (.mk k' i' s' n' p' c' f') ∧ VT.Alike (f j) (.mk k' i' s' n' p' c' f')) := ⟨hO2, hu2, hal2⟩
        have hR := hO2.own
        have hsz1 : w.heap.size + 2 ≤ w2.heap.size := by omega
        have HBe : Hid (Below w.heap.size w w2) := hbel2
        clear hO hin2 hO2 hu2 hal2 hbel hb2 hB0 hB1 b0 b1 b2 b3 c0 c1 c2 c3 HC hbel2
        go_wp2_with (at_builtin; refine wpList_app rfl (.tmp 12) (.tmp 19) 22 24 i0 _ 4 56 Kd rfl (w.heap.size + 2) u3 j _ rfl (hR.alloc _) ⟨w2.heap.size, 0, none⟩ 1 1 [.int .i64 k', .int .i64 i', .string s', .slice p' n' c'] rfl rfl (news4 _ _ _ _ _ _) ?_ ?_ ?_ ?_ ?_)
        · exact oneCell_cells (.mk k' i' s' n' p' c' f')
        · omega
        · omega
        · simp; omega
        · intro v3 w3 ho3 hg3 hn3
          obtain ⟨hO2, hu2, hal2⟩ := HX.out
          have ha : Below w2.heap.size w2 (w2.alloc (.cells #[.int .i64 k', .int .i64 i', .string s', .slice p' n' c'] 24)) := (Below.refl _ _).alloc (Nat.le_refl _) _
          have hO3 := (hO2.below ha).push (hu2.below ha) ho3 hg3 hn3
          have hne : ∀ x, x < w.heap.size + 2 → (w2.alloc (.cells #[.int .i64 k', .int .i64 i', .string s', .slice p' n' c'] 24)).heap[x]? = w3.heap[x]? := fun x hx => (hg3.block x (by simp; omega) (fun e => by have := (hO2.own.lt x e.symm).1; omega)).symm
          have hB03 : Box w3 w.heap.size _ _ := (hB02.below ha).kept (hne _ (by omega)).symm
          have hB13 : Box w3 (w.heap.size + 1) _ _ := (hB12.below ha).kept (hne _ (by omega)).symm
          have hbel3 : Below w.heap.size w w3 := (HBe.out.trans (ha.mono (by omega))).grown hg3 (by simp; omega) (fun k hk => by have := (hO2.own.lt k hk).1; omega)
          have HX3 : Hid (OwnV (w.heap.size + 2) w3 v3 (j + 1) (fun q => if q < j then g q else .mk k' i' s' n' p' c' f')) := hO3
          have HA3 : Hid (∀ q, q < j + 1 → VT.Alike (f q) (if q < j then g q else .mk k' i' s' n' p' c' f')) := by
            intro q hq
            by_cases hqj : q < j
            · rw [if_pos hqj]; exact HAl.out q hqj
            · rw [if_neg hqj]
              obtain rfl : q = j := by omega
              exact hal2
          clear hO3 ho3 hg3 hn3 hne ha hO2 hu2 hal2 hR HX
          go_wp2
          go_roundw
          case rel => exact ⟨j + 1, _, by omega, by go_num, HX3.out, HA3.out, hB03, hB13, hbel3⟩
          case measure => simp [intOf]; omega
      · obtain rfl : j = n := by omega
        obtain ⟨p3, c3, hv, h1, h2, h3, h4, h5⟩ := hO.in_
        have HL : Hid (VT.Alike (.mk k i s j p c f) (.mk k i s j p3 c3 g) ∧ VT.In wr (fun b => w.heap.size + 2 ≤ b) (.mk k i s j p3 c3 g)) :=
          ⟨⟨rfl, rfl, rfl, rfl, hal⟩, ⟨⟨HF.k0, HF.k1, HF.i0, HF.i1, HF.s1, h1, HF.nn, h2, h3⟩, h4, h5⟩⟩
        have f3 := hB0.frozen 3
        have g0 := hB1.frozen 0
        have g1 := hB1.frozen 1
        have g2 := hB1.frozen 2
        have g3 := hB1.frozen 3
        have d0 := hB1.cell 0
        have d1 := hB1.cell 1
        have d2 := hB1.cell 2
        have d3 := hB1.cell 3
        simp at d0 d1 d2 d3
        subst hv
        clear h4 h5 hO HI hal ih
        go_wp2
        have hk : But (fun x => x = w.heap.size ∨ x = w.heap.size + 1) wr (((((wr.setCell ⟨w.heap.size, 3, none⟩ (.slice p3 j c3)).setCell ⟨w.heap.size + 1, 0, none⟩ (.int .i64 k)).setCell ⟨w.heap.size + 1, 1, none⟩ (.int .i64 i)).setCell ⟨w.heap.size + 1, 2, none⟩ (.string s)).setCell ⟨w.heap.size + 1, 3, none⟩ (.slice p3 j c3)) :=
          (((((But.refl _ wr).setCell (fun _ => Or.inl rfl) _).setCell (fun _ => Or.inr rfl) _).setCell (fun _ => Or.inr rfl) _).setCell (fun _ => Or.inr rfl) _).setCell (fun _ => Or.inr rfl) _
        refine bodyPost_ret (v := .agg #[.int .i64 k, .int .i64 i, .string s, .slice p3 j c3]) (by simp [results, Try.results8, go_sem, d0, d1, d2, d3]) rfl ⟨.mk k i s j p3 c3 g, rfl, HL.out.1, ?_, ?_⟩
        · exact (HL.out.2.but hk (fun b hb _ => by omega)).mono fun b hb _ => by omega
        · exact hbel.trans (hk.below (by omega) (fun x hx => by omega))
end Go.Proofs.Ytkodlhjcoeljiaa
