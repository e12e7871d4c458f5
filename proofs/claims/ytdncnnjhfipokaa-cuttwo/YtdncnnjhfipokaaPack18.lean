import Derived.Test.YtdncnnjhfipokaaKrB
import Derived.Test.YtdncnnjhfipokaaPack0
import Derived.Test.YtdncnnjhfipokaaPack14
namespace Go.Proofs.Ytdncnnjhfipokaa
open Go.RowKit
set_option maxRecDepth 8000
set_option maxHeartbeats 4000000 in
theorem copied_any (w : World) (rb : Nat) (R : Rb) (hI : RbI w rb R) (hn : R.ls.n ≤ 100000) (hp : 0 ≤ R.ports) (hp4 : R.ports ≤ 4) : Calls Try.prog 64 #[.pointer (some ⟨rb, 0, none⟩)] w fun e w' => e = .returned (.int .i64 R.cp) ∧ Below w.heap.size w w' := by
  have HI := hid hI
  obtain ⟨N, hN⟩ : ∃ N : Nat, R.ports = (N : Int) := ⟨R.ports.toNat, by omega⟩
  have c0 := hI.box.cell 0
  have c4 := hI.box.cell 4
  have hbl := hI.box.lt
  simp [Rb.arr] at c0 c4
  clear hI
  by_cases h0 : R.ls.n = 0
  · have HP : Hid (R.cp = -1) := by unfold Hid Rb.cp; rw [if_pos h0]
    rw [h0] at c4
    clear h0
    go_enter Try.func64, Try.ntmps64
    go_wp2
    refine bodyPost_ret (v := .int .i64 (-1)) (by simp [results, Try.results64, go_sem]) rfl ?_
    exact ⟨by rw [HP.out], Below.refl _ _⟩
  have h0' : ((R.ls.n : Int) == 0) = false := by rw [beq_eq_false_iff_ne]; omega
  by_cases hm : R.mode = 1
  rotate_left
  · have HP : Hid (R.cp = 0) := by unfold Hid Rb.cp; rw [if_neg h0, if_pos hm]
    have hm' : (R.mode != 1) = true := by simp [hm]
    clear hm h0
    go_enter Try.func64, Try.ntmps64
    go_wp2
    refine bodyPost_ret (v := .int .i64 (0)) (by simp [results, Try.results64, go_sem]) rfl ?_
    exact ⟨by rw [HP.out], Below.refl _ _⟩
  have HP : Hid (R.cp = R.cpg N) := by unfold Hid Rb.cp; rw [if_neg h0, if_neg (by simpa using hm), hN]; rfl
  rw [hm] at c0
  clear hm h0
  go_enter Try.func64, Try.ntmps64
  go_wp2_with fail
  clear c0 c4
  go_loopw [3, 4] (fun y x wr => ∃ k : Nat, k ≤ N ∧ x = .int .i64 (k : Int) ∧ y = .int .i64 (R.cpg k) ∧ 0 ≤ R.cpg k ∧ Below w.heap.size w wr) (fun _ x _ => N - (intOf x).toNat)
  case atStart => exact ⟨0, Nat.zero_le _, rfl, rfl, Int.le_refl _, Below.refl _ _⟩
  case round =>
    obtain ⟨k, hk, rfl, rfl, hge, hbel⟩ := hrel
    have HB := hid hbel
    have hI2 := HI.out.below hbel
    have c1 := hI2.box.cell 1
    have c2 := hI2.box.cell 2
    have hbl := hI2.box.lt
    simp [Rb.arr] at c1 c2
    rw [hN] at c1
    have HC := hid (closed_any (k : Int) wr rb R hI2 hn)
    clear hI2 hbel
    by_cases hlt : k < N
    · have hlt' : (k : Int) < (N : Int) := by omega
      by_cases hb : (k : Int) = R.back
      · have hb' : ((k : Int) == R.back) = true := by simp [hb]
        have HE : Hid (R.cpg (k + 1) = R.cpg k) := by unfold Hid; simp only [Rb.cpg]; rw [if_pos hb]
        clear HC hb
        go_wp2
        go_roundw
        case rel => exact ⟨k + 1, by omega, by go_num, by rw [HE.out], by rw [HE.out]; exact hge, HB.out⟩
        case measure => simp [intOf]; omega
      · have hb' : ((k : Int) == R.back) = false := by simp [hb]
        rcases R.cl_range (k : Int) with hc | hc
        · have HE : Hid (R.cpg N = -1) := by
            unfold Hid
            refine Rb.cpg_neg (p := k + 1) ?_ (by omega)
            simp only [Rb.cpg]
            rw [if_neg hb, if_neg (by omega), if_pos (by omega)]
          clear hb
          go_wp2_with fail
          refine HC.out.mono ?_
          rintro e w1 ⟨rfl, hb1⟩
          rw [hc]
          have HB1 := hid (HB.out.trans (hb1.mono HB.out.size))
          clear hb1 HC hc
          go_wp2
          refine bodyPost_ret (v := .int .i64 (-1)) (by simp [results, Try.results64, go_sem]) rfl ?_
          exact ⟨by rw [HP.out, HE.out], HB1.out⟩
        · have HE : Hid (R.cpg (k + 1) = max (R.cpg k) (R.cl (k : Int))) := by
            unfold Hid
            simp only [Rb.cpg]
            rw [if_neg hb, if_neg (by omega), if_neg (by omega)]
          obtain ⟨m, hm⟩ : ∃ m : Int, m = R.cl (k : Int) := ⟨_, rfl⟩
          obtain ⟨a, ha⟩ : ∃ a : Int, a = R.cpg k := ⟨_, rfl⟩
          rw [← hm] at hc HE
          rw [← ha] at hge HE ⊢
          have hm0 : ¬ m < 0 := by omega
          clear hb
          go_wp2_with fail
          refine HC.out.mono ?_
          rintro e w1 ⟨rfl, hb1⟩
          rw [← hm]
          have HB1 := hid (HB.out.trans (hb1.mono HB.out.size))
          have HAe := hid ha
          clear hb1 HC hm ha
          go_wp2_with fail
          all_goals
            go_wp2
            go_roundw
            case rel => exact ⟨k + 1, by omega, by go_num, by have e := HE.out; have e2 := HAe.out; rw [e]; go_num, by have e := HE.out; have e2 := HAe.out; rw [e]; omega, HB1.out⟩
            case measure => simp [intOf]; omega
    · have hlt' : ¬ (k : Int) < (N : Int) := by omega
      obtain rfl : k = N := by omega
      clear HC
      go_wp2
      refine bodyPost_ret (v := .int .i64 (R.cpg k)) (by simp [results, Try.results64, go_sem]) rfl ?_
      exact ⟨by rw [HP.out], HB.out⟩
end Go.Proofs.Ytdncnnjhfipokaa

namespace Go.Proofs.Ytdncnnjhfipokaa
open Go.RowKit
set_option maxRecDepth 8000

set_option maxHeartbeats 1000000 in
theorem deep_any (t : VT) : ∀ (w : World) (S : Nat → Prop), VT.In w S t → t.total ≤ 10000 →
    Calls Try.prog 42 #[t.val] w fun e w' => ∃ u, e = .returned u.val ∧ VT.Alike t u ∧ VT.In w' (fun b => w.heap.size ≤ b) u ∧ Below w.heap.size w w' := by
  induction t with
  | nil => intro w S hin; exact hin.elim
  | mk k i s n p c f ih =>
    intro w S hin ht
    have hfit := hin.fit
    have hnn := hfit.nn
    simp only [VT.n] at hnn
    have hn1 : n ≤ 10000 := by rw [VT.total_upto] at ht; simp only [VT.n] at ht; omega
    obtain ⟨i0, Kd⟩ := kindV
    simp only [VT.val, VT.kind_mk, VT.int_mk, VT.text_mk, VT.p_mk, VT.n_mk, VT.c_mk]
    have HI : Hid (VT.In w S (.mk k i s n p c f)) := hin
    have HF := hfit
    have HTot : Hid (∀ j, j < n → (f j).total ≤ 10000) := fun j hj => Nat.le_trans (VT.item_total (.mk k i s n p c f) hj) ht
    clear hin hfit ht
    go_enter Try.func42, Try.ntmps42
    go_wp2_with fail
    have hS1 : Box (w.alloc (.cells #[.int .i64 k, .int .i64 i, .string s, .slice p n c] 33)) w.heap.size #[.int .i64 k, .int .i64 i, .string s, .slice p n c] 33 := Box.new _ _ _
    have hS2 := hS1.below ((Below.refl _ _).alloc (Nat.le_refl _) (.cells #[.int .i64 0, .int .i64 0, .string ⟨#[]⟩, .slice none 0 0] 33))
    have hS3 : Box ((w.alloc (.cells #[.int .i64 k, .int .i64 i, .string s, .slice p n c] 33)).alloc (.cells #[.int .i64 0, .int .i64 0, .string ⟨#[]⟩, .slice none 0 0] 33)) (w.heap.size + 1) #[.int .i64 0, .int .i64 0, .string ⟨#[]⟩, .slice none 0 0] 33 := by
      have := Box.new (w.alloc (.cells #[.int .i64 k, .int .i64 i, .string s, .slice p n c] 33)) #[.int .i64 0, .int .i64 0, .string ⟨#[]⟩, .slice none 0 0] 33
      simpa using this
    have hS4 : Below w.heap.size w ((w.alloc (.cells #[.int .i64 k, .int .i64 i, .string s, .slice p n c] 33)).alloc (.cells #[.int .i64 0, .int .i64 0, .string ⟨#[]⟩, .slice none 0 0] 33)) := ((Below.refl _ _).alloc (Nat.le_refl _) _).alloc (by simp) _
    go_loopw [3, 4] (fun v x wr => ∃ (j : Nat) (g : Nat → VT), j ≤ n ∧ x = .int .i64 j ∧ OwnV (w.heap.size + 2) wr v j g ∧ (∀ q, q < j → VT.Alike (f q) (g q)) ∧ Box wr w.heap.size #[.int .i64 k, .int .i64 i, .string s, .slice p n c] 33 ∧
        Box wr (w.heap.size + 1) #[.int .i64 0, .int .i64 0, .string ⟨#[]⟩, .slice none 0 0] 33 ∧ Below w.heap.size w wr) (fun _ x _ => n - (intOf x).toNat)
    case atStart => exact ⟨0, f, Nat.zero_le _, rfl, OwnV.nil _ _ _, fun q hq => absurd hq (by omega), hS2, hS3, hS4⟩
    case round =>
      obtain ⟨j, g, hj, rfl, hO, hal, hB0, hB1, hbel⟩ := hrel
      clear hS1 hS2 hS3 hS4
      have b0 := hB0.cell 0
      have b1 := hB0.cell 1
      have b2 := hB0.cell 2
      have b3 := hB0.cell 3
      simp at b0 b1 b2 b3
      have hlt1 := hB1.lt
      by_cases hlt : j < n
      · have hlt' : (j : Int) < (n : Int) := by omega
        obtain ⟨bb, o, hp, hSb, hbl, hat⟩ := HI.out.at_ (show 0 < (VT.mk k i s n p c f).n from by simp only [VT.n]; omega)
        simp only [VT.p] at hp
        subst hp
        have hA := (hat j hlt).kept (hbel.block bb hbl)
        obtain ⟨c0, c1, c2, c3⟩ := hA
        simp only [VT.item] at c0 c1 c2 c3
        have HC : Hid (Calls Try.prog 42 #[(f j).val] wr fun e w' => ∃ u, e = .returned u.val ∧ VT.Alike (f j) u ∧ VT.In w' (fun b => wr.heap.size ≤ b) u ∧ Below wr.heap.size wr w') :=
          ih j wr (fun b => S b ∧ b < w.heap.size) (((HI.out.sub hlt).mono fun b hb hl => ⟨hb, hl⟩).kept hbel.size (fun b hb _ => hbel.block b hb.2)) (HTot.out j hlt)
        unfold VT.val at HC
        have HAl : Hid (∀ q, q < j → VT.Alike (f q) (g q)) := hal
        clear hat hal
        go_wp2_with (go_at_call 42; refine HC.out.mono ?_)
        rintro e w2 ⟨u, rfl, hal2, hin2, hb2⟩
        obtain ⟨k', i', s', n', p', c', f', rfl⟩ := hin2.mk_
        simp only [VT.kind_mk, VT.int_mk, VT.text_mk, VT.p_mk, VT.n_mk, VT.c_mk]
        have hO2 := hO.below hb2
        have hB02 := hB0.below hb2
        have hB12 := hB1.below hb2
        have hbel2 := hbel.trans (hb2.mono hbel.size)
        have hsz2 := hb2.size
        have hu2 : VT.In w2 (fun b => w.heap.size + 2 ≤ b ∧ u3.ownBlock ≠ some b) (.mk k' i' s' n' p' c' f') := by
          refine hin2.mono fun b hb hl => ⟨by omega, fun e => ?_⟩
          have := (hO.own.lt b e).2
          omega
        have HX : Hid (OwnV (w.heap.size + 2) w2 u3 j g ∧ VT.In w2 (fun b => w.heap.size + 2 ≤ b ∧ u3.ownBlock ≠ some b) (.mk k' i' s' n' p' c' f') ∧ VT.Alike (f j) (.mk k' i' s' n' p' c' f')) := ⟨hO2, hu2, hal2⟩
        have hR := hO2.own
        have hsz1 : w.heap.size + 2 ≤ w2.heap.size := by omega
        have HBe : Hid (Below w.heap.size w w2) := hbel2
        clear hO hin2 hO2 hu2 hal2 hbel hb2 hB0 hB1 b0 b1 b2 b3 c0 c1 c2 c3 HC hbel2
        go_wp2_with (at_builtin; refine wpList_app rfl (.tmp 12) (.tmp 19) 31 33 i0 _ 4 56 Kd rfl (w.heap.size + 2) u3 j _ rfl (hR.alloc _) ⟨w2.heap.size, 0, none⟩ 1 1 [.int .i64 k', .int .i64 i', .string s', .slice p' n' c'] rfl rfl (news4 _ _ _ _ _ _) ?_ ?_ ?_ ?_ ?_)
        · exact oneCell_cells (.mk k' i' s' n' p' c' f')
        · omega
        · omega
        · simp; omega
        · intro v3 w3 ho3 hg3 hn3
          obtain ⟨hO2, hu2, hal2⟩ := HX.out
          have ha : Below w2.heap.size w2 (w2.alloc (.cells #[.int .i64 k', .int .i64 i', .string s', .slice p' n' c'] 33)) := (Below.refl _ _).alloc (Nat.le_refl _) _
          have hO3 := (hO2.below ha).push (hu2.below ha) ho3 hg3 hn3
          have hne : ∀ x, x < w.heap.size + 2 → (w2.alloc (.cells #[.int .i64 k', .int .i64 i', .string s', .slice p' n' c'] 33)).heap[x]? = w3.heap[x]? := fun x hx => (hg3.block x (by simp; omega) (fun e => by have := (hO2.own.lt x e.symm).1; omega)).symm
          have hB03 : Box w3 w.heap.size _ _ := (hB02.below ha).kept (hne _ (by omega)).symm
          have hB13 : Box w3 (w.heap.size + 1) _ _ := (hB12.below ha).kept (hne _ (by omega)).symm
          have hbel3 : Below w.heap.size w w3 := (HBe.out.trans (ha.mono (by omega))).grown hg3 (by simp; omega) (fun k hk => by have := (hO2.own.lt k hk).1; omega)
          have HX3 : Hid (OwnV (w.heap.size + 2) w3 v3 (j + 1) (fun q => if q < j then g q else .mk k' i' s' n' p' c' f')) := hO3
          have HA3 : Hid (∀ q, q < j + 1 → VT.Alike (f q) (if q < j then g q else .mk k' i' s' n' p' c' f')) := by
            intro q hq
            by_cases hqj : q < j
            · rw [if_pos hqj]; exact HAl.out q hqj
            · rw [if_neg hqj]
              obtain rfl : q = j := by omega
              exact hal2
          clear hO3 ho3 hg3 hn3 hne ha hO2 hu2 hal2 hR HX
          go_wp2
          go_roundw
          case rel => exact ⟨j + 1, _, by omega, by go_num, HX3.out, HA3.out, hB03, hB13, hbel3⟩
          case measure => simp [intOf]; omega
      · obtain rfl : j = n := by omega
        obtain ⟨p3, c3, hv, h1, h2, h3, h4, h5⟩ := hO.in_
        have HL : Hid (VT.Alike (.mk k i s j p c f) (.mk k i s j p3 c3 g) ∧ VT.In wr (fun b => w.heap.size + 2 ≤ b) (.mk k i s j p3 c3 g)) :=
          ⟨⟨rfl, rfl, rfl, rfl, hal⟩, ⟨⟨HF.k0, HF.k1, HF.i0, HF.i1, HF.s1, h1, HF.nn, h2, h3⟩, h4, h5⟩⟩
        have f3 := hB0.frozen 3
        have g0 := hB1.frozen 0
        have g1 := hB1.frozen 1
        have g2 := hB1.frozen 2
        have g3 := hB1.frozen 3
        have d0 := hB1.cell 0
        have d1 := hB1.cell 1
        have d2 := hB1.cell 2
        have d3 := hB1.cell 3
        simp at d0 d1 d2 d3
        subst hv
        clear h4 h5 hO HI hal ih
        go_wp2
        have hk : But (fun x => x = w.heap.size ∨ x = w.heap.size + 1) wr (((((wr.setCell ⟨w.heap.size, 3, none⟩ (.slice p3 j c3)).setCell ⟨w.heap.size + 1, 0, none⟩ (.int .i64 k)).setCell ⟨w.heap.size + 1, 1, none⟩ (.int .i64 i)).setCell ⟨w.heap.size + 1, 2, none⟩ (.string s)).setCell ⟨w.heap.size + 1, 3, none⟩ (.slice p3 j c3)) :=
          (((((But.refl _ wr).setCell (fun _ => Or.inl rfl) _).setCell (fun _ => Or.inr rfl) _).setCell (fun _ => Or.inr rfl) _).setCell (fun _ => Or.inr rfl) _).setCell (fun _ => Or.inr rfl) _
        refine bodyPost_ret (v := .agg #[.int .i64 k, .int .i64 i, .string s, .slice p3 j c3]) (by simp [results, Try.results42, go_sem, d0, d1, d2, d3]) rfl ⟨.mk k i s j p3 c3 g, rfl, HL.out.1, ?_, ?_⟩
        · exact (HL.out.2.but hk (fun b hb _ => by omega)).mono fun b hb _ => by omega
        · exact hbel.trans (hk.below (by omega) (fun x hx => by omega))
end Go.Proofs.Ytdncnnjhfipokaa

namespace Go.Proofs.Ytdncnnjhfipokaa
open Go.RowKit
set_option maxRecDepth 8000
set_option maxHeartbeats 4000000 in
theorem copyR (r : RT) (w : World) (S : Nat → Prop) (hin : RT.In w S r) (ht : r.size ≤ 10000) :
    Calls Try.prog 22 #[.agg #[.string r.key, .int .i64 r.v.kind, .int .i64 r.v.int, .string r.v.text, .slice r.v.p r.v.n r.v.c, .slice r.p r.n r.c]] w fun e w' => ∃ u : RT, e = .returned (.agg #[.string u.key, .int .i64 u.v.kind, .int .i64 u.v.int, .string u.v.text, .slice u.v.p u.v.n u.v.c, .slice u.p u.n u.c]) ∧ RT.Alike r u ∧ RT.In w' (fun b => w.heap.size ≤ b) u ∧ Below w.heap.size w w' := by
  obtain ⟨i0, Kd⟩ := kindIc
  unfold RT.size at ht
  have hn1 : r.n ≤ 10000 := by omega
  have HV : Hid (∀ W, Below w.heap.size w W → Calls Try.prog 42 #[.agg #[.int .i64 r.v.kind, .int .i64 r.v.int, .string r.v.text, .slice r.v.p r.v.n r.v.c]] W fun e w' => ∃ u : VT, e = .returned (.agg #[.int .i64 u.kind, .int .i64 u.int, .string u.text, .slice u.p u.n u.c]) ∧ VT.Alike r.v u ∧ VT.In w' (fun b => W.heap.size ≤ b) u ∧ Below W.heap.size W w') := fun W hW =>
    deep_any r.v W (fun b => S b ∧ b < w.heap.size) ((hin.v.mono fun b hb hl => ⟨hb, hl⟩).kept hW.size (fun b hb _ => hW.block b hb.2)) (by omega)
  have HS : Hid (Src ((w.alloc (.cells #[.string r.key, .int .i64 r.v.kind, .int .i64 r.v.int, .string r.v.text, .slice r.v.p r.v.n r.v.c, .slice r.p r.n r.c] 36)).alloc (.cells #[.string ⟨#[]⟩, .int .i64 0, .int .i64 0, .string ⟨#[]⟩, .slice none 0 0, .slice none 0 0] 36)) r.p r.n r.c 1 ((List.range r.n).map fun j => .int .i64 (r.loop j))) :=
    (hin.l.kept (by simp; omega) fun b _ hb => ((Below.heap_alloc _ _ _ (by simp; omega)).trans (Below.heap_alloc _ _ _ hb))).src
  have HF := hid hin.l.fit
  have HK := hid hin.k
  have HT := hid (TwoK.start w #[.string r.key, .int .i64 r.v.kind, .int .i64 r.v.int, .string r.v.text, .slice r.v.p r.v.n r.v.c, .slice r.p r.n r.c] #[.string ⟨#[]⟩, .int .i64 0, .int .i64 0, .string ⟨#[]⟩, .slice none 0 0, .slice none 0 0] 36)
  clear hin ht
  go_enter Try.func22, Try.ntmps22
  go_wp2_with (at_builtin; refine wpList_appS rfl (.tmp 4) (.tmp 6) 34 3 i0 _ 1 8 Kd rfl (w.heap.size + 2) (.slice none 0 0) 0 [] rfl (World.ownsRow_nil _ _ _ _) r.p r.n r.c ((List.range r.n).map fun j => .int .i64 (r.loop j)) rfl HS.out (oneCell_ints _ _) (by omega) (by omega) (by simp) ?_)
  intro v1 w1 ho1 hg1 _
  have ho1 : w1.ownsRow (w.heap.size + 2) 3 1 v1 r.n ((List.range r.n).map fun j => .int .i64 (r.loop j)) := by simpa using ho1
  obtain ⟨p1, c1, rfl, hI1⟩ := Ints.own ho1 (by omega) HF.out
  have hb1 : Below ((w.alloc (.cells #[.string r.key, .int .i64 r.v.kind, .int .i64 r.v.int, .string r.v.text, .slice r.v.p r.v.n r.v.c, .slice r.p r.n r.c] 36)).alloc (.cells #[.string ⟨#[]⟩, .int .i64 0, .int .i64 0, .string ⟨#[]⟩, .slice none 0 0, .slice none 0 0] 36)).heap.size _ w1 := ⟨hg1.os, hg1.tape, hg1.output, hg1.size, fun k hk => hg1.block k hk (by simp [Value.ownBlock])⟩
  have HT1 := hid (HT.out.below hb1)
  have HI1 := hid hI1
  have hsz1 : w.heap.size + 2 ≤ w1.heap.size := by have := hb1.size; simpa using this
  have l0 := HT1.out.ba.lt
  have l1 := HT1.out.bb.lt
  have x1 := HT1.out.ba.cell 1
  have x2 := HT1.out.ba.cell 2
  have x3 := HT1.out.ba.cell 3
  have x4 := HT1.out.ba.cell 4
  have x5 := HT1.out.ba.cell 5
  have f5 := HT1.out.ba.frozen 5
  simp at x1 x2 x3 x4 x5
  clear ho1 hg1 hI1 hb1 HT HS
  go_wp2_with fail
  have HT2 := hid (HT1.out.setA 5 (.slice p1 r.n c1))
  refine (HV.out _ HT2.out.bel).mono ?_
  rintro e w2 ⟨u, rfl, hal, hin2, hb2⟩
  have HT3 := hid (HT2.out.below hb2)
  have hbt1 : But (fun x => x = w.heap.size) w1 (w1.setCell ⟨w.heap.size, 5, none⟩ (.slice p1 r.n c1)) := (But.one w1 _).setAt 5 _
  have HU := hid (And.intro hal (And.intro (hin2.mono (S' := fun b => w1.heap.size ≤ b) (fun b hb _ => by simpa [World.setCell] using hb)) ((HI1.out.kept hbt1.size (fun b hb hl => hbt1.block b hl (by omega))).kept hb2.size (fun b _ hl => hb2.block b hl))))
  have m0 := HT3.out.ba.lt
  have m1 := HT3.out.bb.lt
  have y0 := HT3.out.ba.cell 0
  have y1 := HT3.out.ba.cell 1
  have y2 := HT3.out.ba.cell 2
  have y3 := HT3.out.ba.cell 3
  have y4 := HT3.out.ba.cell 4
  have y5 := HT3.out.ba.cell 5
  have g1 := HT3.out.ba.frozen 1
  have g2 := HT3.out.ba.frozen 2
  have g3 := HT3.out.ba.frozen 3
  have g4 := HT3.out.ba.frozen 4
  have z0 := HT3.out.bb.cell 0
  have z1 := HT3.out.bb.cell 1
  have z2 := HT3.out.bb.cell 2
  have z3 := HT3.out.bb.cell 3
  have z4 := HT3.out.bb.cell 4
  have z5 := HT3.out.bb.cell 5
  have k0 := HT3.out.bb.frozen 0
  have k1 := HT3.out.bb.frozen 1
  have k2 := HT3.out.bb.frozen 2
  have k3 := HT3.out.bb.frozen 3
  have k4 := HT3.out.bb.frozen 4
  have k5 := HT3.out.bb.frozen 5
  simp at y0 y1 y2 y3 y4 y5 z0 z1 z2 z3 z4 z5
  clear hal hin2 hb2 hbt1 HT1 HT2 HV x1 x2 x3 x4 x5 f5 HI1
  go_wp2
  have HT6 := ((((((((((HT3.out.setA 1 (.int .i64 u.kind)).setA 2 (.int .i64 u.int)).setA 3 (.string u.text)).setA 4 (.slice u.p u.n u.c)).setB 0 (.string r.key)).setB 1 (.int .i64 u.kind)).setB 2 (.int .i64 u.int)).setB 3 (.string u.text)).setB 4 (.slice u.p u.n u.c)).setB 5 (.slice p1 r.n c1))
  have hbt : But (fun x => x = w.heap.size ∨ x = w.heap.size + 1) w2 ((((((((((w2.setCell ⟨w.heap.size, 1, none⟩ (.int .i64 u.kind)).setCell ⟨w.heap.size, 2, none⟩ (.int .i64 u.int)).setCell ⟨w.heap.size, 3, none⟩ (.string u.text)).setCell ⟨w.heap.size, 4, none⟩ (.slice u.p u.n u.c)).setCell ⟨w.heap.size + 1, 0, none⟩ (.string r.key)).setCell ⟨w.heap.size + 1, 1, none⟩ (.int .i64 u.kind)).setCell ⟨w.heap.size + 1, 2, none⟩ (.int .i64 u.int)).setCell ⟨w.heap.size + 1, 3, none⟩ (.string u.text)).setCell ⟨w.heap.size + 1, 4, none⟩ (.slice u.p u.n u.c)).setCell ⟨w.heap.size + 1, 5, none⟩ (.slice p1 r.n c1)) :=
    ((((((((((But.refl _ w2).setCell (fun _ => Or.inl rfl) _).setCell (fun _ => Or.inl rfl) _).setCell (fun _ => Or.inl rfl) _).setCell (fun _ => Or.inl rfl) _).setCell (fun _ => Or.inr rfl) _).setCell (fun _ => Or.inr rfl) _).setCell (fun _ => Or.inr rfl) _).setCell (fun _ => Or.inr rfl) _).setCell (fun _ => Or.inr rfl) _).setCell (fun _ => Or.inr rfl) _
  refine bodyPost_ret (v := .agg #[.string r.key, .int .i64 u.kind, .int .i64 u.int, .string u.text, .slice u.p u.n u.c, .slice p1 r.n c1]) (by simp [results, Try.results22, go_sem, z0, z1, z2, z3, z4, z5]) rfl ⟨⟨r.key, u, p1, r.n, c1, r.loop⟩, rfl, ⟨rfl, HU.out.1, rfl, fun _ _ => rfl⟩, ⟨?_, ?_, HK.out⟩, HT6.bel⟩
  · exact (HU.out.2.1.kept hbt.size (fun b hb hl => hbt.block b hl (by omega))).mono fun b hb _ => by omega
  · exact (HU.out.2.2.kept hbt.size (fun b hb hl => hbt.block b hl (by omega))).mono fun b hb _ => by omega
set_option maxHeartbeats 4000000 in
theorem copyRs (l : LT RT) (w : World) (S : Nat → Prop) (hin : LT.In elRec w S l) (hs : SzR l) :
    Calls Try.prog 41 #[.slice l.p l.n l.c] w fun e w' => ∃ u : LT RT, e = .returned (.slice u.p u.n u.c) ∧ LT.Alk RT.Alike l u ∧ LT.In elRec w' (fun b => w.heap.size ≤ b) u ∧ Below w.heap.size w w' := by
  obtain ⟨i0, Kd⟩ := kindRs
  have HKd := hid Kd
  have HI := hid hin
  have HS := hid hs
  have hn1 := hs.n
  clear hin hs Kd
  go_enter Try.func41, Try.ntmps41
  go_wp2_with fail
  go_loopw [3, 4] (fun v x wr => ∃ (k : Nat) (g : Nat → RT), k ≤ l.n ∧ x = .int .i64 (k : Int) ∧ OwnL elRec w.heap.size wr v k g ∧ (∀ q, q < k → RT.Alike (l.item q) (g q)) ∧ Below w.heap.size w wr) (fun _ x _ => l.n - (intOf x).toNat)
  case atStart => exact ⟨0, l.item, Nat.zero_le _, rfl, ⟨World.ownsRow_nil _ _ _ _, fun j hj => absurd hj (by omega)⟩, fun q hq => absurd hq (by omega), Below.refl _ _⟩
  case round =>
    obtain ⟨k, g, hk, rfl, hO, hal, hbel⟩ := hrel
    have HO := hid hO
    have HA := hid hal
    have HB := hid hbel
    clear hO hal hbel
    by_cases hlt : k < l.n
    · have hlt' : (k : Int) < (l.n : Int) := by omega
      obtain ⟨bb, o, hp, hSb, hbb, hat⟩ := HI.out.at_ (by omega)
      rw [hp]
      have hcell : ∀ r u, (elRec.cells (l.item k))[r]? = some u → wr.cell? ⟨bb, o + k * 6 + r, none⟩ = some u := fun r u hu => (World.cell?_of_block (a := ⟨bb, o + k * 6 + r, none⟩) (HB.out.block bb hbb)).trans (hat k hlt r u hu)
      have c0 : wr.cell? ⟨bb, o + k * 6, none⟩ = some (.string (l.item k).key) := hcell 0 _ rfl
      have c1 : wr.cell? ⟨bb, o + k * 6 + 1, none⟩ = some (.int .i64 (l.item k).v.kind) := hcell 1 _ rfl
      have c2 : wr.cell? ⟨bb, o + k * 6 + 2, none⟩ = some (.int .i64 (l.item k).v.int) := hcell 2 _ rfl
      have c3 : wr.cell? ⟨bb, o + k * 6 + 3, none⟩ = some (.string (l.item k).v.text) := hcell 3 _ rfl
      have c4 : wr.cell? ⟨bb, o + k * 6 + 4, none⟩ = some (.slice (l.item k).v.p (l.item k).v.n (l.item k).v.c) := hcell 4 _ rfl
      have c5 : wr.cell? ⟨bb, o + k * 6 + 5, none⟩ = some (.slice (l.item k).p (l.item k).n (l.item k).c) := hcell 5 _ rfl
      have HC := hid (copyR (l.item k) wr (fun b => S b ∧ b < w.heap.size) ((RT.In.mono (HI.out.each k hlt) fun b hb hl => ⟨hb, hl⟩).kept HB.out.size (fun b hb _ => HB.out.block b hb.2)) (HS.out.item k hlt))
      clear hcell hat
      go_wp2_with fail
      refine HC.out.mono ?_
      rintro e w2 ⟨u, rfl, hal2, hin2, hb2⟩
      have hO2 := HO.out.keep hb2.size (fun k _ hl => hb2.block k hl)
      have hu2 : RT.In w2 (fun b => w.heap.size ≤ b ∧ u3.ownBlock ≠ some b) u := hin2.mono fun b hb _ => ⟨Nat.le_trans HB.out.size hb, fun e => by have := (HO.out.own.lt b e).2; omega⟩
      have hsz : w.heap.size ≤ w2.heap.size := Nat.le_trans HB.out.size hb2.size
      have H2 := hid (And.intro hO2 (And.intro hu2 (And.intro hal2 (HB.out.trans (hb2.mono HB.out.size)))))
      have ha : Below w2.heap.size w2 (w2.alloc (.cells #[.string u.key, .int .i64 u.v.kind, .int .i64 u.v.int, .string u.v.text, .slice u.v.p u.v.n u.v.c, .slice u.p u.n u.c] 36)) := (Below.refl _ _).alloc (Nat.le_refl _) _
      have HAl := hid ha
      have HNw : Hid (∀ j u', (elRec.cells u)[j]? = some u' → (w2.alloc (.cells #[.string u.key, .int .i64 u.v.kind, .int .i64 u.v.int, .string u.v.text, .slice u.v.p u.v.n u.v.c, .slice u.p u.n u.c] 36)).cell? ((⟨w2.heap.size, 0, none⟩ : Addr).add j) = some u') := fun j u' hu => by
        rw [Go.WideShapes.add_plain, (Box.new w2 #[.string u.key, .int .i64 u.v.kind, .int .i64 u.v.int, .string u.v.text, .slice u.v.p u.v.n u.v.c, .slice u.p u.n u.c] 36).cell]
        rw [show 0 + j = j by omega]
        simpa [elRec, RT.cells] using hu
      clear hO2 hu2 hal2 hin2 hb2 ha HC c0 c1 c2 c3 c4 c5
      go_wp2_with (at_builtin; refine wpList_app rfl (.tmp 11) (.tmp 17) 37 36 i0 _ 6 96 HKd.out rfl w.heap.size u3 k _ rfl (H2.out.1.own.alloc _) ⟨w2.heap.size, 0, none⟩ 1 1 (elRec.cells u) rfl rfl HNw.out (elRec.one u) (by omega) (by omega) (by simp; omega) ?_)
      intro v3 w3 ho3 hg3 hn3
      obtain ⟨hO2, hu2, hal2, hbel2⟩ := H2.out
      have HO3 := hid ((hO2.keep HAl.out.size (fun k _ hl => HAl.out.block k hl)).push (hu2.below HAl.out) ho3 hg3 hn3)
      have HB3 : Hid (Below w.heap.size w w3) := (hbel2.trans (HAl.out.mono hsz)).grown hg3 (by simp; omega) (fun k hk => (hO2.own.lt k hk).1)
      have HA3 : Hid (∀ q, q < k + 1 → RT.Alike (l.item q) (if q < k then g q else u)) := by
        intro q hq
        by_cases hqk : q < k
        · rw [if_pos hqk]; exact HA.out q hqk
        · rw [if_neg hqk]
          obtain rfl : q = k := by omega
          exact hal2
      clear ho3 hg3 hn3 hO2 hu2 hal2 hbel2 H2 HAl HNw
      go_wp2
      go_roundw
      case rel => exact ⟨k + 1, _, by omega, by go_num, HO3.out, HA3.out, HB3.out⟩
      case measure => simp [intOf]; omega
    · obtain rfl : k = l.n := by omega
      have hlt' : ¬ (l.n : Int) < (l.n : Int) := by omega
      obtain ⟨p3, c3, hv, hin3⟩ := HO.out.in_ (by omega)
      subst hv
      have HIn := hid hin3
      clear hin3
      go_wp2
      exact bodyPost_ret (v := .slice p3 l.n c3) (by simp [results, Try.results41, go_sem]) rfl ⟨⟨p3, l.n, c3, g⟩, rfl, ⟨rfl, HA.out⟩, HIn.out, HB.out⟩
end Go.Proofs.Ytdncnnjhfipokaa
