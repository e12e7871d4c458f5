import Derived.Test.YtdncnnjhfipokaaPack8
namespace Go.Proofs.Ytdncnnjhfipokaa
open Go.RowKit
set_option maxRecDepth 8000
set_option maxHeartbeats 4000000 in
theorem shut1_any (i : Nat) (hi : i < 4) (a : LT RT) (num : Int) (l : LT VT) (q : LT RT) (w : World) (S : Nat → Prop) (b : Nat) (K : Bk) (hI : BkI w b K) (hS : ∀ k, S k → ¬ K.C b k) (hl : LT.In elCell w S l) (hq : LT.In elRec w S q) (sl : SzC l) (sq : SzR q) (hm : K.mode = 1) :
    Calls Try.prog 37 #[.pointer (some ⟨b, 0, none⟩), .int .i64 (i : Int), .slice a.p a.n a.c, .agg #[.int .i64 num, .slice l.p l.n l.c], .slice q.p q.n q.c] w fun e w' => ∃ K', e = .returned (.bool (K.shutR i)) ∧ ShutQ i a num l q w b K w' K' := by
  have hB : Below w.heap.size w (w.alloc (.cells #[.int .i64 num, .slice l.p l.n l.c] 40)) := (Below.refl _ _).alloc (Nat.le_refl _) _
  have HX0 := hid (Box.new w #[.int .i64 num, .slice l.p l.n l.c] 40)
  have HB := hid hB
  have HI := hid hI
  have c0 := hI.box.cell 0
  have hbl := hI.box.lt
  have cs := hI.cs hi
  have fs := hI.box.frozen (4 + i)
  have hi4 : (i : Int) < 4 := by omega
  simp [Bk.arr] at c0
  rw [hm] at c0
  have HS := hid hS
  have HL := hid (And.intro hl (And.intro hq (And.intro sl sq)))
  clear hI hS hl hq sl sq hB
  go_enter Try.func37, Try.ntmps37
  go_wp2_with fail
  obtain ⟨W2, hW2⟩ : ∃ W2, W2 = (w.setCell ⟨b, 4 + i, none⟩ (.int .i64 2)).alloc (.cells #[.int .i64 num, .slice l.p l.n l.c] 40) := ⟨_, rfl⟩
  rw [← hW2]
  have HS2 : Hid (SetLog w b K W2 (K.setSt i 2)) := by rw [hW2]; exact (HI.out.setSt hi (Below.refl _ _) 2 (by decide)).trans (SetLog.same (HI.out.setSt hi (Below.refl _ _) 2 (by decide)).inv ((Below.refl _ _).alloc (Nat.le_refl _) _))
  have HX2 : Box W2 w.heap.size #[.int .i64 num, .slice l.p l.n l.c] 40 := by rw [hW2]; have := Box.new (w.setCell ⟨b, 4 + i, none⟩ (.int .i64 2)) #[.int .i64 num, .slice l.p l.n l.c] 40; simpa [World.setCell] using this
  have s0 := HX2.cell 0
  have s1 := HX2.cell 1
  simp at s0 s1
  have HL2 : Hid (∀ V : World, (∀ k, S k → k < w.heap.size → V.heap[k]? = W2.heap[k]?) → W2.heap.size ≤ V.heap.size → LT.In elCell V (fun k => S k ∧ k < w.heap.size) l ∧ LT.In elRec V (fun k => S k ∧ k < w.heap.size) q) := fun V hV hs =>
    ⟨(HL.out.1.mono fun k hk hl => ⟨hk, hl⟩).kept (Nat.le_trans HS2.out.but.size hs) (fun k hk _ => (hV k hk.1 hk.2).trans (HS2.out.but.block k hk.2 (HS.out k hk.1))), (HL.out.2.1.mono fun k hk hl => ⟨hk, hl⟩).kept (Nat.le_trans HS2.out.but.size hs) (fun k hk _ => (hV k hk.1 hk.2).trans (HS2.out.but.block k hk.2 (HS.out k hk.1)))⟩
  clear hW2 cs fs c0 HX2 HX0
  refine (aligned_any W2 b _ HS2.out.inv).mono ?_
  rintro e w1 ⟨rfl, rfl⟩
  rcases hA : (K.setSt i 2).alig with _ | _
  · have hR : K.shutR i = false := by rw [Bk.shutR, if_pos hm, hA]; rfl
    have hSt : K.shutS i = (K.setSt i 2).st := by rw [Bk.shutS, if_pos hm, hA]; rfl
    go_wp2
    refine bodyPost_ret (v := .bool false) (by simp [results, Try.results37, go_sem]) rfl ⟨K.setSt i 2, by rw [hR], ⟨HS2.out, rfl, rfl, rfl, rfl, by rw [hR]; simp [Bk.setSt], fun _ _ => rfl, fun _ => rfl, fun h => (by rw [hm] at h; cases h), fun h => (by rw [hR] at h; cases h), fun _ => ⟨rfl, rfl, rfl⟩⟩, hSt.symm⟩
  · have hR : K.shutR i = !K.cp := by rw [Bk.shutR, if_pos hm, hA]; simp
    have hSt : K.shutS i = ((K.setSt i 2).rel 4).st := by rw [Bk.shutS, if_pos hm, hA]; rfl
    have HC := hid (copy_any num l q w1.drew (fun k => S k ∧ k < w.heap.size) b (K.setSt i 2) HS2.out.drew.inv (HL2.out w1.drew (fun _ _ _ => rfl) (Nat.le_refl _)).1 (HL2.out w1.drew (fun _ _ _ => rfl) (Nat.le_refl _)).2 HL.out.2.2.1 HL.out.2.2.2)
    go_wp2_with fail
    refine wp_region_calmE 30 (fun wx => Below w1.heap.size w1 wx) [(0, true), (1, true), (2, true), (3, false), (4, true)] (.one 5 false [(6, true)] .done) (by kernel_rfl) (by kernel_rfl) (Below.refl _ _).drew ?_
    refine wpPre_e rfl rfl (fun K1 hK1 => ?_)
    apply Exists.intro
    refine And.intro (fun wx hx => ?_) ?_
    · go_simp
      try rfl
    go_simp
    refine hK1 _ ?_
    clear hK1 K1
    refine wpPre_e rfl rfl (fun K1 hK1 => ?_)
    apply Exists.intro
    refine And.intro (fun wx hx => ?_) ?_
    · go_simp
      try rfl
    go_simp
    refine hK1 _ ?_
    clear hK1 K1
    refine wpPre_e rfl rfl (fun K1 hK1 => ?_)
    apply Exists.intro
    refine And.intro (fun wx hx => ?_) ?_
    · go_simp
      try rfl
    go_simp
    refine hK1 _ ?_
    clear hK1 K1
    refine wpPre_e rfl rfl (fun K1 hK1 => ?_)
    apply Exists.intro
    refine And.intro (fun wx hx => ?_) ?_
    · have e0 := below_fact hx rfl s0
      have e1 := below_fact hx rfl s1
      go_simp
      try rfl
    go_simp
    refine hK1 _ ?_
    clear hK1 K1
    refine wpPre_e rfl rfl (fun K1 hK1 => ?_)
    apply Exists.intro
    refine And.intro (fun wx hx => ?_) ?_
    · go_simp
      try rfl
    go_simp
    refine hK1 _ ?_
    clear hK1 K1
    refine wpPre_nil ?_
    refine wpTr_e rfl (fun K1 hK1 => ?_)
    refine step_call rfl 56 #[.tmp 59, .tmp 60, .tmp 61] _ rfl Try.f56 Try.func56 (by kernel_rfl) rfl #[.pointer (some ⟨b, 3, none⟩), .agg #[.int .i64 num, .slice l.p l.n l.c], .slice q.p q.n q.c] rfl _ HC.out (fun e w4 h4 => ?_)
    obtain ⟨K4, rfl, hQ4⟩ := h4
    refine ⟨_, rfl, ?_⟩
    have HQ4 := hid hQ4
    clear hQ4 HC
    go_simp
    refine hK1 _ _ (fun h => by cases h) ?_
    clear hK1 K1
    refine wpPre_e rfl rfl (fun K1 hK1 => ?_)
    apply Exists.intro
    refine And.intro (fun wx hx => ?_) ?_
    · go_simp
      try rfl
    go_simp
    refine hK1 _ ?_
    clear hK1 K1
    refine wpPre_nil ?_
    refine wpTr_done ?_
    have h9 := ShutB.ofCopy (a := a) HS2.out hR (fun j _ => rfl) (fun _ => rfl) (fun h => by rw [hm] at h; cases h) HQ4.out
    have H9 := hid h9
    clear h9
    go_wp2_with fail
    refine (release_any w4 b K4 HQ4.out.s.inv).mono ?_
    rintro e w5 ⟨rfl, h5⟩
    have H5 := hid h5
    clear h5
    go_wp2
    refine bodyPost_ret (v := .bool (!K.cp)) (by simp [results, Try.results37, go_sem, Bk.setSt]) rfl ⟨K4.rel 4, by rw [hR], H9.out.1.rel H5.out, ?_⟩
    rw [hSt]
    simp only [Bk.rel, H9.out.2]
end Go.Proofs.Ytdncnnjhfipokaa
