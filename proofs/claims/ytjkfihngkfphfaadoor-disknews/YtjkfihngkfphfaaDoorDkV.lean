import Derived.Test.YtjkfihngkfphfaaDoorDkU
import Derived.Test.YtjkfihngkfphfaaDoorStepC
import Derived.Lib.Bytealg
import Derived.Shelf.SlSortCmp.WholeK
namespace Go.Proofs.YtjkfihngkfphfaaDoor
open Go.RowKit
set_option maxRecDepth 8000
/-- a label's twelve bytes -/
def padB (s : ByteArray) : List UInt8 := [(bat s 0).toNat.toUInt8, (bat s 1).toNat.toUInt8, (bat s 2).toNat.toUInt8, (bat s 3).toNat.toUInt8, (bat s 4).toNat.toUInt8, (bat s 5).toNat.toUInt8, (bat s 6).toNat.toUInt8, (bat s 7).toNat.toUInt8, (bat s 8).toNat.toUInt8, (bat s 9).toNat.toUInt8, (bat s 10).toNat.toUInt8, (bat s 11).toNat.toUInt8]
/-- how labels are compared -/
def cmpN (s t : ByteArray) : Int := Go.Lib.compareBytes (padB s) (padB t)
theorem bytes_of {w : World} {b : Nat} {s : ByteArray} (h : Box w b #[.int .u8 (bat s 0), .int .u8 (bat s 1), .int .u8 (bat s 2), .int .u8 (bat s 3), .int .u8 (bat s 4), .int .u8 (bat s 5), .int .u8 (bat s 6), .int .u8 (bat s 7), .int .u8 (bat s 8), .int .u8 (bat s 9), .int .u8 (bat s 10), .int .u8 (bat s 11)] 50) (c : Nat) : (Extern.Bytes.bytesOf (.slice (some ⟨b, 0, none⟩) 12 c)).run Tryd.prog w = .ok ⟨(padB s).toArray⟩ w := by
  have q0 := h.cell 0
  have q1 := h.cell 1
  have q2 := h.cell 2
  have q3 := h.cell 3
  have q4 := h.cell 4
  have q5 := h.cell 5
  have q6 := h.cell 6
  have q7 := h.cell 7
  have q8 := h.cell 8
  have q9 := h.cell 9
  have q10 := h.cell 10
  have q11 := h.cell 11
  simp at q0 q1 q2 q3 q4 q5 q6 q7 q8 q9 q10 q11
  simp [Extern.Bytes.bytesOf, Extern.Bytes.loadBytes, Addr.add, q0, q1, q2, q3, q4, q5, q6, q7, q8, q9, q10, q11, go_sem, padB, Result.andThen]
  rfl
theorem bcmp_any {w : World} {b1 b2 : Nat} {s t : ByteArray} (h1 : Box w b1 #[.int .u8 (bat s 0), .int .u8 (bat s 1), .int .u8 (bat s 2), .int .u8 (bat s 3), .int .u8 (bat s 4), .int .u8 (bat s 5), .int .u8 (bat s 6), .int .u8 (bat s 7), .int .u8 (bat s 8), .int .u8 (bat s 9), .int .u8 (bat s 10), .int .u8 (bat s 11)] 50) (h2 : Box w b2 #[.int .u8 (bat t 0), .int .u8 (bat t 1), .int .u8 (bat t 2), .int .u8 (bat t 3), .int .u8 (bat t 4), .int .u8 (bat t 5), .int .u8 (bat t 6), .int .u8 (bat t 7), .int .u8 (bat t 8), .int .u8 (bat t 9), .int .u8 (bat t 10), .int .u8 (bat t 11)] 50) :
    Calls Tryd.prog 32 #[.slice (some ⟨b1, 0, none⟩) 12 12, .slice (some ⟨b2, 0, none⟩) 12 12] w fun e w' => e = .returned (.int .i64 (cmpN s t)) ∧ w' = w := by
  have hx : (callFunc 40 #[.slice (some ⟨b1, 0, none⟩) 12 12, .slice (some ⟨b2, 0, none⟩) 12 12]).run Tryd.prog w = .ok (Go.Next.value (.int .i64 (cmpN s t))) w := by
    rw [run_callFunc_extern Tryd.func40 (by kernel_rfl) (by kernel_rfl) (by kernel_rfl) (e := Extern.BytealgCompare.compare) (by kernel_rfl)]
    have hr : (Extern.BytealgCompare.compare #[.slice (some ⟨b1, 0, none⟩) 12 12, .slice (some ⟨b2, 0, none⟩) 12 12]).run Tryd.prog w = .ok (.int .i64 (cmpN s t)) w := by
      change Sem.run Tryd.prog (do pure (goInt (Extern.BytealgCompare.cmp (← Extern.Bytes.bytesOf (.slice (some ⟨b1, 0, none⟩) 12 12)) (← Extern.Bytes.bytesOf (.slice (some ⟨b2, 0, none⟩) 12 12))))) w = _
      simp only [Sem.run_bind, bytes_of h1, bytes_of h2, Sem.run_pure, Result.andThen]
      rw [Go.Lib.cmp_eq]
      rfl
    rw [hr]
    rfl
  go_enter Tryd.func32, Tryd.ntmps32
  go_wp2
  go_ret
  exact ⟨rfl, rfl⟩
set_option maxHeartbeats 1000000 in
theorem compare_any (x y : ByteArray) (w : World) : Calls Tryd.prog 26 #[labV x, labV y] w fun e w' => e = .returned (.int .i64 (cmpN x y)) ∧ ∃ q os, w' = Go.Sort.grow (w.drewN q) os := by
  obtain ⟨W, hW⟩ : ∃ V, V = (w.alloc (.cells #[.int .u8 (bat x 0), .int .u8 (bat x 1), .int .u8 (bat x 2), .int .u8 (bat x 3), .int .u8 (bat x 4), .int .u8 (bat x 5), .int .u8 (bat x 6), .int .u8 (bat x 7), .int .u8 (bat x 8), .int .u8 (bat x 9), .int .u8 (bat x 10), .int .u8 (bat x 11)] 50)).alloc (.cells #[.int .u8 (bat y 0), .int .u8 (bat y 1), .int .u8 (bat y 2), .int .u8 (bat y 3), .int .u8 (bat y 4), .int .u8 (bat y 5), .int .u8 (bat y 6), .int .u8 (bat y 7), .int .u8 (bat y 8), .int .u8 (bat y 9), .int .u8 (bat y 10), .int .u8 (bat y 11)] 50) := ⟨_, rfl⟩
  have hb1 : Box W w.heap.size #[.int .u8 (bat x 0), .int .u8 (bat x 1), .int .u8 (bat x 2), .int .u8 (bat x 3), .int .u8 (bat x 4), .int .u8 (bat x 5), .int .u8 (bat x 6), .int .u8 (bat x 7), .int .u8 (bat x 8), .int .u8 (bat x 9), .int .u8 (bat x 10), .int .u8 (bat x 11)] 50 := by rw [hW]; exact (Box.new w _ _).below ((Below.refl _ _).alloc (Nat.le_refl _) _)
  have hb2 : Box W (w.heap.size + 1) #[.int .u8 (bat y 0), .int .u8 (bat y 1), .int .u8 (bat y 2), .int .u8 (bat y 3), .int .u8 (bat y 4), .int .u8 (bat y 5), .int .u8 (bat y 6), .int .u8 (bat y 7), .int .u8 (bat y 8), .int .u8 (bat y 9), .int .u8 (bat y 10), .int .u8 (bat y 11)] 50 := by
    have h := Box.new (w.alloc (.cells #[.int .u8 (bat x 0), .int .u8 (bat x 1), .int .u8 (bat x 2), .int .u8 (bat x 3), .int .u8 (bat x 4), .int .u8 (bat x 5), .int .u8 (bat x 6), .int .u8 (bat x 7), .int .u8 (bat x 8), .int .u8 (bat x 9), .int .u8 (bat x 10), .int .u8 (bat x 11)] 50)) #[.int .u8 (bat y 0), .int .u8 (bat y 1), .int .u8 (bat y 2), .int .u8 (bat y 3), .int .u8 (bat y 4), .int .u8 (bat y 5), .int .u8 (bat y 6), .int .u8 (bat y 7), .int .u8 (bat y 8), .int .u8 (bat y 9), .int .u8 (bat y 10), .int .u8 (bat y 11)] 50
    rw [World.size_alloc] at h
    rw [hW]; exact h
  have HB1 := hid hb1
  have HB2 := hid hb2
  have HW := hid hW
  clear hb1 hb2 hW
  simp only [labV, labC]
  go_enter Tryd.func26, Tryd.ntmps26
  go_upto_region 1 with fail
  rw [← HW.out]
  refine wp_region_calmE 30 (fun wx => Below W.heap.size W wx) [(0, true), (1, true)] (.one 2 false [(3, true)] .done) (by kernel_rfl) (by kernel_rfl) (Below.refl _ _).drew ?_
  refine wpPre_e rfl rfl (fun K1 hK1 => ?_)
  apply Exists.intro
  refine And.intro (fun wx hx => ?_) ?_
  · go_simp
    try rfl
  go_simp
  refine hK1 _ ?_
  clear hK1 K1
  refine wpPre_e rfl rfl (fun K1 hK1 => ?_)
  apply Exists.intro
  refine And.intro (fun wx hx => ?_) ?_
  · go_simp
    try rfl
  go_simp
  refine hK1 _ ?_
  clear hK1 K1
  refine wpPre_nil ?_
  refine wpTr_e rfl (fun K1 hK1 => ?_)
  refine step_call rfl 32 #[.tmp 5, .tmp 6] _ rfl Tryd.f32 Tryd.func32 (by kernel_rfl) rfl #[.slice (some ⟨w.heap.size, 0, none⟩) 12 12, .slice (some ⟨w.heap.size + 1, 0, none⟩) 12 12] rfl _ (bcmp_any (HB1.out.below (Below.refl _ _).drew) (HB2.out.below (Below.refl _ _).drew)) (fun e w3 h3 => ?_)
  obtain ⟨rfl, rfl⟩ := h3
  refine ⟨_, rfl, ?_⟩
  go_simp
  refine hK1 _ _ (fun h => by cases h) ?_
  clear hK1 K1
  refine wpPre_e rfl rfl (fun K1 hK1 => ?_)
  apply Exists.intro
  refine And.intro (fun wx hx => ?_) ?_
  · go_simp
    try rfl
  go_simp
  refine hK1 _ ?_
  clear hK1 K1
  refine wpPre_nil ?_
  refine wpTr_done ?_
  go_wp2
  go_ret
  refine ⟨rfl, 1, #[.cells #[.int .u8 (bat x 0), .int .u8 (bat x 1), .int .u8 (bat x 2), .int .u8 (bat x 3), .int .u8 (bat x 4), .int .u8 (bat x 5), .int .u8 (bat x 6), .int .u8 (bat x 7), .int .u8 (bat x 8), .int .u8 (bat x 9), .int .u8 (bat x 10), .int .u8 (bat x 11)] 50, .cells #[.int .u8 (bat y 0), .int .u8 (bat y 1), .int .u8 (bat y 2), .int .u8 (bat y 3), .int .u8 (bat y 4), .int .u8 (bat y 5), .int .u8 (bat y 6), .int .u8 (bat y 7), .int .u8 (bat y 8), .int .u8 (bat y 9), .int .u8 (bat y 10), .int .u8 (bat y 11)] 50], ?_⟩
  rw [HW.out, Go.Sort.alloc_eq_grow, Go.Sort.alloc_eq_grow, Go.Sort.grow_grow]
  rfl
end Go.Proofs.YtjkfihngkfphfaaDoor
