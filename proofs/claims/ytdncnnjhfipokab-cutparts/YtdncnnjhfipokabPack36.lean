import Derived.Test.YtdncnnjhfipokabPack31
import Derived.Test.YtdncnnjhfipokabKdB
import Derived.Deep.DeepCutAuto
namespace Go.Proofs.Ytdncnnjhfipokab
open Go.RowKit
set_option maxRecDepth 8000
set_option maxHeartbeats 16000000 in
theorem plays_held (o : OpT) (w0 w : World) (pb b rb N m : Nat) (K : Bk) (R : Rb) (hX : Box w pb #[.pointer (some ⟨b, 0, none⟩), .pointer (some ⟨rb, 0, none⟩)] 29) (hJ : PJ w0 w b rb N m K R) (hm : m ≤ 5000) (hnK : ¬ K.C b pb) (hnR : ¬ R.C rb pb) (hin : OpT.In w (fun k => k < w0.heap.size) o) (hs : OpSz o) (hk : o.kind = 4) :
    Calls Try.prog 10 #[.pointer (some ⟨pb, 0, none⟩), .agg #[.int .i64 o.kind, .int .i64 o.which, .int .i64 o.port, .int .i64 o.id, .string o.r.key, .int .i64 o.r.v.kind, .int .i64 o.r.v.int, .string o.r.v.text, .slice o.r.v.p o.r.v.n o.r.v.c, .slice o.r.p o.r.n o.r.c, .slice o.a.p o.a.n o.a.c, .slice o.q.p o.q.n o.q.c, .int .i64 o.num, .slice o.l.p o.l.n o.l.c]] w fun e w' => PlaysP w0 w b rb N m K R e w' := by
  obtain ⟨W, hW⟩ : ∃ W, W = w.alloc (.cells #[.int .i64 o.kind, .int .i64 o.which, .int .i64 o.port, .int .i64 o.id, .string o.r.key, .int .i64 o.r.v.kind, .int .i64 o.r.v.int, .string o.r.v.text, .slice o.r.v.p o.r.v.n o.r.v.c, .slice o.r.p o.r.n o.r.c, .slice o.a.p o.a.n o.a.c, .slice o.q.p o.q.n o.q.c, .int .i64 o.num, .slice o.l.p o.l.n o.l.c] 44) := ⟨_, rfl⟩
  have hB : Below w.heap.size w W := by rw [hW]; exact (Below.refl _ _).alloc (Nat.le_refl _) _
  have hY : Box W w.heap.size #[.int .i64 o.kind, .int .i64 o.which, .int .i64 o.port, .int .i64 o.id, .string o.r.key, .int .i64 o.r.v.kind, .int .i64 o.r.v.int, .string o.r.v.text, .slice o.r.v.p o.r.v.n o.r.v.c, .slice o.r.p o.r.n o.r.c, .slice o.a.p o.a.n o.a.c, .slice o.q.p o.q.n o.q.c, .int .i64 o.num, .slice o.l.p o.l.n o.l.c] 44 := by rw [hW]; exact Box.new _ _ _
  have HB := hid hB
  have HX := hid (hX.below hB)
  have HY := hid hY
  have HJ0 := hid hJ
  have HJ := hid (hJ.below hB)
  have HIn : Hid (∀ V, Below w0.heap.size w0 V → w.heap.size ≤ V.heap.size → OpT.In V (fun k => k < w0.heap.size) o) := fun V hV hs => hin.kept hs (fun k hk _ => (hV.block k hk).trans (hJ.pb.bok.bel.block k hk).symm)
  have HS := hid hs
  have HnK := hid hnK
  have HnR := hid hnR
  have hpl : pb < w.heap.size := hX.lt
  have HnY : Hid (¬ K.C b w.heap.size ∧ ¬ R.C rb w.heap.size) := ⟨fun e => by have := hJ.pb.bok.i.lt e; omega, fun e => by have := hJ.pb.r.lt e; omega⟩
  have hN4 := hJ.n4
  have HP4 : Hid (0 ≤ R.ports ∧ R.ports ≤ 4 ∧ K.ports ≤ 4 ∧ R.ls.n ≤ 5000) := ⟨by have := hJ.ep.ports; have := hJ.po; omega, by have := hJ.ep.ports; have := hJ.po; omega, by have := hJ.po; omega, by have := hJ.rn; omega⟩
  have p0 := HX.out.cell 0
  have p1 := HX.out.cell 1
  have pl := HX.out.lt
  simp at p0 p1
  have y0 := hY.cell 0
  have y1 := hY.cell 1
  have y2 := hY.cell 2
  have y3 := hY.cell 3
  have y4 := hY.cell 4
  have y5 := hY.cell 5
  have y6 := hY.cell 6
  have y7 := hY.cell 7
  have y8 := hY.cell 8
  have y9 := hY.cell 9
  have y10 := hY.cell 10
  have y11 := hY.cell 11
  have y12 := hY.cell 12
  have y13 := hY.cell 13
  simp at y0 y1 y2 y3 y4 y5 y6 y7 y8 y9 y10 y11 y12 y13
  have yl := hY.lt
  clear hX hJ hin hs hnK hnR hB hY
  rw [hk] at y0
  clear hk
  go_enter Try.func10, Try.ntmps10
  go_wp2_with (rw [← hW]; clear hW)
  refine wp_region_calmE 30 (fun wx => Below W.heap.size W wx) [(0, true), (1, true), (2, true), (3, false), (4, true), (5, false), (7, true), (8, true), (9, true), (10, false), (11, true), (12, false)] (.one 6 true [] (.one 13 true [(14, true), (15, true)] .done)) (by kernel_rfl) (by kernel_rfl) (Below.refl _ _).drew ?_
  refine wpPre_e rfl rfl (fun K1 hK1 => ?_)
  apply Exists.intro
  refine And.intro (fun wx hx => ?_) ?_
  · go_simp
    try rfl
  go_simp
  refine hK1 _ ?_
  clear hK1 K1
  refine wpPre_e rfl rfl (fun K1 hK1 => ?_)
  apply Exists.intro
  refine And.intro (fun wx hx => ?_) ?_
  · go_simp
    try rfl
  go_simp
  refine hK1 _ ?_
  clear hK1 K1
  refine wpPre_e rfl rfl (fun K1 hK1 => ?_)
  apply Exists.intro
  refine And.intro (fun wx hx => ?_) ?_
  · go_simp
    try rfl
  go_simp
  refine hK1 _ ?_
  clear hK1 K1
  refine wpPre_e rfl rfl (fun K1 hK1 => ?_)
  apply Exists.intro
  refine And.intro (fun wx hx => ?_) ?_
  · have e0 := below_fact hx rfl p0
    have e1 := below_fact hx rfl p1
    have e2 := below_fact hx rfl y2
    go_simp
    try rfl
  go_simp
  refine hK1 _ ?_
  clear hK1 K1
  refine wpPre_e rfl rfl (fun K1 hK1 => ?_)
  apply Exists.intro
  refine And.intro (fun wx hx => ?_) ?_
  · go_simp
    try rfl
  go_simp
  refine hK1 _ ?_
  clear hK1 K1
  refine wpPre_e rfl rfl (fun K1 hK1 => ?_)
  apply Exists.intro
  refine And.intro (fun wx hx => ?_) ?_
  · have e0 := below_fact hx rfl p0
    have e1 := below_fact hx rfl p1
    have e2 := below_fact hx rfl y2
    go_simp
    try rfl
  go_simp
  refine hK1 _ ?_
  clear hK1 K1
  refine wpPre_e rfl rfl (fun K1 hK1 => ?_)
  apply Exists.intro
  refine And.intro (fun wx hx => ?_) ?_
  · go_simp
    try rfl
  go_simp
  refine hK1 _ ?_
  clear hK1 K1
  refine wpPre_e rfl rfl (fun K1 hK1 => ?_)
  apply Exists.intro
  refine And.intro (fun wx hx => ?_) ?_
  · go_simp
    try rfl
  go_simp
  refine hK1 _ ?_
  clear hK1 K1
  refine wpPre_e rfl rfl (fun K1 hK1 => ?_)
  apply Exists.intro
  refine And.intro (fun wx hx => ?_) ?_
  · go_simp
    try rfl
  go_simp
  refine hK1 _ ?_
  clear hK1 K1
  refine wpPre_e rfl rfl (fun K1 hK1 => ?_)
  apply Exists.intro
  refine And.intro (fun wx hx => ?_) ?_
  · have e0 := below_fact hx rfl p0
    have e1 := below_fact hx rfl p1
    have e2 := below_fact hx rfl y2
    go_simp
    try rfl
  go_simp
  refine hK1 _ ?_
  clear hK1 K1
  refine wpPre_e rfl rfl (fun K1 hK1 => ?_)
  apply Exists.intro
  refine And.intro (fun wx hx => ?_) ?_
  · go_simp
    try rfl
  go_simp
  refine hK1 _ ?_
  clear hK1 K1
  refine wpPre_e rfl rfl (fun K1 hK1 => ?_)
  apply Exists.intro
  refine And.intro (fun wx hx => ?_) ?_
  · have e0 := below_fact hx rfl p0
    have e1 := below_fact hx rfl p1
    have e2 := below_fact hx rfl y2
    go_simp
    try rfl
  go_simp
  refine hK1 _ ?_
  clear hK1 K1
  refine wpPre_nil ?_
  refine wpTr_e rfl (fun K1 hK1 => ?_)
  refine step_call rfl 29 #[.tmp 132, .tmp 134] _ rfl Try.f29 Try.func29 (by kernel_rfl) rfl #[.pointer (some ⟨b, 0, none⟩), .int .i64 o.port] rfl _ (held_any o.port W.drew b K (HJ.out.below (Below.refl _ _).drew).pb.bok.i) (fun e w1 h1 => ?_)
  obtain ⟨rfl, hw1⟩ := h1
  refine ⟨_, rfl, ?_⟩
  rw [hw1]
  clear hw1
  go_simp
  refine hK1 _ _ (fun _ => (Below.refl _ _).drew) ?_
  clear hK1 K1
  refine wpPre_nil ?_
  refine wpTr_e rfl (fun K1 hK1 => ?_)
  refine step_call rfl 30 #[.tmp 139, .tmp 141] _ rfl Try.f30 Try.func30 (by kernel_rfl) rfl #[.pointer (some ⟨rb, 0, none⟩), .int .i64 o.port] rfl _ (rheld_any o.port W.drew rb R (HJ.out.below (Below.refl _ _).drew).pb.r (by have := HP4.out; omega) HP4.out.1 HP4.out.2.1) (fun e w2 h2 => ?_)
  obtain ⟨rfl, hb2⟩ := h2
  refine ⟨_, rfl, ?_⟩
  rw [HJ.out.ep.heldX HP4.out.2.2.1 HJ.out.pt o.port]
  have b2 : Below W.heap.size W w2 := (Below.refl W.heap.size W).drew.trans hb2
  clear hb2
  go_simp
  refine hK1 _ _ (fun _ => b2) ?_
  clear hK1 K1
  refine wpPre_e rfl rfl (fun K1 hK1 => ?_)
  apply Exists.intro
  refine And.intro (fun wx hx => ?_) ?_
  · go_simp
    try rfl
  go_simp
  refine hK1 _ ?_
  clear hK1 K1
  refine wpPre_e rfl rfl (fun K1 hK1 => ?_)
  apply Exists.intro
  refine And.intro (fun wx hx => ?_) ?_
  · go_simp
    try rfl
  go_simp
  refine hK1 _ ?_
  clear hK1 K1
  refine wpPre_nil ?_
  refine wpTr_done ?_
  go_wp2
  refine bodyPost_ret (v := .bool true) (by simp [results, Try.results10, go_sem]) rfl ?_
  exact ⟨rfl, K, R, PSet.bel (HB.out.trans (b2.mono HB.out.size)), (HJ.out.below b2).more (by omega)⟩
end Go.Proofs.Ytdncnnjhfipokab

namespace Go.Proofs.Ytdncnnjhfipokab
open Go.RowKit
set_option maxRecDepth 8000
set_option maxHeartbeats 16000000 in
theorem plays_now (o : OpT) (w0 w : World) (pb b rb N m : Nat) (K : Bk) (R : Rb) (hX : Box w pb #[.pointer (some ⟨b, 0, none⟩), .pointer (some ⟨rb, 0, none⟩)] 29) (hJ : PJ w0 w b rb N m K R) (hm : m ≤ 5000) (hnK : ¬ K.C b pb) (hnR : ¬ R.C rb pb) (hin : OpT.In w (fun k => k < w0.heap.size) o) (hs : OpSz o) (hk : o.kind = 5) :
    Calls Try.prog 10 #[.pointer (some ⟨pb, 0, none⟩), .agg #[.int .i64 o.kind, .int .i64 o.which, .int .i64 o.port, .int .i64 o.id, .string o.r.key, .int .i64 o.r.v.kind, .int .i64 o.r.v.int, .string o.r.v.text, .slice o.r.v.p o.r.v.n o.r.v.c, .slice o.r.p o.r.n o.r.c, .slice o.a.p o.a.n o.a.c, .slice o.q.p o.q.n o.q.c, .int .i64 o.num, .slice o.l.p o.l.n o.l.c]] w fun e w' => PlaysP w0 w b rb N m K R e w' := by
  obtain ⟨W, hW⟩ : ∃ W, W = w.alloc (.cells #[.int .i64 o.kind, .int .i64 o.which, .int .i64 o.port, .int .i64 o.id, .string o.r.key, .int .i64 o.r.v.kind, .int .i64 o.r.v.int, .string o.r.v.text, .slice o.r.v.p o.r.v.n o.r.v.c, .slice o.r.p o.r.n o.r.c, .slice o.a.p o.a.n o.a.c, .slice o.q.p o.q.n o.q.c, .int .i64 o.num, .slice o.l.p o.l.n o.l.c] 44) := ⟨_, rfl⟩
  have hB : Below w.heap.size w W := by rw [hW]; exact (Below.refl _ _).alloc (Nat.le_refl _) _
  have hY : Box W w.heap.size #[.int .i64 o.kind, .int .i64 o.which, .int .i64 o.port, .int .i64 o.id, .string o.r.key, .int .i64 o.r.v.kind, .int .i64 o.r.v.int, .string o.r.v.text, .slice o.r.v.p o.r.v.n o.r.v.c, .slice o.r.p o.r.n o.r.c, .slice o.a.p o.a.n o.a.c, .slice o.q.p o.q.n o.q.c, .int .i64 o.num, .slice o.l.p o.l.n o.l.c] 44 := by rw [hW]; exact Box.new _ _ _
  have HB := hid hB
  have HX := hid (hX.below hB)
  have HY := hid hY
  have HJ0 := hid hJ
  have HJ := hid (hJ.below hB)
  have HIn : Hid (∀ V, Below w0.heap.size w0 V → w.heap.size ≤ V.heap.size → OpT.In V (fun k => k < w0.heap.size) o) := fun V hV hs => hin.kept hs (fun k hk _ => (hV.block k hk).trans (hJ.pb.bok.bel.block k hk).symm)
  have HS := hid hs
  have HnK := hid hnK
  have HnR := hid hnR
  have hpl : pb < w.heap.size := hX.lt
  have HnY : Hid (¬ K.C b w.heap.size ∧ ¬ R.C rb w.heap.size) := ⟨fun e => by have := hJ.pb.bok.i.lt e; omega, fun e => by have := hJ.pb.r.lt e; omega⟩
  have hN4 := hJ.n4
  have HP4 : Hid (0 ≤ R.ports ∧ R.ports ≤ 4 ∧ K.ports ≤ 4 ∧ R.ls.n ≤ 5000) := ⟨by have := hJ.ep.ports; have := hJ.po; omega, by have := hJ.ep.ports; have := hJ.po; omega, by have := hJ.po; omega, by have := hJ.rn; omega⟩
  have p0 := HX.out.cell 0
  have p1 := HX.out.cell 1
  have pl := HX.out.lt
  simp at p0 p1
  have y0 := hY.cell 0
  have y1 := hY.cell 1
  have y2 := hY.cell 2
  have y3 := hY.cell 3
  have y4 := hY.cell 4
  have y5 := hY.cell 5
  have y6 := hY.cell 6
  have y7 := hY.cell 7
  have y8 := hY.cell 8
  have y9 := hY.cell 9
  have y10 := hY.cell 10
  have y11 := hY.cell 11
  have y12 := hY.cell 12
  have y13 := hY.cell 13
  simp at y0 y1 y2 y3 y4 y5 y6 y7 y8 y9 y10 y11 y12 y13
  have yl := hY.lt
  clear hX hJ hin hs hnK hnR hB hY
  rw [hk] at y0
  clear hk
  go_enter Try.func10, Try.ntmps10
  go_wp2_with (rw [← hW]; clear hW)
  refine wp_region_calmE 30 (fun wx => Below W.heap.size W wx) [(0, true), (1, true), (2, true), (3, false), (5, true), (6, true), (7, true), (8, false)] (.one 4 true [] (.one 9 true [(10, true), (11, true)] .done)) (by kernel_rfl) (by kernel_rfl) (Below.refl _ _).drew ?_
  refine wpPre_e rfl rfl (fun K1 hK1 => ?_)
  apply Exists.intro
  refine And.intro (fun wx hx => ?_) ?_
  · go_simp
    try rfl
  go_simp
  refine hK1 _ ?_
  clear hK1 K1
  refine wpPre_e rfl rfl (fun K1 hK1 => ?_)
  apply Exists.intro
  refine And.intro (fun wx hx => ?_) ?_
  · go_simp
    try rfl
  go_simp
  refine hK1 _ ?_
  clear hK1 K1
  refine wpPre_e rfl rfl (fun K1 hK1 => ?_)
  apply Exists.intro
  refine And.intro (fun wx hx => ?_) ?_
  · go_simp
    try rfl
  go_simp
  refine hK1 _ ?_
  clear hK1 K1
  refine wpPre_e rfl rfl (fun K1 hK1 => ?_)
  apply Exists.intro
  refine And.intro (fun wx hx => ?_) ?_
  · have e0 := below_fact hx rfl p0
    have e1 := below_fact hx rfl p1
    go_simp
    try rfl
  go_simp
  refine hK1 _ ?_
  clear hK1 K1
  refine wpPre_e rfl rfl (fun K1 hK1 => ?_)
  apply Exists.intro
  refine And.intro (fun wx hx => ?_) ?_
  · go_simp
    try rfl
  go_simp
  refine hK1 _ ?_
  clear hK1 K1
  refine wpPre_e rfl rfl (fun K1 hK1 => ?_)
  apply Exists.intro
  refine And.intro (fun wx hx => ?_) ?_
  · go_simp
    try rfl
  go_simp
  refine hK1 _ ?_
  clear hK1 K1
  refine wpPre_e rfl rfl (fun K1 hK1 => ?_)
  apply Exists.intro
  refine And.intro (fun wx hx => ?_) ?_
  · go_simp
    try rfl
  go_simp
  refine hK1 _ ?_
  clear hK1 K1
  refine wpPre_e rfl rfl (fun K1 hK1 => ?_)
  apply Exists.intro
  refine And.intro (fun wx hx => ?_) ?_
  · have e0 := below_fact hx rfl p0
    have e1 := below_fact hx rfl p1
    go_simp
    try rfl
  go_simp
  refine hK1 _ ?_
  clear hK1 K1
  refine wpPre_nil ?_
  refine wpTr_e rfl (fun K1 hK1 => ?_)
  refine step_call rfl 31 #[.tmp 149] _ rfl Try.f31 Try.func31 (by kernel_rfl) rfl #[.pointer (some ⟨b, 0, none⟩)] rfl _ (now_any W.drew b K (HJ.out.below (Below.refl _ _).drew).pb.bok.i) (fun e w1 h1 => ?_)
  obtain ⟨rfl, hw1⟩ := h1
  refine ⟨_, rfl, ?_⟩
  rw [hw1]
  clear hw1
  go_simp
  refine hK1 _ _ (fun _ => (Below.refl _ _).drew) ?_
  clear hK1 K1
  refine wpPre_nil ?_
  refine wpTr_e rfl (fun K1 hK1 => ?_)
  refine step_call rfl 32 #[.tmp 154] _ rfl Try.f32 Try.func32 (by kernel_rfl) rfl #[.pointer (some ⟨rb, 0, none⟩)] rfl _ (rnow_any W.drew rb R (HJ.out.below (Below.refl _ _).drew).pb.r) (fun e w2 h2 => ?_)
  obtain ⟨rfl, hw2⟩ := h2
  refine ⟨_, rfl, ?_⟩
  rw [hw2, HJ.out.ep.now]
  clear hw2
  go_simp
  refine hK1 _ _ (fun _ => (Below.refl _ _).drew) ?_
  clear hK1 K1
  refine wpPre_e rfl rfl (fun K1 hK1 => ?_)
  apply Exists.intro
  refine And.intro (fun wx hx => ?_) ?_
  · go_simp
    try rfl
  go_simp
  refine hK1 _ ?_
  clear hK1 K1
  refine wpPre_e rfl rfl (fun K1 hK1 => ?_)
  apply Exists.intro
  refine And.intro (fun wx hx => ?_) ?_
  · go_simp
    try rfl
  go_simp
  refine hK1 _ ?_
  clear hK1 K1
  refine wpPre_nil ?_
  refine wpTr_done ?_
  go_wp2
  refine bodyPost_ret (v := .bool true) (by simp [results, Try.results10, go_sem]) rfl ?_
  exact ⟨rfl, K, R, PSet.bel (HB.out.trans ((Below.refl _ _).drew.mono HB.out.size)), (HJ.out.below (Below.refl _ _).drew).more (by omega)⟩
end Go.Proofs.Ytdncnnjhfipokab

namespace Go.Proofs.Ytdncnnjhfipokab
open Go.RowKit
set_option maxRecDepth 8000
set_option maxHeartbeats 16000000 in
theorem plays_other (o : OpT) (w0 w : World) (pb b rb N m : Nat) (K : Bk) (R : Rb) (hX : Box w pb #[.pointer (some ⟨b, 0, none⟩), .pointer (some ⟨rb, 0, none⟩)] 29) (hJ : PJ w0 w b rb N m K R) (hm : m ≤ 5000) (hnK : ¬ K.C b pb) (hnR : ¬ R.C rb pb) (hin : OpT.In w (fun k => k < w0.heap.size) o) (hs : OpSz o) (hk : ¬ o.kind = 1 ∧ ¬ o.kind = 2 ∧ ¬ o.kind = 3 ∧ ¬ o.kind = 4 ∧ ¬ o.kind = 5) :
    Calls Try.prog 10 #[.pointer (some ⟨pb, 0, none⟩), .agg #[.int .i64 o.kind, .int .i64 o.which, .int .i64 o.port, .int .i64 o.id, .string o.r.key, .int .i64 o.r.v.kind, .int .i64 o.r.v.int, .string o.r.v.text, .slice o.r.v.p o.r.v.n o.r.v.c, .slice o.r.p o.r.n o.r.c, .slice o.a.p o.a.n o.a.c, .slice o.q.p o.q.n o.q.c, .int .i64 o.num, .slice o.l.p o.l.n o.l.c]] w fun e w' => PlaysP w0 w b rb N m K R e w' := by
  obtain ⟨W, hW⟩ : ∃ W, W = w.alloc (.cells #[.int .i64 o.kind, .int .i64 o.which, .int .i64 o.port, .int .i64 o.id, .string o.r.key, .int .i64 o.r.v.kind, .int .i64 o.r.v.int, .string o.r.v.text, .slice o.r.v.p o.r.v.n o.r.v.c, .slice o.r.p o.r.n o.r.c, .slice o.a.p o.a.n o.a.c, .slice o.q.p o.q.n o.q.c, .int .i64 o.num, .slice o.l.p o.l.n o.l.c] 44) := ⟨_, rfl⟩
  have hB : Below w.heap.size w W := by rw [hW]; exact (Below.refl _ _).alloc (Nat.le_refl _) _
  have hY : Box W w.heap.size #[.int .i64 o.kind, .int .i64 o.which, .int .i64 o.port, .int .i64 o.id, .string o.r.key, .int .i64 o.r.v.kind, .int .i64 o.r.v.int, .string o.r.v.text, .slice o.r.v.p o.r.v.n o.r.v.c, .slice o.r.p o.r.n o.r.c, .slice o.a.p o.a.n o.a.c, .slice o.q.p o.q.n o.q.c, .int .i64 o.num, .slice o.l.p o.l.n o.l.c] 44 := by rw [hW]; exact Box.new _ _ _
  have HB := hid hB
  have HX := hid (hX.below hB)
  have HY := hid hY
  have HJ0 := hid hJ
  have HJ := hid (hJ.below hB)
  have HIn : Hid (∀ V, Below w0.heap.size w0 V → w.heap.size ≤ V.heap.size → OpT.In V (fun k => k < w0.heap.size) o) := fun V hV hs => hin.kept hs (fun k hk _ => (hV.block k hk).trans (hJ.pb.bok.bel.block k hk).symm)
  have HS := hid hs
  have HnK := hid hnK
  have HnR := hid hnR
  have hpl : pb < w.heap.size := hX.lt
  have HnY : Hid (¬ K.C b w.heap.size ∧ ¬ R.C rb w.heap.size) := ⟨fun e => by have := hJ.pb.bok.i.lt e; omega, fun e => by have := hJ.pb.r.lt e; omega⟩
  have hN4 := hJ.n4
  have HP4 : Hid (0 ≤ R.ports ∧ R.ports ≤ 4 ∧ K.ports ≤ 4 ∧ R.ls.n ≤ 5000) := ⟨by have := hJ.ep.ports; have := hJ.po; omega, by have := hJ.ep.ports; have := hJ.po; omega, by have := hJ.po; omega, by have := hJ.rn; omega⟩
  have p0 := HX.out.cell 0
  have p1 := HX.out.cell 1
  have pl := HX.out.lt
  simp at p0 p1
  have y0 := hY.cell 0
  have y1 := hY.cell 1
  have y2 := hY.cell 2
  have y3 := hY.cell 3
  have y4 := hY.cell 4
  have y5 := hY.cell 5
  have y6 := hY.cell 6
  have y7 := hY.cell 7
  have y8 := hY.cell 8
  have y9 := hY.cell 9
  have y10 := hY.cell 10
  have y11 := hY.cell 11
  have y12 := hY.cell 12
  have y13 := hY.cell 13
  simp at y0 y1 y2 y3 y4 y5 y6 y7 y8 y9 y10 y11 y12 y13
  have yl := hY.lt
  clear hX hJ hin hs hnK hnR hB hY
  have k1 : (o.kind == 1) = false := by simp [hk.1]
  have k2 : (o.kind == 2) = false := by simp [hk.2.1]
  have k3 : (o.kind == 3) = false := by simp [hk.2.2.1]
  have k4 : (o.kind == 4) = false := by simp [hk.2.2.2.1]
  have k5 : (o.kind == 5) = false := by simp [hk.2.2.2.2]
  clear hk
  go_enter Try.func10, Try.ntmps10
  go_wp2_with (rw [← hW]; clear hW)
  refine bodyPost_ret (v := .bool true) (by simp [results, Try.results10, go_sem]) rfl ?_
  exact ⟨rfl, K, R, PSet.bel HB.out, HJ.out.more (by omega)⟩
end Go.Proofs.Ytdncnnjhfipokab
