import Derived.Test.YtdncnnjhfipokabKrQ
import Derived.Test.YtdncnnjhfipokabPack14
namespace Go.Proofs.Ytdncnnjhfipokab
open Go.RowKit
set_option maxRecDepth 8000
theorem OpT.at_ {w : World} {S : Nat → Prop} {s : LT OpT} (h : LT.In elOp w S s) {k : Nat} (hk : k < s.n) : OpT.In w S (s.item k) := h.each k hk
set_option maxHeartbeats 16000000 in
theorem upTo_any (mode ports back : Int) (s : LT OpT) (kind : Int) (w : World) (hin : LT.In elOp w (fun b => b < w.heap.size) s) : Calls Try.prog 7 #[.int .i64 mode, .int .i64 ports, .int .i64 back, .slice s.p s.n s.c, .int .i64 kind] w fun e w' => e = .returned (.bool true) ∧ Below w.heap.size w w' := by
  have HI := hid hin
  have hnn := hin.nn
  clear hin
  obtain ⟨W, hW⟩ : ∃ W, W = w.alloc (.cells #[.pointer none, .pointer none] 29) := ⟨_, rfl⟩
  have hB : Below w.heap.size w W := by rw [hW]; exact (Below.refl _ _).alloc (Nat.le_refl _) _
  have hX : Box W w.heap.size #[.pointer none, .pointer none] 29 := by rw [hW]; exact Box.new _ _ _
  have HB := hid hB
  have HG := hid (begin_pair mode ports back w W w.heap.size hB (Nat.le_refl _) hX)
  obtain ⟨pb, hpb⟩ : ∃ x, x = w.heap.size := ⟨_, rfl⟩
  have HW := hid hW
  have HPb := hid hpb
  have hXl := hX.lt
  rw [← hpb] at hXl
  clear hX hB hW
  go_enter Try.func7, Try.ntmps7
  go_wp2_with fail
  rw [← HW.out, ← hpb]
  rw [← hpb] at HG
  clear hpb
  refine HG.out.mono ?_
  rintro e w2 hQ
  rw [hQ.e_]
  have HBt : Hid (Below w.heap.size w w2) := HB.out.trans (hQ.but.below HB.out.size (fun k hk e => by have := HPb.out; omega))
  have HQ := hid hQ
  clear hQ HG
  rcases hlg : legalB mode ports back with _ | _
  · have hX2 := HQ.out.n hlg
    have x0 := hX2.cell 0
    have xl := hX2.lt
    simp at x0
    clear hX2 hlg HQ
    go_wp2
    exact bodyPost_ret (v := .bool true) (by simp [results, Try.results7, go_sem]) rfl ⟨rfl, HBt.out⟩
  obtain ⟨N, b, rb, hNp, hb1, hrb1, hb2, hrb2, hX2, hJ2⟩ := HQ.out.y hlg
  have HX2 := hid hX2
  have HJ2 := hid hJ2
  have x0 := hX2.cell 0
  have xl := hX2.lt
  simp at x0
  have HnP : Hid (¬ (Bk.fresh mode ports back).C b pb ∧ ¬ (Rb.fresh mode ports back).C rb pb) := by
    constructor
    · rintro (e | ⟨j, _, e⟩)
      · omega
      · cases e
    · rintro (e | e)
      · omega
      · cases e
  clear hX2 hJ2 hlg HQ
  by_cases hlen : s.n ≤ 600
  rotate_left
  · have hl1 : (s.n : Int) > 600 := by omega
    go_wp2
    exact bodyPost_ret (v := .bool true) (by simp [results, Try.results7, go_sem]) rfl ⟨rfl, HBt.out⟩
  have hl1 : ¬ (s.n : Int) > 600 := by omega
  have HIs := hid (inside_any s w2 ((HI.out.kept HBt.out.size (fun b hb _ => HBt.out.block b hb)).mono (fun b _ hl => hl)))
  go_wp2_with fail
  refine HIs.out.mono ?_
  rintro e w5 ⟨hb5, r5, rfl, hsz⟩
  have HJ5 := hid (HJ2.out.below hb5)
  have HX5 := hid (HX2.out.below hb5)
  have HB5 := hid (HBt.out.trans (hb5.mono HBt.out.size))
  have HSz := hid hsz
  clear hb5 hsz HIs x0
  rcases r5 with _ | _
  · go_wp2
    exact bodyPost_ret (v := .bool true) (by simp [results, Try.results7, go_sem]) rfl ⟨rfl, HB5.out⟩
  have HSz2 := hid (HSz.out rfl)
  clear HSz
  go_wp2_with fail
  go_loopw [12] (fun xi wr => ∃ (k : Nat) (K : Bk) (R : Rb), k ≤ s.n ∧ xi = .int .i64 (k : Int) ∧ Box wr pb #[.pointer (some ⟨b, 0, none⟩), .pointer (some ⟨rb, 0, none⟩)] 29 ∧ PJ w wr b rb N k K R ∧ ¬ K.C b pb ∧ ¬ R.C rb pb) (fun x _ => s.n - (intOf x).toNat)
  case atStart => exact ⟨0, Bk.fresh mode ports back, Rb.fresh mode ports back, Nat.zero_le _, rfl, HX5.out, HJ5.out, HnP.out.1, HnP.out.2⟩
  case round =>
    obtain ⟨k, K, R, hk, rfl, hXr, hJr, hnK, hnR⟩ := hrel
    have HXr := hid hXr
    have HJr := hid hJr
    have HnKR := hid (And.intro hnK hnR)
    have pl := hXr.lt
    clear hXr hJr hnK hnR HJ5 HX5 HJ2 HX2
    by_cases hlt : k < s.n
    rotate_left
    · have hlt' : ¬ (k : Int) < (s.n : Int) := by omega
      go_wp2
      exact bodyPost_ret (v := .bool true) (by simp [results, Try.results7, go_sem]) rfl ⟨rfl, HJr.out.pb.bok.bel⟩
    have hlt' : (k : Int) < (s.n : Int) := by omega
    obtain ⟨bb, o, hp, hSb, hbb, hat⟩ := HI.out.at_ (by omega)
    rw [hp]
    have hcell : ∀ r u, (elOp.cells (s.item k))[r]? = some u → wr.cell? ⟨bb, o + k * 14 + r, none⟩ = some u := fun r u hu => (World.cell?_of_block (a := ⟨bb, o + k * 14 + r, none⟩) (HJr.out.pb.bok.bel.block bb hbb)).trans (hat k hlt r u hu)
    have c0 : wr.cell? ⟨bb, o + k * 14, none⟩ = some (.int .i64 (s.item k).kind) := hcell 0 _ rfl
    have c1 : wr.cell? ⟨bb, o + k * 14 + 1, none⟩ = some (.int .i64 (s.item k).which) := hcell 1 _ rfl
    have c2 : wr.cell? ⟨bb, o + k * 14 + 2, none⟩ = some (.int .i64 (s.item k).port) := hcell 2 _ rfl
    have c3 : wr.cell? ⟨bb, o + k * 14 + 3, none⟩ = some (.int .i64 (s.item k).id) := hcell 3 _ rfl
    have c4 : wr.cell? ⟨bb, o + k * 14 + 4, none⟩ = some (.string (s.item k).r.key) := hcell 4 _ rfl
    have c5 : wr.cell? ⟨bb, o + k * 14 + 5, none⟩ = some (.int .i64 (s.item k).r.v.kind) := hcell 5 _ rfl
    have c6 : wr.cell? ⟨bb, o + k * 14 + 6, none⟩ = some (.int .i64 (s.item k).r.v.int) := hcell 6 _ rfl
    have c7 : wr.cell? ⟨bb, o + k * 14 + 7, none⟩ = some (.string (s.item k).r.v.text) := hcell 7 _ rfl
    have c8 : wr.cell? ⟨bb, o + k * 14 + 8, none⟩ = some (.slice (s.item k).r.v.p (s.item k).r.v.n (s.item k).r.v.c) := hcell 8 _ rfl
    have c9 : wr.cell? ⟨bb, o + k * 14 + 9, none⟩ = some (.slice (s.item k).r.p (s.item k).r.n (s.item k).r.c) := hcell 9 _ rfl
    have c10 : wr.cell? ⟨bb, o + k * 14 + 10, none⟩ = some (.slice (s.item k).a.p (s.item k).a.n (s.item k).a.c) := hcell 10 _ rfl
    have c11 : wr.cell? ⟨bb, o + k * 14 + 11, none⟩ = some (.slice (s.item k).q.p (s.item k).q.n (s.item k).q.c) := hcell 11 _ rfl
    have c12 : wr.cell? ⟨bb, o + k * 14 + 12, none⟩ = some (.int .i64 (s.item k).num) := hcell 12 _ rfl
    have c13 : wr.cell? ⟨bb, o + k * 14 + 13, none⟩ = some (.slice (s.item k).l.p (s.item k).l.n (s.item k).l.c) := hcell 13 _ rfl
    have HPl := hid (plays_any (s.item k) w wr pb b rb N k K R HXr.out HJr.out (by omega) HnKR.out.1 HnKR.out.2 ((OpT.at_ HI.out hlt).kept HJr.out.pb.bok.bel.size (fun b hb _ => HJr.out.pb.bok.bel.block b hb)) (HSz2.out k hlt))
    clear hcell hat hp
    go_wp2_with (go_at_call 10; refine HPl.out.mono ?_; rintro e w6 ⟨rfl, K6, R6, hS6, hJ6⟩)
    have HR6 : Hid (Box w6 pb #[.pointer (some ⟨b, 0, none⟩), .pointer (some ⟨rb, 0, none⟩)] 29 ∧ PJ w w6 b rb N (k + 1) K6 R6 ∧ ¬ K6.C b pb ∧ ¬ R6.C rb pb) := by
      refine ⟨HXr.out.kept (hS6.but.block pb HXr.out.lt (fun e => by rcases e with e | e; exact HnKR.out.1 e; exact HnKR.out.2 e)), hJ6, fun e => ?_, fun e => ?_⟩
      · rcases hS6.ck pb e with h | h
        · exact HnKR.out.1 h
        · omega
      · rcases hS6.cr pb e with h | h
        · exact HnKR.out.2 h
        · omega
    clear hS6 hJ6 HPl c0 c1 c2 c3 c4 c5 c6 c7 c8 c9 c10 c11 c12 c13
    go_roundw
    case rel => exact ⟨k + 1, K6, R6, by omega, by go_num, HR6.out.1, HR6.out.2.1, HR6.out.2.2.1, HR6.out.2.2.2⟩
    case measure => simp [intOf]; omega
set_option maxHeartbeats 1000000 in
theorem marks_walk (mode ports back : Int) (s : LT OpT) (w : World) (hin : LT.In elOp w (fun b => b < w.heap.size) s) : Calls Try.prog 3 #[.int .i64 mode, .int .i64 ports, .int .i64 back, .slice s.p s.n s.c] w fun e w' => e = .returned (.bool true) ∧ Below w.heap.size w w' := by
  have HU := hid (upTo_any mode ports back s 2 w hin)
  clear hin
  go_enter Try.func3, Try.ntmps3
  go_wp2_with (go_at_call 7; refine HU.out.mono ?_; rintro e w1 ⟨rfl, hb1⟩)
  exact bodyPost_ret (v := .bool true) (by simp [results, Try.results3, go_sem]) rfl ⟨rfl, hb1⟩
set_option maxHeartbeats 1000000 in
theorem tooks_walk (mode ports back : Int) (s : LT OpT) (w : World) (hin : LT.In elOp w (fun b => b < w.heap.size) s) : Calls Try.prog 4 #[.int .i64 mode, .int .i64 ports, .int .i64 back, .slice s.p s.n s.c] w fun e w' => e = .returned (.bool true) ∧ Below w.heap.size w w' := by
  have HU := hid (upTo_any mode ports back s 1 w hin)
  clear hin
  go_enter Try.func4, Try.ntmps4
  go_wp2_with (go_at_call 7; refine HU.out.mono ?_; rintro e w1 ⟨rfl, hb1⟩)
  exact bodyPost_ret (v := .bool true) (by simp [results, Try.results4, go_sem]) rfl ⟨rfl, hb1⟩
set_option maxHeartbeats 1000000 in
theorem parts_walk (mode ports back : Int) (s : LT OpT) (w : World) (hin : LT.In elOp w (fun b => b < w.heap.size) s) : Calls Try.prog 5 #[.int .i64 mode, .int .i64 ports, .int .i64 back, .slice s.p s.n s.c] w fun e w' => e = .returned (.bool true) ∧ Below w.heap.size w w' := by
  have HU := hid (upTo_any mode ports back s 3 w hin)
  clear hin
  go_enter Try.func5, Try.ntmps5
  go_wp2_with (go_at_call 7; refine HU.out.mono ?_; rintro e w1 ⟨rfl, hb1⟩)
  exact bodyPost_ret (v := .bool true) (by simp [results, Try.results5, go_sem]) rfl ⟨rfl, hb1⟩
set_option maxHeartbeats 1000000 in
theorem plays4_walk (mode ports back : Int) (s : LT OpT) (w : World) (hin : LT.In elOp w (fun b => b < w.heap.size) s) : Calls Try.prog 6 #[.int .i64 mode, .int .i64 ports, .int .i64 back, .slice s.p s.n s.c] w fun e w' => e = .returned (.bool true) ∧ Below w.heap.size w w' := by
  have HU := hid (upTo_any mode ports back s 0 w hin)
  clear hin
  go_enter Try.func6, Try.ntmps6
  go_wp2_with (go_at_call 7; refine HU.out.mono ?_; rintro e w1 ⟨rfl, hb1⟩)
  exact bodyPost_ret (v := .bool true) (by simp [results, Try.results6, go_sem]) rfl ⟨rfl, hb1⟩
end Go.Proofs.Ytdncnnjhfipokab
