import Derived.Test.YtkodlhjcoeljiaaRecT
import Derived.Test.YtkodlhjcoeljiaaDeepC
namespace Go.Proofs.Ytkodlhjcoeljiaa
open Go.RowKit
set_option maxRecDepth 8000

theorem kindI : ∃ i, Kind 45 3 i (.int .i64 0) 1 8 := by
  obtain ⟨i0, hi, hz0, hz1, hz2⟩ := info_parts (show (Try.prog.info? 3).map (fun i => (i.zero, i.size, i.bytes)) = some (some (.int .i64 0), 1, 8) by kernel_rfl)
  exact ⟨i0, Try.underlying45, hi, hz0, hz1, hz2, rfl, by decide⟩

set_option maxHeartbeats 1000000 in
theorem copyRecord_any (r : RT) (w : World) (S : Nat → Prop) (hin : RT.In w S r) (hn1 : r.n + r.v.total ≤ 10000) :
    Calls Try.prog 18 #[r.val] w fun e w' => ∃ u : RT, e = .returned u.val ∧ RT.Alike r u ∧ RT.In w' (fun b => w.heap.size ≤ b) u ∧ Below w.heap.size w w' := by
  have HI : Hid (RT.In w S r) := hin
  unfold RT.val
  clear hin
  go_enter Try.func18, Try.ntmps18
  obtain ⟨i0, Kd⟩ := kindI
  go_wp2_with (at_builtin; refine wpList_appS rfl (.tmp 4) (.tmp 6) 45 3 i0 _ 1 8 Kd rfl (w.heap.size + 2) (.slice none 0 0) 0 [] rfl (World.ownsRow_nil _ _ _ _) r.p r.n r.c ((List.range r.n).map fun j => .int .i64 (r.loop j)) rfl ?_ (oneCell_ints _ _) ?_ ?_ ?_ ?_)
  · exact (HI.out.l.kept (by simp; omega) fun b _ hb => ((Below.heap_alloc _ _ _ (by simp; omega)).trans (Below.heap_alloc _ _ _ hb))).src
  · omega
  · omega
  · simp
  intro v1 w1 ho1 hg1 _
  have ho1 : w1.ownsRow (w.heap.size + 2) 3 1 v1 r.n ((List.range r.n).map fun j => .int .i64 (r.loop j)) := by simpa using ho1
  obtain ⟨p1, c1, rfl, hI1⟩ := Ints.own ho1 (by omega) HI.out.l.fit
  have hz : ((w.alloc (.cells #[.string r.key, .int .i64 r.v.kind, .int .i64 r.v.int, .string r.v.text, .slice r.v.p r.v.n r.v.c, .slice r.p r.n r.c] 47)).alloc (.cells #[.string ⟨#[]⟩, .int .i64 0, .int .i64 0, .string ⟨#[]⟩, .slice none 0 0, .slice none 0 0] 47)).heap.size = w.heap.size + 2 := by simp
  have hgb : Below (w.heap.size + 2) _ w1 := ⟨hg1.os, hg1.tape, hg1.output, hg1.size, fun k hk => hg1.block k (by rw [hz]; exact hk) (by simp [Value.ownBlock])⟩
  have hB0 := ((Box.new w #[.string r.key, .int .i64 r.v.kind, .int .i64 r.v.int, .string r.v.text, .slice r.v.p r.v.n r.v.c, .slice r.p r.n r.c] 47).below ((Below.refl _ _).alloc (Nat.le_refl _) (.cells #[.string ⟨#[]⟩, .int .i64 0, .int .i64 0, .string ⟨#[]⟩, .slice none 0 0, .slice none 0 0] 47))).kept (hgb.block _ (by omega))
  have hB1 := (Box.new (w.alloc (.cells #[.string r.key, .int .i64 r.v.kind, .int .i64 r.v.int, .string r.v.text, .slice r.v.p r.v.n r.v.c, .slice r.p r.n r.c] 47)) #[.string ⟨#[]⟩, .int .i64 0, .int .i64 0, .string ⟨#[]⟩, .slice none 0 0, .slice none 0 0] 47).kept (hgb.block _ (by simp))
  rw [show (w.alloc (.cells #[.string r.key, .int .i64 r.v.kind, .int .i64 r.v.int, .string r.v.text, .slice r.v.p r.v.n r.v.c, .slice r.p r.n r.c] 47)).heap.size = w.heap.size + 1 by simp] at hB1
  have hbel : Below w.heap.size w w1 := (((Below.refl _ _).alloc (Nat.le_refl _) _).alloc (by simp) _).trans (hgb.mono (by omega))
  have hsz1 : w.heap.size + 2 ≤ w1.heap.size := by rw [← hz]; exact hg1.size
  have HX : Hid (Box w1 w.heap.size #[.string r.key, .int .i64 r.v.kind, .int .i64 r.v.int, .string r.v.text, .slice r.v.p r.v.n r.v.c, .slice r.p r.n r.c] 47 ∧ Box w1 (w.heap.size + 1) #[.string ⟨#[]⟩, .int .i64 0, .int .i64 0, .string ⟨#[]⟩, .slice none 0 0, .slice none 0 0] 47 ∧ Below w.heap.size w w1 ∧ Ints w1 (fun b => w.heap.size + 2 ≤ b) p1 r.n c1 r.loop) := ⟨hB0, hB1, hbel, hI1⟩
  have HC : Hid (∀ W, Below w1.heap.size w1 W → Calls Try.prog 8 #[r.v.val] W fun e w' => ∃ u, e = .returned u.val ∧ VT.Alike r.v u ∧ VT.In w' (fun b => W.heap.size ≤ b) u ∧ Below W.heap.size W w') :=
    fun W hW => deep_any r.v W (fun b => S b ∧ b < w.heap.size) (((HI.out.v.mono fun b hb hl => ⟨hb, hl⟩).kept hbel.size (fun b hb _ => hbel.block b hb.2)).below hW) (by omega)
  unfold VT.val at HC
  have x0 := hB0.cell 0
  have x1 := hB0.cell 1
  have x2 := hB0.cell 2
  have x3 := hB0.cell 3
  have x4 := hB0.cell 4
  have x5 := hB0.cell 5
  simp at x0 x1 x2 x3 x4 x5
  have hl0 := hB0.lt
  have hl1 := hB1.lt
  clear hB0 hB1 hbel hI1 hgb hg1 ho1 hz
  go_wp2_with fail
  go_region_with (go_at_call 8; (refine (HC.out _ ?_).mono ?_; exact (Below.refl _ _).drew; rintro e w4 ⟨u, rfl, hal4, hin4, hb4⟩; have hk4 : Below w1.heap.size w1 w4 := (Below.refl w1.heap.size w1).drew.trans hb4; have y0 := (HX.out.1.below hk4).cell 0; have g0 := (HX.out.2.1.below hk4).frozen 0; have g1 := (HX.out.2.1.below hk4).frozen 1; have g2 := (HX.out.2.1.below hk4).frozen 2; have g3 := (HX.out.2.1.below hk4).frozen 3; have g4 := (HX.out.2.1.below hk4).frozen 4; have g5 := (HX.out.2.1.below hk4).frozen 5; have z0 := (HX.out.2.1.below hk4).cell 0; have z1 := (HX.out.2.1.below hk4).cell 1; have z2 := (HX.out.2.1.below hk4).cell 2; have z3 := (HX.out.2.1.below hk4).cell 3; have z4 := (HX.out.2.1.below hk4).cell 4; have z5 := (HX.out.2.1.below hk4).cell 5; have hs4 := hk4.size; have l0 : w.heap.size < w4.heap.size := (by omega); have l1 : w.heap.size + 1 < w4.heap.size := (by omega); simp at y0 z0 z1 z2 z3 z4 z5))
  all_goals
    have hin5 : VT.In w4 (fun b => w1.heap.size ≤ b) u := hin4
    go_wp2
    have hk : But (fun x => x = w.heap.size + 1) w4 ((((((w4.setCell ⟨w.heap.size + 1, 0, none⟩ (.string r.key)).setCell ⟨w.heap.size + 1, 1, none⟩ (.int .i64 u.kind)).setCell ⟨w.heap.size + 1, 2, none⟩ (.int .i64 u.int)).setCell ⟨w.heap.size + 1, 3, none⟩ (.string u.text)).setCell ⟨w.heap.size + 1, 4, none⟩ (.slice u.p u.n u.c)).setCell ⟨w.heap.size + 1, 5, none⟩ (.slice p1 r.n c1)) :=
      ((((((But.one w4 (w.heap.size + 1)).setAt 0 _).setAt 1 _).setAt 2 _).setAt 3 _).setAt 4 _).setAt 5 _
    refine bodyPost_ret (v := .agg #[.string r.key, .int .i64 u.kind, .int .i64 u.int, .string u.text, .slice u.p u.n u.c, .slice p1 r.n c1]) (by simp [results, Try.results18, go_sem, z0, z1, z2, z3, z4, z5]) rfl ⟨⟨r.key, u, p1, r.n, c1, r.loop⟩, rfl, ⟨rfl, hal4, rfl, fun _ _ => rfl⟩, ⟨?_, ?_, HI.out.k⟩, ?_⟩
    · exact (hin5.but hk (fun b hb _ => by omega)).mono fun b hb _ => by omega
    · exact ((HX.out.2.2.2.kept hk4.size (fun b _ hl => hk4.block b hl)).kept hk.size (fun b hb hl => hk.block b hl (by omega))).mono fun b hb _ => by omega
    · exact (HX.out.2.2.1.trans (hk4.mono (by omega))).trans (hk.below (by omega) (fun x hx => by omega))
end Go.Proofs.Ytkodlhjcoeljiaa
