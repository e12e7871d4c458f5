import Derived.Test.YtkodlhjcoeljiaaRoomRS
import Derived.Deep.RegionHeld
namespace Go.Proofs.Ytkodlhjcoeljiaa
open Go.RowKit
set_option maxRecDepth 8000

set_option maxHeartbeats 2000000 in
theorem record_any (r : RT) (base : Nat) (w : World) (R : RS) (S : Nat → Prop) (hR : Rm base w R) (hbase : base ≤ w.heap.size) (hin : RT.In w S r) (hS : ∀ b, S b → ¬ R.hot b) (hcnt : ∀ i, i < 10 → (R.L i).length + 2 + r.v.total ≤ 100000) (hn : r.n ≤ 10000) :
    Calls Try.prog 20 #[.pointer (some ⟨R.rb, 0, none⟩), r.val] w fun e w' => RPost base w R r e w' := by
  have HC : Hid (∀ W, Below w.heap.size w W → Calls Try.prog 9 #[.pointer (some ⟨R.rb, 0, none⟩), r.v.val] W fun e w' => WPost base W R r.v e w') :=
    fun W hW => value_any r.v base W R (fun b => S b ∧ b < w.heap.size) (hR.below hW) (Nat.le_trans hbase hW.size) ((hin.v.mono fun b hb hl => ⟨hb, hl⟩).below hW) (fun b hb => hS b hb.1) (fun i hi => by have := hcnt i hi; omega)
  have HD : Hid (∀ W, Below w.heap.size w W → ∀ u w1 R1, Roomed base W R r.v u w1 R1 → Calls Try.prog 49 #[.pointer (some ⟨R.rb, 0, none⟩), .slice r.p r.n r.c] w1 fun e w' => IPost base w1 R1 r.n r.loop e w') := fun W hW u w1 R1 hu => by
    have h1 : Ints W (fun b => S b ∧ b < w.heap.size) r.p r.n r.c r.loop := (hin.l.mono fun b hb hl => ⟨hb, hl⟩).kept hW.size fun b _ hl => hW.block b hl
    have h := ints_of r.p r.n r.c r.loop base w1 R1 _ hu.rm (Nat.le_trans (Nat.le_trans hbase hW.size) hu.but.size) (h1.kept hu.but.size fun b hb hl => hu.but.block b hl (hS b hb.1)) hn (fun i hi => by have := hcnt i hi; have := hu.cnt i hi; omega)
    rw [hu.next.rb] at h
    exact h
  have HR : Hid (Rm base w R) := hR
  have HK : Hid (r.key.size ≤ 140737488355328) := hin.k
  have hlo : Hid (∀ b, w.heap.size ≤ b → ¬ R.hot b) := fun b hb h => by have := HR.out.hotlt h; omega
  unfold RT.val
  unfold VT.val at HC
  clear hin hS hcnt hR hn
  go_enter Try.func20, Try.ntmps20
  have hB0 := (Box.new w #[.string r.key, .int .i64 r.v.kind, .int .i64 r.v.int, .string r.v.text, .slice r.v.p r.v.n r.v.c, .slice r.p r.n r.c] 47).below ((Below.refl _ _).alloc (Nat.le_refl _) (.cells #[.string ⟨#[]⟩, .int .i64 0, .int .i64 0, .string ⟨#[]⟩, .slice none 0 0, .slice none 0 0] 47))
  have hB1 := Box.new (w.alloc (.cells #[.string r.key, .int .i64 r.v.kind, .int .i64 r.v.int, .string r.v.text, .slice r.v.p r.v.n r.v.c, .slice r.p r.n r.c] 47)) #[.string ⟨#[]⟩, .int .i64 0, .int .i64 0, .string ⟨#[]⟩, .slice none 0 0, .slice none 0 0] 47
  rw [show (w.alloc (.cells #[.string r.key, .int .i64 r.v.kind, .int .i64 r.v.int, .string r.v.text, .slice r.v.p r.v.n r.v.c, .slice r.p r.n r.c] 47)).heap.size = w.heap.size + 1 by simp] at hB1
  obtain ⟨W0, hW0⟩ : ∃ W0, W0 = (w.alloc (.cells #[.string r.key, .int .i64 r.v.kind, .int .i64 r.v.int, .string r.v.text, .slice r.v.p r.v.n r.v.c, .slice r.p r.n r.c] 47)).alloc (.cells #[.string ⟨#[]⟩, .int .i64 0, .int .i64 0, .string ⟨#[]⟩, .slice none 0 0, .slice none 0 0] 47) := ⟨_, rfl⟩
  rw [← hW0] at hB0 hB1
  have HB : Hid (Box W0 w.heap.size #[.string r.key, .int .i64 r.v.kind, .int .i64 r.v.int, .string r.v.text, .slice r.v.p r.v.n r.v.c, .slice r.p r.n r.c] 47 ∧ Box W0 (w.heap.size + 1) #[.string ⟨#[]⟩, .int .i64 0, .int .i64 0, .string ⟨#[]⟩, .slice none 0 0, .slice none 0 0] 47) := ⟨hB0, hB1⟩
  have HW : Hid (Below w.heap.size w W0.drew) := by rw [hW0]; exact (((Below.refl _ _).alloc (Nat.le_refl _) _).alloc (by simp) _).drew
  have hz : W0.drew.heap.size = w.heap.size + 2 := by rw [hW0]; simp
  have x0 := hB0.cell 0
  have x1 := hB0.cell 1
  have x2 := hB0.cell 2
  have x3 := hB0.cell 3
  have x4 := hB0.cell 4
  have x5 := hB0.cell 5
  simp at x0 x1 x2 x3 x4 x5
  have hl0 := hB0.lt
  have hl1 := hB1.lt
  clear hB0 hB1
  go_wp2_with fail
  rw [← hW0]
  clear hW0
  have N1 : w.heap.size + 1 ≠ w.heap.size := by omega
  have N2 : w.heap.size ≠ w.heap.size + 1 := by omega
  go_region_held (fun W => W.cell? ⟨w.heap.size, 0, none⟩ = some (.string r.key) ∧ W.cell? ⟨w.heap.size, 1, none⟩ = some (.int .i64 r.v.kind) ∧ W.cell? ⟨w.heap.size, 2, none⟩ = some (.int .i64 r.v.int) ∧ W.cell? ⟨w.heap.size, 3, none⟩ = some (.string r.v.text) ∧ W.cell? ⟨w.heap.size, 4, none⟩ = some (.slice r.v.p r.v.n r.v.c) ∧ W.cell? ⟨w.heap.size, 5, none⟩ = some (.slice r.p r.n r.c)) (go_keep) (first
    | (go_at_call 9; (refine (HC.out _ ?_).mono ?_; exact HW.out; intro e w4 hP; obtain ⟨u, R1, he, hu⟩ := hP; subst he; have hk4 : But R.hot W0 w4 := (((But.refl R.hot _).drew).trans hu.but); have hA := HB.out.1.but hk4 (hlo.out _ (Nat.le_refl _)); have hB := HB.out.2.but hk4 (hlo.out _ (Nat.le_succ _)); have y0 := hA.cell 0; have y1 := hA.cell 1; have y2 := hA.cell 2; have y3 := hA.cell 3; have y4 := hA.cell 4; have y5 := hA.cell 5; have la := hA.lt; have lb := hB.lt; simp at y0 y1 y2 y3 y4 y5; have HAB := hid (And.intro hA hB); have HU := hid hu; have HD1 := hid (HD.out _ HW.out u w4 R1 hu); clear hA hB hk4 hu; simp only [VT.val]))
    | (go_at_call 49; (refine HD1.out.mono ?_; intro e w5 hP; obtain ⟨p5, c5, R2, he, hi⟩ := hP; subst he; have hlo1 : ∀ b, b < w4.heap.size → w.heap.size ≤ b → b < w.heap.size + 2 → ¬ R1.hot b := (fun b h1 h2 h3 h4 => by rcases HU.out.next.hot b h4 with h5 | h5; exact hlo.out b h2 h5; rw [hz] at h5; omega); have hA := HAB.out.1.but hi.but (hlo1 _ la (by omega) (by omega)); have hB := HAB.out.2.but hi.but (hlo1 _ lb (by omega) (by omega)); have a0 := hA.cell 0; have a1 := hA.cell 1; have a2 := hA.cell 2; have a3 := hA.cell 3; have a4 := hA.cell 4; have a5 := hA.cell 5; have z0 := hB.cell 0; have z1 := hB.cell 1; have z2 := hB.cell 2; have z3 := hB.cell 3; have z4 := hB.cell 4; have z5 := hB.cell 5; have g0 := hB.frozen 0; have g1 := hB.frozen 1; have g2 := hB.frozen 2; have g3 := hB.frozen 3; have g4 := hB.frozen 4; have g5 := hB.frozen 5; have la5 := hA.lt; have lb5 := hB.lt; simp at a0 a1 a2 a3 a4 a5 z0 z1 z2 z3 z4 z5; have HI5 := hid hi; clear hA hB hi hlo1)))
  all_goals
    go_wp2
    refine bodyPost_ret (v := .agg #[.string r.key, .int .i64 u.kind, .int .i64 u.int, .string u.text, .slice u.p u.n u.c, .slice p5 r.n c5]) (by simp [results, Try.results20, go_sem, z0, z1, z2, z3, z4, z5]) rfl ⟨_, R2, rfl, roomedR_join HR.out HW.out HK.out HU.out HI5.out ?_⟩
    rw [hz]
    exact (((((((But.one w5 (w.heap.size + 1)).setAt 0 _).setAt 1 _).setAt 2 _).setAt 3 _).setAt 4 _).setAt 5 _).mono fun b _ hb => by omega
end Go.Proofs.Ytkodlhjcoeljiaa
