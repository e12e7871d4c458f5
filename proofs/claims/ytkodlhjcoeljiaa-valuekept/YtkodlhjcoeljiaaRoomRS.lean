import Derived.Test.YtkodlhjcoeljiaaRoomC
namespace Go.Proofs.Ytkodlhjcoeljiaa
open Go.RowKit
set_option maxRecDepth 8000

theorem But.shift {w W0 w1 w' : World} {X : Nat → Prop} (hb : Below w.heap.size w W0) (h : But X W0 w1) (hk : But (fun b => w.heap.size ≤ b ∧ b < W0.heap.size) w1 w') : But X w w' := by
  have h1 : But X w w1 := (But.ofBelow hb).trans h
  exact ⟨hk.os.trans h1.os, hk.tape.trans h1.tape, hk.output.trans h1.output, Nat.le_trans h1.size hk.size, fun b hb2 hx => (hk.block b (Nat.lt_of_lt_of_le hb2 h1.size) (fun h => by omega)).trans (h1.block b hb2 hx)⟩
theorem Nx.shift {w W0 : World} {R R1 : RS} (hs : w.heap.size ≤ W0.heap.size) (h : Nx W0 R R1) : Nx w R R1 := by
  refine ⟨h.rb, fun b hb => ?_, fun b hb => ?_, h.plain⟩
  · rcases h.hot b hb with h1 | h1
    · exact .inl h1
    · exact .inr (by omega)
  · rcases h.foot b hb with h1 | h1
    · exact .inl h1
    · exact .inr (by omega)
theorem Rm.shift {base : Nat} {w W0 w1 w' : World} {R R1 : RS} (hR : Rm base w R) (_hs : w.heap.size ≤ W0.heap.size) (hrm : Rm base w1 R1) (hn : Nx W0 R R1) (hk : But (fun b => w.heap.size ≤ b ∧ b < W0.heap.size) w1 w') : Rm base w' R1 := by
  refine hrm.keep hk.size fun b hf => hk.block b (hrm.footlt hf) fun h => ?_
  rcases hn.foot b hf with h1 | h1
  · have := hR.footlt h1; omega
  · omega
theorem roomedS_shift {base : Nat} {w W0 w1 w' : World} {R R1 : RS} {s u : ST} (hR : Rm base w R) (hb : Below w.heap.size w W0) (hu : RoomedS base W0 R s u w1 R1) (hk : But (fun b => w.heap.size ≤ b ∧ b < W0.heap.size) w1 w') : RoomedS base w R s u w' R1 := by
  have hs := hb.size
  exact ⟨hu.alike, (hu.in_.but hk fun b hb2 _ h => by have := hb2.1; omega).mono fun b hb2 _ => ⟨by omega, hb2.2⟩, hR.shift hs hu.rm hu.nx hk, hu.nx.shift hs, But.shift hb hu.but hk, hu.cnt⟩

set_option maxHeartbeats 2000000 in
theorem state_any (s : ST) (base : Nat) (w : World) (R : RS) (S : Nat → Prop) (hR : Rm base w R) (hbase : base ≤ w.heap.size) (hin : ST.In w S s) (hS : ∀ b, S b → ¬ R.hot b) (hcnt : ∀ i, i < 10 → (R.L i).length + 1 + s.total ≤ 100000) (hn : s.n ≤ 10000) :
    Calls Try.prog 21 #[.pointer (some ⟨R.rb, 0, none⟩), s.val] w fun e w' => SPost base w R s e w' := by
  obtain ⟨num, p, n, c, f⟩ := s
  have HC : Hid (∀ W, Below w.heap.size w W → Calls Try.prog 50 #[.pointer (some ⟨R.rb, 0, none⟩), .slice p n c] W fun e w' => CPost base W R ⟨num, p, n, c, f⟩ e w') :=
    fun W hW => cells_of num p n c f base W R (fun b => S b ∧ b < w.heap.size) (hR.below hW) (Nat.le_trans hbase hW.size) ((hin.mono fun b hb hl => ⟨hb, hl⟩).below hW) (fun b hb => hS b hb.1) hcnt hn
  have HR : Hid (Rm base w R) := hR
  have hlo : Hid (∀ b, w.heap.size ≤ b → ¬ R.hot b) := fun b hb h => by have := HR.out.hotlt h; omega
  unfold ST.val
  clear hin hS hcnt hR hn
  go_enter Try.func21, Try.ntmps21
  have hB0 := (Box.new w #[.int .i64 num, .slice p n c] 50).below ((Below.refl _ _).alloc (Nat.le_refl _) (.cells #[.int .i64 0, .slice none 0 0] 50))
  have hB1 := Box.new (w.alloc (.cells #[.int .i64 num, .slice p n c] 50)) #[.int .i64 0, .slice none 0 0] 50
  rw [show (w.alloc (.cells #[.int .i64 num, .slice p n c] 50)).heap.size = w.heap.size + 1 by simp] at hB1
  have HB : Hid (Box ((w.alloc (.cells #[.int .i64 num, .slice p n c] 50)).alloc (.cells #[.int .i64 0, .slice none 0 0] 50)) w.heap.size #[.int .i64 num, .slice p n c] 50 ∧ Box ((w.alloc (.cells #[.int .i64 num, .slice p n c] 50)).alloc (.cells #[.int .i64 0, .slice none 0 0] 50)) (w.heap.size + 1) #[.int .i64 0, .slice none 0 0] 50) := ⟨hB0, hB1⟩
  have HW : Hid (Below w.heap.size w ((w.alloc (.cells #[.int .i64 num, .slice p n c] 50)).alloc (.cells #[.int .i64 0, .slice none 0 0] 50)).drew) := (((Below.refl _ _).alloc (Nat.le_refl _) _).alloc (by simp) _).drew
  have hz : ((w.alloc (.cells #[.int .i64 num, .slice p n c] 50)).alloc (.cells #[.int .i64 0, .slice none 0 0] 50)).drew.heap.size = w.heap.size + 2 := by simp
  clear hB0 hB1
  go_wp2_with fail
  go_region_with (go_at_call 50; (refine (HC.out _ ?_).mono ?_; exact HW.out; intro e w4 hP; obtain ⟨u, R1, he, hu⟩ := hP; subst he; have hA := HB.out.1.but (((But.refl R.hot _).drew).trans hu.but) (hlo.out _ (Nat.le_refl _)); have hB := HB.out.2.but (((But.refl R.hot _).drew).trans hu.but) (hlo.out _ (Nat.le_succ _)); have y0 := hA.cell 0; have y1 := hA.cell 1; have z0 := hB.cell 0; have z1 := hB.cell 1; have g0 := hB.frozen 0; have g1 := hB.frozen 1; have la := hA.lt; have lb := hB.lt; simp at y0 y1 z0 z1))
  all_goals
    have HU := hid hu
    clear hu hA hB
    go_wp2
    refine bodyPost_ret (v := .agg #[.int .i64 num, .slice u.p u.n u.c]) (by simp [results, Try.results21, go_sem, z0, z1]) rfl ⟨u, R1, ?_, roomedS_shift HR.out HW.out HU.out ?_⟩
    · rw [ST.val, HU.out.alike.num]
    · rw [hz]
      exact (((But.one w4 (w.heap.size + 1)).setAt 0 _).setAt 1 _).mono fun b _ hb => by omega

/-- what comes of a record with room -/
structure RoomedR (base : Nat) (w : World) (R : RS) (r u : RT) (w' : World) (R' : RS) : Prop where
  alike : RT.Alike r u
  in_ : RT.In w' (fun b => w.heap.size ≤ b ∧ ¬ R'.hot b) u
  rm : Rm base w' R'
  nx : Nx w R R'
  but : But R.hot w w'
  cnt : ∀ i, i < 10 → (R'.L i).length ≤ (R.L i).length + 2 + r.v.total
def RPost (base : Nat) (w : World) (R : RS) (r : RT) (e : Ending) (w' : World) : Prop := ∃ u R', e = .returned u.val ∧ RoomedR base w R r u w' R'
theorem roomedR_join {base : Nat} {w W0 w1 w2 w' : World} {R R1 R2 : RS} {r : RT} {u : VT} {p : Option Addr} {c : Nat} (hR : Rm base w R) (hb : Below w.heap.size w W0) (hk0 : r.key.size ≤ 140737488355328) (hu : Roomed base W0 R r.v u w1 R1) (hi : RoomedI base w1 R1 r.n r.loop p c w2 R2) (hk : But (fun b => w.heap.size ≤ b ∧ b < W0.heap.size) w2 w') :
    RoomedR base w R r ⟨r.key, u, p, r.n, c, r.loop⟩ w' R2 := by
  have hs := hb.size
  have hs1 := hu.but.size
  have hnx : Nx W0 R R2 := hu.next.nx.trans hi.nx hs1
  refine ⟨⟨rfl, hu.alike, rfl, fun _ _ => rfl⟩, ⟨?_, ?_, hk0⟩, hR.shift hs hi.rm hnx hk, hnx.shift hs, But.shift hb (hu.but.nx hu.next.nx hi.but) hk, fun q hq => ?_⟩
  · have h1 : VT.In w1 (fun b => (W0.heap.size ≤ b ∧ ¬ R2.hot b) ∧ ¬ R1.hot b) u := hu.in_.mono fun b hb2 hl => ⟨⟨hb2.1, fun h => by
      rcases hi.nx.hot b h with h2 | h2
      · exact hb2.2 h2
      · omega⟩, hb2.2⟩
    have h2 := (h1.but hi.but fun b hb2 _ => hb2.2).mono fun b hb2 _ => hb2.1
    exact (h2.but hk fun b hb2 _ h => by have := hb2.1; omega).mono fun b hb2 _ => ⟨by omega, hb2.2⟩
  · exact (hi.ints.kept hk.size fun b hb2 hl => hk.block b hl fun h => by have := hb2.1; omega).mono fun b hb2 _ => ⟨by have := hb2.1; omega, hb2.2⟩
  · have h1 := hu.cnt q hq
    have h2 := hi.cnt q hq
    omega

end Go.Proofs.Ytkodlhjcoeljiaa
