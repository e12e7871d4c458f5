import Derived.Test.YtneomdiabcpemaaRgF
import Derived.Test.YtneomdiabcpemaaOwnB
import Derived.Test.YtneomdiabcpemaaLstG
import Derived.Laws.CopyOwn
import Derived.Laws.MakeOwn
import Derived.Deep.DeepCutAuto
import Derived.Deep.RegionHeld
namespace Go.Proofs.Ytneomdiabcpemaa
open Go.RowKit
set_option maxRecDepth 8000

/-- bytes as cells -/
def bys (zs : List Int) : Array Value := (zs.map (Value.int .u8)).toArray
theorem bys_size (zs : List Int) : (bys zs).size = zs.length := by simp [bys]
theorem one_u8 (zs : List Int) : ∀ u ∈ zs.map (Value.int .u8), u.oneCell' = true := by
  intro u hu
  obtain ⟨z, _, rfl⟩ := List.mem_map.1 hu
  rfl
theorem splice_all {α : Type} (L cs : List α) (h : cs.length = L.length) : splice L 0 cs = cs := by
  unfold splice
  simp [h]
/-- a flight with the block of its bytes -/
structure FL where
  fr : Int
  tt : Int
  d : Nat
  zs : List Int
def FL.val (x : FL) : Value := .agg #[.int .i64 x.fr, .int .i64 x.tt, .slice (some ⟨x.d, 0, none⟩) x.zs.length x.zs.length]
def FL.cells (x : FL) : List Value := [.int .i64 x.fr, .int .i64 x.tt, .slice (some ⟨x.d, 0, none⟩) x.zs.length x.zs.length]
/-- what it says -/
structure FA where
  fr : Int
  tt : Int
  zs : List Int
def FL.a (x : FL) : FA := ⟨x.fr, x.tt, x.zs⟩
theorem kindFl : ∃ i, Kind 36 32 i (.agg #[.int .i64 0, .int .i64 0, .slice none 0 0]) 3 40 := by
  obtain ⟨i0, hi, hz0, hz1, hz2⟩ := info_parts (show (Try.prog.info? 32).map (fun i => (i.zero, i.size, i.bytes)) = some (some (.agg #[.int .i64 0, .int .i64 0, .slice none 0 0]), 3, 40) by kernel_rfl)
  exact ⟨i0, Try.underlying36, hi, hz0, hz1, hz2, rfl, by decide⟩
/-- three cells of a block, stored -/
theorem Box.set3 {w : World} {b : Nat} {a0 a1 a2 : Value} {e : TypeId} (h : Box w b #[a0, a1, a2] e) (x0 x1 x2 : Value) : Box (((w.setCell ⟨b, 0, none⟩ x0).setCell ⟨b, 1, none⟩ x1).setCell ⟨b, 2, none⟩ x2) b #[x0, x1, x2] e := by
  have h := ((h.set 0 x0).set 1 x1).set 2 x2
  simpa using h
theorem but3 (w : World) (b : Nat) (x0 x1 x2 : Value) : But (fun k => k = b) w (((w.setCell ⟨b, 0, none⟩ x0).setCell ⟨b, 1, none⟩ x1).setCell ⟨b, 2, none⟩ x2) :=
  (((But.one w b).setAt 0 x0).setAt 1 x1).setAt 2 x2
def CpQ (fr tt : Int) (zs : List Int) (w : World) (e : Ending) (w' : World) : Prop :=
  ∃ d : Nat, e = .returned (.agg #[.int .i64 fr, .int .i64 tt, .slice (some ⟨d, 0, none⟩) zs.length zs.length]) ∧ w.heap.size ≤ d ∧ Box w' d (bys zs) 5 ∧ Below w.heap.size w w'
set_option maxHeartbeats 4000000 in
/-- copied -/
theorem copied_any (fr tt : Int) (p : Option Addr) (c : Nat) (zs : List Int) (w : World) (hs : Src w p zs.length c 1 (zs.map (.int .u8))) (hl : zs.length ≤ 1099511627776) :
    Calls Try.prog 29 #[.agg #[.int .i64 fr, .int .i64 tt, .slice p zs.length c]] w fun e w' => CpQ fr tt zs w e w' := by
  obtain ⟨i0, Kd⟩ := kindB
  obtain ⟨n, hn⟩ : ∃ n, n = zs.length := ⟨_, rfl⟩
  rw [← hn] at hl ⊢
  obtain ⟨M, hM⟩ : ∃ M, M = madeCells (Value.int .u8 0).cells (((n : Nat) : Int).toNat * i0.size) := ⟨_, rfl⟩
  have hMs : M.size = n := by rw [hM, size_madeCells, Kd.hsize]; simp
  have hmk : ∀ W : World, (Instr.makeSlice 29 (.int .i64 (n : Int)) (.int .i64 (n : Int))).run Try.prog W = .ok (.slice (some ⟨W.heap.size, 0, none⟩) n n) (W.alloc (.cells M 5)) := fun W => by
    have h := run_make (P := Try.prog) W 29 5 i0 (.int .u8 0) Kd.ht Kd.hi Kd.hz .i64 .i64 (n : Int) (n : Int) (by omega) (by omega) (by rw [Kd.hby]; omega) (by omega)
    rw [← hM] at h
    simpa using h
  have hinf : (Try.prog.info? 5).map (·.size) = some 1 := by rw [Kd.hi]; simp [Kd.hsize]
  obtain ⟨W, hW⟩ : ∃ W, W = (w.alloc (.cells #[.int .i64 fr, .int .i64 tt, .slice p n c] 32)).alloc (.cells #[.int .i64 0, .int .i64 0, .slice none 0 0] 32) := ⟨_, rfl⟩
  have hB : Below w.heap.size w W := by rw [hW]; exact ((Below.refl _ _).alloc (Nat.le_refl _) _).alloc (by simp) _
  have hX : Box W w.heap.size #[.int .i64 fr, .int .i64 tt, .slice p n c] 32 := by rw [hW]; exact (Box.new w _ _).below ((Below.refl _ _).alloc (Nat.le_refl _) _)
  have hY : Box W (w.heap.size + 1) #[.int .i64 0, .int .i64 0, .slice none 0 0] 32 := by
    have h := Box.new (w.alloc (.cells #[.int .i64 fr, .int .i64 tt, .slice p n c] 32)) #[.int .i64 0, .int .i64 0, .slice none 0 0] 32
    rw [← hW] at h
    simpa using h
  have hWs : W.heap.size = w.heap.size + 2 := by rw [hW]; simp
  have z2 := hX.cell 2
  simp at z2
  have zl := hX.lt
  have HW := hid hW
  have HX := hid hX
  have HY := hid hY
  have HB := hid hB
  have HN := hid hn
  have HWs := hid hWs
  have HMs := hid hMs
  have HS := hid hs
  have HM := hid hM
  clear hW hX hY hB hn hs hM hMs hWs
  go_enter Try.func29, Try.ntmps29
  go_upto_region 1 with fail
  rw [← HW.out]
  go_upto_region 2 with fail
  obtain ⟨V, hV⟩ : ∃ V, V = W.alloc (.cells M 5) := ⟨_, rfl⟩
  rw [← hV]
  have hBV : Below W.heap.size W V := by rw [hV]; exact (Below.refl _ _).alloc (Nat.le_refl _) _
  have hGV : V.heap[W.heap.size]? = some (.cells M.toList.toArray 5 (0, 0)) := by
    have h := Box.new W M 5
    rw [← hV] at h
    simpa [Box] using h
  have hXV := HX.out.below hBV
  have y2 := hXV.cell 2
  simp at y2
  have HBV := hid hBV
  have HGV := hid hGV
  have hVs : W.heap.size < V.heap.size := (show Box V W.heap.size _ _ from hGV).lt
  have HVs := hid hVs
  clear hV hBV hGV hXV z2 zl hmk
  have hwv : Below w.heap.size w V := HB.out.trans (HBV.out.mono HB.out.size)
  have HWV := hid hwv
  clear hwv
  have hwx : w.heap.size < W.heap.size := by have := HWs.out; omega
  have HWX := hid hwx
  have hvl : w.heap.size < V.heap.size := by omega
  have HP : Hid (0 < (zs.map (Value.int .u8)).length → (some (⟨W.heap.size, 0, none⟩ : Addr)) = some ⟨W.heap.size, 0, none⟩ ∧ ∃ ad, p = some ad ∧ ∀ j v, (zs.map (Value.int .u8))[j]? = some v → V.cell? (ad.add j) = some v) := fun hp => ⟨rfl, by
    rcases HS.out with ⟨_, h0, _, _⟩ | ⟨ad, h1, _, h3⟩
    · simp [h0] at hp
    · exact ⟨ad, h1, fun j v hv => by
        have h4 := h3 j v hv
        rw [HWV.out.cell (block_lt_of_cell h4)]
        exact h4⟩⟩
  have HL : Hid ((zs.map (Value.int .u8)).length = Nat.min n n) := by show _ = _; simp [HN.out]
  have HL2 : Hid (0 + (zs.map (Value.int .u8)).length ≤ M.toList.length) := by show _ ≤ _; simp [HMs.out, HN.out]
  go_wp2_with (refine wpList_copy_splice rfl (.tmp 8) (.tmp 10) 29 29 rfl 5 Try.underlying29 hinf (some ⟨W.heap.size, 0, none⟩) p n n n c rfl rfl W.heap.size 0 M.toList 5 HGV.out (zs.map (.int .u8)) HL.out HP.out HL2.out (one_u8 zs) W.heap.size W HBV.out (Nat.le_refl _) ?_)
  intro w3 HG3 hB3
  have hG3 : Box w3 W.heap.size (bys zs) 5 := by
    have h := HG3.out
    rw [splice_all _ _ (by simp [HMs.out, HN.out])] at h
    exact h
  have hX3 := HX.out.below hB3
  have hY3 := HY.out.below hB3
  have a0 := hX3.cell 0
  have a1 := hX3.cell 1
  have a2 := hX3.cell 2
  have f2 := hX3.frozen 2
  have c0 := hY3.cell 0
  have c1 := hY3.cell 1
  have c2 := hY3.cell 2
  have g0 := hY3.frozen 0
  have g1 := hY3.frozen 1
  have g2 := hY3.frozen 2
  have al := hX3.lt
  have cl := hY3.lt
  simp at a0 a1 a2 c0 c1 c2
  have H3 := hid (And.intro hG3 (And.intro hB3 hY3))
  clear hG3 hX3 hY3 hB3 HG3 y2 hvl
  go_wp2
  have hbt := But.setAt (But.one w3 w.heap.size) 2 (.slice (some ⟨W.heap.size, 0, none⟩) n n)
  have hb2 := but3 (w3.setCell ⟨w.heap.size, 2, none⟩ (.slice (some ⟨W.heap.size, 0, none⟩) n n)) (w.heap.size + 1) (.int .i64 fr) (.int .i64 tt) (.slice (some ⟨W.heap.size, 0, none⟩) n n)
  refine bodyPost_ret (v := .agg #[.int .i64 fr, .int .i64 tt, .slice (some ⟨W.heap.size, 0, none⟩) n n]) (by simp [results, Try.results29, go_sem, c0, c1, c2]) rfl ⟨W.heap.size, by rw [HN.out], Nat.le_of_lt HWX.out, ?_, ?_⟩
  · have hws := HWs.out
    exact (H3.out.1.but hbt (by omega)).but hb2 (by omega)
  · have hws := HWs.out
    have hs3 := H3.out.2.1.size
    have h1 : Below w.heap.size w w3 := HB.out.trans (H3.out.2.1.mono HB.out.size)
    exact (h1.trans (hbt.below h1.size (fun k hk e => by omega))).trans (hb2.below (by have := hbt.size; omega) (fun k hk e => by omega))
end Go.Proofs.Ytneomdiabcpemaa
