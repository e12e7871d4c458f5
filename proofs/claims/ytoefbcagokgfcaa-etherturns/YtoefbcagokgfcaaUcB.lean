import Derived.Test.YtoefbcagokgfcaaPack18
namespace Go.Proofs.Ytoefbcagokgfcaa
open Go.RowKit
set_option maxRecDepth 8000
/-- a flight that was written down -/
structure FY where
  fr : Int
  tt : Int
  y : BY
def FY.a (x : FY) : FA := ⟨x.fr, x.tt, x.y.zs⟩
def elFY : El FY where
  ty := 32
  size := 3
  cells := fun x => [.int .i64 x.fr, .int .i64 x.tt, .slice x.y.p x.y.n x.y.c]
  len := fun _ => rfl
  one := fun x u hu => by
    simp only [List.mem_cons, List.not_mem_nil, or_false] at hu
    rcases hu with rfl | rfl | rfl <;> rfl
  In := fun w S x => Byts w S x.y.p x.y.n x.y.c x.y.f
  kept := fun h hs hb => h.kept hs hb
  mono := fun h hb => h.mono hb
def fas (l : LT FY) : List FA := (List.range l.n).map fun j => (l.item j).a
theorem fas_len (l : LT FY) : (fas l).length = l.n := by simp [fas]
theorem fas_mem {l : LT FY} {s : FA} (h : s ∈ fas l) : ∃ j, j < l.n ∧ (l.item j).a = s := by
  obtain ⟨j, hj, rfl⟩ := List.mem_map.1 h
  exact ⟨j, List.mem_range.1 hj, rfl⟩
/-- the book in memory, in blocks of Z -/
structure BkI (w : World) (Z : Nat → Prop) (kb : Nat) (l : LT FY) (cp dl dr fl : Nat) : Prop where
  bx : Box w kb #[.slice l.p l.n l.c, .int .i64 (cp : Int), .int .i64 (dl : Int), .int .i64 (dr : Int), .int .i64 (fl : Int)] 45
  zb : Z kb
  row : RowX w (.slice l.p l.n l.c) l.n ((List.range l.n).flatMap fun j => elFY.cells (l.item j))
  zr : ∀ g, (Value.slice l.p l.n l.c).ownBlock = some g → Z g
  each : ∀ j, j < l.n → elFY.In w (fun k => Z k ∧ k ≠ kb ∧ (Value.slice l.p l.n l.c).ownBlock ≠ some k) (l.item j)
theorem BkI.kept {w w' : World} {Z : Nat → Prop} {kb : Nat} {l : LT FY} {cp dl dr fl : Nat} (h : BkI w Z kb l cp dl dr fl) (hs : w.heap.size ≤ w'.heap.size) (hb : ∀ k, Z k → k < w.heap.size → w'.heap[k]? = w.heap[k]?) : BkI w' Z kb l cp dl dr fl :=
  ⟨h.bx.kept (hb kb h.zb h.bx.lt), h.zb, h.row.kept fun g hg hl => hb g (h.zr g hg) hl, h.zr, fun j hj => elFY.kept (h.each j hj) hs (fun b hS hl => hb b hS.1 hl)⟩
theorem BkI.mono {w : World} {Z Z' : Nat → Prop} {kb : Nat} {l : LT FY} {cp dl dr fl : Nat} (h : BkI w Z kb l cp dl dr fl) (hz : ∀ k, Z k → Z' k) : BkI w Z' kb l cp dl dr fl :=
  ⟨h.bx, hz _ h.zb, h.row, fun g hg => hz _ (h.zr g hg), fun j hj => elFY.mono (h.each j hj) fun b hb _ => ⟨hz b hb.1, hb.2⟩⟩
theorem BkI.below {w w' : World} {Z : Nat → Prop} {kb : Nat} {l : LT FY} {cp dl dr fl : Nat} (h : BkI w Z kb l cp dl dr fl) (hb : Below w.heap.size w w') : BkI w' Z kb l cp dl dr fl := h.kept hb.size fun k _ hl => hb.block k hl
theorem BkI.fr {w w' : World} {Z : Nat → Prop} {kb : Nat} {l : LT FY} {cp dl dr fl : Nat} (h : BkI w Z kb l cp dl dr fl) (hb : Fr Z w w') : BkI w' Z kb l cp dl dr fl := h.kept hb.size fun k hz hl => hb.block k hl (fun h => h hz)
theorem BkI.get {w : World} {Z : Nat → Prop} {kb : Nat} {l : LT FY} {cp dl dr fl : Nat} (h : BkI w Z kb l cp dl dr fl) {j : Nat} (hj : j < l.n) : ∃ g, l.p = some ⟨g, 0, none⟩ ∧ g < w.heap.size ∧ w.cell? ⟨g, j * 3, none⟩ = some (.int .i64 (l.item j).fr) ∧ w.cell? ⟨g, j * 3 + 1, none⟩ = some (.int .i64 (l.item j).tt) ∧ w.cell? ⟨g, j * 3 + 2, none⟩ = some (.slice (l.item j).y.p (l.item j).y.n (l.item j).y.c) := by
  obtain ⟨g, cap, hv, hc, hl, hcell, hf⟩ := h.row.cells (by omega)
  have k : ∀ r u, r < 3 → (elFY.cells (l.item j))[r]? = some u → w.cell? ⟨g, j * 3 + r, none⟩ = some u := fun r u hr hu => hcell _ _ (by
    have := range_flat_get elFY l.item l.n j r hj hr
    rw [show elFY.size = 3 from rfl] at this
    rw [this]; exact hu)
  exact ⟨g, (Value.slice.inj hv).1, hl, k 0 _ (by omega) rfl, k 1 _ (by omega) rfl, k 2 _ (by omega) rfl⟩
set_option maxHeartbeats 8000000 in
/-- known: such a packet was sent -/
theorem known_any (w : World) (Z : Nat → Prop) (kb : Nat) (l : LT FY) (cp dl dr fl : Nat) (hK : BkI w Z kb l cp dl dr fl) (hln : l.n ≤ 140737488355328)
    (fr tt : Int) (q : Option Addr) (cq : Nat) (zs : List Int) (hs : Src w q zs.length cq 1 (zs.map (.int .u8))) (hz : (⟨fr, tt, zs⟩ : FA).Ok) (hok : ∀ s ∈ fas l, s.Ok) (hkn : ∃ s ∈ fas l, Like fl s ⟨fr, tt, zs⟩) :
    Calls Try.prog 17 #[.pointer (some ⟨kb, 0, none⟩), .agg #[.int .i64 fr, .int .i64 tt, .slice q zs.length cq]] w fun e w' => e = .returned (.bool true) ∧ Below w.heap.size w w' := by
  obtain ⟨j0, hj0, hlk⟩ : ∃ j, j < l.n ∧ Like fl (l.item j).a ⟨fr, tt, zs⟩ := by
    obtain ⟨s, hs, hl⟩ := hkn
    obtain ⟨j, hj, rfl⟩ := fas_mem hs
    exact ⟨j, hj, hl⟩
  obtain ⟨N, hN⟩ : ∃ N, N = zs.length := ⟨_, rfl⟩
  obtain ⟨V, hV⟩ : ∃ V, V = w.alloc (.cells #[.int .i64 fr, .int .i64 tt, .slice q N cq] 32) := ⟨_, rfl⟩
  have hBV : Below w.heap.size w V := by rw [hV]; exact (Below.refl _ _).alloc (Nat.le_refl _) _
  have hX : Box V w.heap.size #[.int .i64 fr, .int .i64 tt, .slice q N cq] 32 := by rw [hV]; exact Box.new _ _ _
  have HK := hid (hK.below hBV)
  have HX := hid hX
  have HV := hid hV
  have HBV := hid hBV
  have HS := hid (hs.below hBV)
  have HZ := hid hz
  have HOk := hid hok
  have HLk := hid hlk
  have HN := hid hN
  rw [← hN]
  clear hK hX hV hBV hs hz hok hlk hkn hN
  go_enter Try.func17, Try.ntmps17
  go_upto_region 1 with fail
  rw [← HV.out]
  go_wp2_with fail
  go_loopw [5] (fun x wr => ∃ i : Nat, i ≤ j0 ∧ x = .int .i64 (i : Int) ∧ Below V.heap.size V wr) (fun x _ => l.n - (intOf x).toNat)
  case atStart => exact ⟨0, Nat.zero_le _, rfl, Below.refl _ _⟩
  case round =>
    obtain ⟨i, hi, rfl, hbw⟩ := hrel
    have HB := hid hbw
    have hKr := HK.out.below hbw
    have hXr := HX.out.below hbw
    have hSr := HS.out.below hbw
    have hwV := HBV.out.size
    have hVr := hbw.size
    clear hbw
    have hil : i < l.n := by omega
    have hil' : (i : Int) < (l.n : Int) := by omega
    obtain ⟨g, hp, hgl, c0, c1, c2⟩ := hKr.get hil
    have b0 := hKr.bx.cell 0
    have b4 := hKr.bx.cell 4
    simp [hp] at b0 b4
    have bl := hKr.bx.lt
    obtain ⟨x, hx⟩ : ∃ x, x = l.item i := ⟨_, rfl⟩
    rw [← hx] at c0 c1 c2
    have hxI : elFY.In wr Z x := by rw [hx]; exact elFY.mono (hKr.each i hil) fun b hb _ => hb.1
    have hxo : x.a.Ok := by rw [hx]; exact HOk.out _ (List.mem_map.2 ⟨i, List.mem_range.2 hil, rfl⟩)
    obtain ⟨U, hU⟩ : ∃ U, U = wr.alloc (.cells #[.int .i64 x.fr, .int .i64 x.tt, .slice x.y.p x.y.n x.y.c] 32) := ⟨_, rfl⟩
    have hBU : Below wr.heap.size wr U := by rw [hU]; exact (Below.refl _ _).alloc (Nat.le_refl _) _
    have hYU : Box U wr.heap.size #[.int .i64 x.fr, .int .i64 x.tt, .slice x.y.p x.y.n x.y.c] 32 := by rw [hU]; exact Box.new _ _ _
    have hXU := hXr.below hBU
    have hKU := hKr.below hBU
    have y0 := hYU.cell 0
    have y1 := hYU.cell 1
    have y2 := hYU.cell 2
    have z0 := hXU.cell 0
    have z1 := hXU.cell 1
    have z2 := hXU.cell 2
    have d4 := hKU.bx.cell 4
    simp at y0 y1 y2 z0 z1 z2 d4
    have yl := hYU.lt
    have zl := hXU.lt
    have dl' := hKU.bx.lt
    have HU := hid hU
    have HBU := hid hBU
    have HKU := hid hKU
    have HBi := hid (bits_any U x.y.zs zs x.y.p q x.y.c cq ((BY.src hxI).below hBU) (hSr.below hBU) hxo.by_ HZ.out.by_ (by have := hxo.len; show x.a.zs.length ≤ _; omega))
    rw [BY.len, ← HN.out] at HBi
    have HXe := hid hx
    have HNx : Hid (i = j0 → x.fr = fr ∧ x.tt = tt ∧ x.y.n = N ∧ (dist x.y.zs zs : Int) ≤ (fl : Int)) := fun e => by
      subst e
      have h := HLk.out
      rw [← HXe.out] at h
      refine ⟨h.fr, h.tt, ?_, ?_⟩
      · have h1 : x.y.zs.length = zs.length := h.len
        rw [BY.len] at h1
        rw [HN.out]; exact h1
      · have h1 : dist x.y.zs zs ≤ fl := h.d
        omega
    clear hKr hXr hSr hx hxI hxo hU hBU hYU hXU hKU
    have HBn : Hid (Below V.heap.size V U) := HB.out.trans (HBU.out.mono HB.out.size)
    go_upto_region 5 with fail
    rw [← HU.out]
    clear c0 c1 c2 b0 b4
    by_cases hfr : x.fr = fr
    case neg =>
      have hfr' : (x.fr == fr) = false := by simpa using hfr
      have hne : i ≠ j0 := fun e => hfr (HNx.out e).1
      go_wp2
      all_goals exact ⟨⟨i + 1, by omega, by go_num, HBn.out⟩, by simp [intOf]; omega⟩
    case pos =>
      subst hfr
      by_cases htt : x.tt = tt
      case neg =>
        have htt' : (x.tt == tt) = false := by simpa using htt
        have hne : i ≠ j0 := fun e => htt (HNx.out e).2.1
        go_wp2
        all_goals exact ⟨⟨i + 1, by omega, by go_num, HBn.out⟩, by simp [intOf]; omega⟩
      case pos =>
        subst htt
        go_wp2_with fail
        refine HBi.out.mono ?_
        rintro e w3 ⟨k, rfl, hk1, hk2, hb3⟩
        have hK3 := HKU.out.below hb3
        have e4 := hK3.bx.cell 4
        simp at e4
        have el := hK3.bx.lt
        have HBm : Hid (Below V.heap.size V w3) := HBn.out.trans (hb3.mono HBn.out.size)
        have HK1 := hid hk1
        have HK2 := hid hk2
        clear hK3 hk1 hk2 hb3 HBi y0 y1 y2 z0 z1 z2 d4
        by_cases hy : 0 ≤ k ∧ k ≤ (fl : Int)
        · have hy0 := hy.1
          have hy1 := hy.2
          clear hy
          go_wp2
          exact bodyPost_ret (v := .bool true) (by simp [results, Try.results17, go_sem]) rfl ⟨rfl, HBV.out.trans (HBm.out.mono HBV.out.size)⟩
        · have hne : i ≠ j0 := fun e => by
            obtain ⟨_, _, h3, h4⟩ := HNx.out e
            have h5 := HK1.out h3
            exact hy ⟨by omega, by omega⟩
          by_cases hy0 : 0 ≤ k
          · have hy1 : ¬ k ≤ (fl : Int) := fun h => hy ⟨hy0, h⟩
            clear hy
            go_wp2
            go_roundw
            case rel => exact ⟨i + 1, by omega, by go_num, HBm.out⟩
            case measure => simp [intOf]; omega
          · clear hy
            go_wp2
            go_roundw
            case rel => exact ⟨i + 1, by omega, by go_num, HBm.out⟩
            case measure => simp [intOf]; omega
end Go.Proofs.Ytoefbcagokgfcaa
