import Derived.Test.YtehmifdgfgngdacDoorOpen
import Derived.Deep.Strs
namespace Go.Proofs.YtehmifdgfgngdacDoor
open Go.ChangeShapes Go.WideShapes Go.ChangeAt Go.RowKit
set_option maxRecDepth 8000

/-- one step of a script, as it lies in memory -/
structure OpAt (w : World) (b o i : Nat) (k : Int) (s : Nat) (a : Option Addr) (n c : Nat) (z : List Int) : Prop where
  c0 : w.cell? ⟨b, o + i * 3, none⟩ = some (.int .i64 k)
  c1 : w.cell? ⟨b, o + i * 3 + 1, none⟩ = some (.int .u32 (s : Int))
  c2 : w.cell? ⟨b, o + i * 3 + 2, none⟩ = some (.slice a n c)
  kk : -9223372036854775808 ≤ k ∧ k ≤ 9223372036854775807
  ss : s < 4294967296
  len : z.length = n
  bytes : Bytes w a z
  nil : a = none → n = 0 ∧ c = 0
  le : n ≤ c
  cap : c ≤ 140737488355328

theorem cellsOp : Tryd.prog.cellsOf 26 = 3 := by kernel_rfl
theorem bytesOp : Tryd.prog.bytesOf 26 = 40 := by kernel_rfl

theorem mem_weightsAll {H : Type} {P : Program} {e : TypeId} : ∀ {l : List (DataW H)} {d : DataW H} {n : Nat}, d ∈ l → n ∈ d.weights P e → n ∈ DataW.weightsAll P e l
  | [], _, _, h, _ => by cases h
  | x :: r, d, n, h, hn => by
    simp only [DataW.weightsAll, List.mem_append]
    rcases List.mem_cons.1 h with rfl | h
    · exact .inl hn
    · exact .inr (mem_weightsAll h hn)

theorem cellsB : Tryd.prog.cellsOf 24 = 1 := by kernel_rfl
theorem cells3 : Tryd.prog.cellsOf 3 = 1 := by kernel_rfl

theorem bytes_of_trod {H : Type} {enc : TypeId × Value → H} {W : World} {fuel : Nat} {cs : List Value} {x : DataW H × List MemPlace}
    (hf : DataW.trod enc Tryd.prog W 0 (fun _ => true) true fuel 24 cs = some x)
    (hw : ∀ elems spare, x.1 = .slice elems spare → (elems.length + spare.length) * Tryd.prog.bytesOf 5 ≤ reachBytes) :
    ∃ a n c zs, cs = [.slice a n c] ∧ zs.length = n ∧ Bytes W a zs ∧ (a = none → n = 0 ∧ c = 0) ∧ n ≤ c ∧ c ≤ 140737488355328 := by
  rcases open_ints Tryd.underlying24 Tryd.underlying5 cells5 hf with ⟨rfl, _⟩ | ⟨x, len, cap, zs, rfl, _, hl, hm, hz, rfl, hcell, hwz⟩
  · exact ⟨none, 0, 0, [], rfl, rfl, ⟨fun h => absurd h (by simp), fun z hz => by cases hz⟩, fun _ => ⟨rfl, rfl⟩, Nat.le_refl _, by omega⟩
  · have hz' : zs.length = cap := by simpa using hz
    have hr := hw _ _ rfl
    rw [bytes5] at hr
    simp only [lits, List.length_map, List.length_take, List.length_drop, reachBytes] at hr
    refine ⟨some x, len, cap, zs.take len, rfl, (by simp; omega), ⟨fun h => ?_, fun z hz => ?_⟩, (fun h => by cases h), hl, (by omega)⟩
    · have hpos : 0 < zs.length := by simp at h; omega
      obtain ⟨b, o, rfl, hc⟩ := ints_at hcell hpos
      refine ⟨b, o, rfl, cell_lt (hc 0 hpos), fun i hi => ?_⟩
      have hi' : i < len ∧ i < zs.length := by simp at hi; omega
      rw [hc i hi'.2]
      simp [List.getD_eq_getElem?_getD, hi'.1]
    · have := bounds_u8 (hwz z (List.mem_of_mem_take hz)); omega

theorem open_ops {H : Type} {enc : TypeId × Value → H} {W : World} {base : Nat} {v : Value} {d : DataW H} {p : List MemPlace}
    (hv : Value.okWide Tryd.prog W .any base 22 v) (hd : DataW.Trod enc Tryd.prog W 0 (fun _ => true) true 22 v d p)
    (hw : ∀ n ∈ d.weights Tryd.prog 22, n ≤ reachBytes) :
    ∃ a n c, v = .slice a n c ∧ n ≤ 140737488355328 ∧ (0 < n → ∃ b o, a = some ⟨b, o, none⟩ ∧ b < W.heap.size ∧ ∀ i, i < n → ∃ k s a m q z, OpAt W b o i k s a m q z) := by
  obtain ⟨a, len, cap, rfl⟩ := okWide_slice Tryd.underlying22 hv
  obtain ⟨fuel, hf⟩ := hd
  rcases Go.Deep.open_slice Tryd.underlying22 hf with ⟨hcs, _⟩ | ⟨x, l, c, m, n, D, Pl, hcs, hb, hl, hm, hmm, hx, hcell⟩
  · simp [Value.cells] at hcs
    obtain ⟨rfl, rfl, rfl⟩ := hcs
    exact ⟨none, 0, 0, rfl, by omega, fun h => absurd h (by omega)⟩
  · simp [Value.cells] at hcs
    obtain ⟨rfl, rfl, rfl⟩ := hcs
    simp only [Prod.mk.injEq] at hx
    obtain ⟨rfl, _⟩ := hx
    simp only [if_true] at hmm
    have hr : cap * 40 ≤ reachBytes := by
      refine Nat.le_trans ?_ (hw ((len + (cap - len)) * Tryd.prog.bytesOf 26) ?_)
      · rw [bytesOp]; omega
      · simp [DataW.weights, Tryd.underlying22, hmm]
    unfold reachBytes at hr
    have each : ∀ i, i < len → ∃ k s a' m' q z, W.cell? (x.add (i * 3)) = some (.int .i64 k) ∧ W.cell? (x.add (i * 3 + 1)) = some (.int .u32 ((s : Nat) : Int)) ∧ W.cell? (x.add (i * 3 + 2)) = some (.slice a' m' q) ∧
        (-9223372036854775808 ≤ k ∧ k ≤ 9223372036854775807) ∧ s < 4294967296 ∧ z.length = m' ∧ Bytes W a' z ∧ (a' = none → m' = 0 ∧ q = 0) ∧ m' ≤ q ∧ q ≤ 140737488355328 := by
      intro i hi
      obtain ⟨cs', h1, h2⟩ := hcell i (by omega)
      rw [cellsOp] at h1
      obtain ⟨_, hlen, hc⟩ := World.cells?_some h1
      obtain ⟨y0, y1, y2, n', hy, _, g0, g1, g2⟩ := Go.Deep.trod_struct3 Tryd.underlying26 h2
      match cs', hlen with
      | [v0, v1, v2], _ =>
        simp [cells3, cellsU32, cellsB] at g0 g1 g2
        have e0 := hc 0 (by omega)
        have e1 := hc 1 (by omega)
        have e2 := hc 2 (by omega)
        rw [Go.Deep.add_add] at e0 e1 e2
        obtain ⟨k, hk, _, wk⟩ := DataW.trod_int Tryd.underlying3 g0
        obtain ⟨s, hs, _, ws⟩ := DataW.trod_int Tryd.underlying23 g1
        have bk := bounds_i64 wk
        have bs := bounds_u32 ws
        obtain ⟨s', rfl⟩ := Int.eq_ofNat_of_zero_le bs.1
        simp at hk hs
        subst hk hs
        simp only [Prod.mk.injEq] at hy
        obtain ⟨a', m', q, z, hv2, hz, hB, hn, hle, hcap⟩ := bytes_of_trod g2 (fun elems spare he => by
          refine hw _ ?_
          simp only [DataW.weights, Tryd.underlying22, List.mem_cons, List.mem_append]
          refine .inr (.inl (mem_weightsAll (d := D i) (List.mem_map.2 ⟨i, List.mem_range.2 hi, rfl⟩) ?_))
          rw [hy.1, he]
          simp [DataW.weights, DataW.weightsEach, Tryd.underlying26, Tryd.underlying24])
        simp at hv2
        subst hv2
        exact ⟨k, s', a', m', q, z, by simpa using e0, by simpa using e1, by simpa using e2, bk, by omega, hz, hB, hn, hle, hcap⟩
    refine ⟨some x, len, cap, rfl, by omega, fun hp => ?_⟩
    obtain ⟨_, _, _, _, _, _, f0, _⟩ := each 0 hp
    obtain ⟨b, o, spot⟩ := x
    have hspot : spot = none := by simpa [Addr.add] using World.cell?_spot f0
    subst hspot
    refine ⟨b, o, rfl, (by have := cell_lt f0; simpa [Addr.add] using this), fun i hi => ?_⟩
    obtain ⟨k, s, a', m', q, z, f0, f1, f2, r1, r2, r3, r4, r5, r6, r7⟩ := each i hi
    rw [add_plain] at f0 f1 f2
    exact ⟨k, s, a', m', q, z, ⟨f0, f1, f2, r1, r2, r3, r4, r5, r6, r7⟩⟩
end Go.Proofs.YtehmifdgfgngdacDoor
