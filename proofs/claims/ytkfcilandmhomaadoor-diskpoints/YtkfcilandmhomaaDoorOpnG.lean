import Derived.Test.YtkfcilandmhomaaDoorPack35
import Derived.ProofKit
import Derived.OpenShut
import Derived.ChangeOld
import Derived.SizedLaws
import Derived.Deep.DeepHandedRow
import Derived.Deep.Strs
import Derived.Lib.LaidTab
namespace Go.Proofs.YtkfcilandmhomaaDoor
open Go.ChangeShapes Go.WideShapes Go.ChangeAt Go.RowKit
set_option maxRecDepth 8000
theorem own : ownKnob Tryd.prog.godebug = none := by kernel_rfl
theorem cellsI3 : Tryd.prog.cellsOf 3 = 1 := by kernel_rfl
theorem cellsStr : Tryd.prog.cellsOf 9 = 1 := by kernel_rfl
theorem cellsU8 : Tryd.prog.cellsOf 5 = 1 := by kernel_rfl
theorem bytesU8 : Tryd.prog.bytesOf 5 = 1 := by kernel_rfl
theorem cellsB : Tryd.prog.cellsOf 30 = 1 := by kernel_rfl
theorem cellsFile : Tryd.prog.cellsOf 58 = 3 := by kernel_rfl
theorem bytesFile : Tryd.prog.bytesOf 58 = 47 + 1 := by kernel_rfl
theorem mem_weightsAll {H : Type} {P : Program} {e : TypeId} : ∀ {l : List (DataW H)} {d : DataW H} {n : Nat}, d ∈ l → n ∈ d.weights P e → n ∈ DataW.weightsAll P e l
  | [], _, _, h, _ => by cases h
  | x :: r, d, n, h, hn => by
    simp only [DataW.weightsAll, List.mem_append]
    rcases List.mem_cons.1 h with rfl | h
    · exact .inl hn
    · exact .inr (mem_weightsAll h hn)

theorem text_fit {H : Type} {fuel : Nat} {W : World} {enc : TypeId × Value → H} {cs : List Value} {y : DataW H × List MemPlace} (g : DataW.trod enc Tryd.prog W 0 (fun _ => true) true fuel 9 cs = some y) (hw : ∀ n ∈ y.1.weights Tryd.prog 9, n ≤ reachBytes) : ∃ s : ByteArray, cs = [.string s] ∧ s.size ≤ 140737488355328 := by
  obtain ⟨s, hs, hy2, _⟩ := DataW.trod_string Tryd.underlying9 g
  refine ⟨s, hs, ?_⟩
  have hm := hw s.data.toList.length (by rw [hy2]; simp [DataW.weights])
  unfold reachBytes at hm
  have e : s.data.toList.length = s.size := by simp
  omega

/-- what stands in a row, opened out of an argument -/
def Opens {α : Type} (E : El α) : Prop :=
  ∀ (H : Type) (enc : TypeId × Value → H) (W : World) (fuel : Nat) (cs : List Value) (y : DataW H × List MemPlace),
    DataW.trod enc Tryd.prog W 0 (fun _ => true) true fuel E.ty cs = some y → (∀ n ∈ y.1.weights Tryd.prog E.ty, n ≤ reachBytes) → ∃ t : α, cs = E.cells t ∧ E.In W (fun b => b < W.heap.size) t

/-- a list of what can be opened -/
theorem open_list {α : Type} (x0 : α) (E : El α) (ty : TypeId) (B : Nat) (hu : Tryd.prog.underlying ty = some (.slice E.ty)) (hcz : Tryd.prog.cellsOf E.ty = E.size) (hz : 0 < E.size) (hby : Tryd.prog.bytesOf E.ty = B + 1) (hO : Opens E)
    {H : Type} {enc : TypeId × Value → H} {W : World} (fuel : Nat) (cs : List Value) (y : DataW H × List MemPlace)
    (g : DataW.trod enc Tryd.prog W 0 (fun _ => true) true fuel ty cs = some y) (hw : ∀ n ∈ y.1.weights Tryd.prog ty, n ≤ reachBytes) :
    ∃ l : LT α, cs = [.slice l.p l.n l.c] ∧ LT.In E W (fun b => b < W.heap.size) l := by
  rcases DataW.trod_slice hu g with ⟨hc, _⟩ | ⟨a, len, cap, elems, rest, m, hm, hc, hx, hb, hl, hcm, hel, hcell, hsp, _⟩
  · exact ⟨⟨none, 0, 0, fun _ => x0⟩, hc, LT.In.none_ E W _ none 0 _ (Nat.zero_le _) (fun _ => rfl)⟩
  · have hrest : rest.length = cap - len := (hsp rfl).1
    rw [hx] at hw
    simp only [DataW.weights, hu, List.mem_cons, List.mem_append, List.length_map] at hw
    have hcb : cap * (B + 1) ≤ reachBytes := by
      have := hw _ (.inl rfl)
      rw [hby] at this
      rw [hel, hrest, show len + (cap - len) = cap by omega] at this
      exact this
    unfold reachBytes at hcb
    have hcl : cap ≤ cap * (B + 1) := Nat.le_mul_of_pos_right _ (Nat.succ_pos _)
    have each : ∀ j, j < len → ∃ t : α, (∀ r u, (E.cells t)[r]? = some u → W.cell? (a.add (j * E.size + r)) = some u) ∧ E.In W (fun b => b < W.heap.size) t := by
      intro j hj
      have h1 := hcell j hj
      have hje : j < elems.length := by omega
      rw [List.getElem?_eq_getElem hje, hcz] at h1
      obtain ⟨cs', hcs, htr⟩ := Option.bind_eq_some_iff.1 h1
      obtain ⟨t, rfl, hin⟩ := hO H enc W m cs' elems[j] htr (fun q hq => hw q (.inr (.inl (mem_weightsAll (d := elems[j].1) (List.mem_map.2 ⟨elems[j], List.getElem_mem hje, rfl⟩) hq))))
      obtain ⟨_, hln, hcc⟩ := World.cells?_some hcs
      refine ⟨t, fun r u hu => ?_, hin⟩
      have hr : r < E.size := by
        rcases Nat.lt_or_ge r E.size with h1 | h1
        · exact h1
        · rw [List.getElem?_eq_none (by rw [E.len]; exact h1)] at hu; cases hu
      have := hcc r hr
      rw [Go.Deep.add_add] at this
      exact this.trans hu
    have : Inhabited α := ⟨x0⟩
    obtain ⟨F, hF⟩ := Go.Deep.choose_lt each
    refine ⟨⟨some a, len, cap, F⟩, hc, fun hp => ?_, fun j hj => (hF j hj).2, hl, by show len ≤ 140737488355328; omega, hcm, fun h => by cases h⟩
    have hp' : 0 < len := hp
    obtain ⟨b, o, spot⟩ := a
    have l0 : 0 < (E.cells (F 0)).length := by rw [E.len]; exact hz
    have f0 := (hF 0 hp').1 0 _ (List.getElem?_eq_getElem l0)
    have hspot : spot = none := by simpa [Addr.add] using World.cell?_spot f0
    subst hspot
    have hbl : b < W.heap.size := by have := cellLt f0; simpa [Addr.add] using this
    refine ⟨b, o, rfl, hbl, hbl, fun j hj r u hu => ?_⟩
    have q0 := (hF j hj).1 r u hu
    rw [add_plain] at q0
    rw [show o + j * E.size + r = o + (j * E.size + r) by omega]
    exact q0

theorem bytes_fit {H : Type} {enc : TypeId × Value → H} {W : World} {fuel : Nat} {cs : List Value} {y : DataW H × List MemPlace}
    (g3 : DataW.trod enc Tryd.prog W 0 (fun _ => true) true fuel 30 cs = some y) (hw : ∀ n ∈ y.1.weights Tryd.prog 30, n ≤ reachBytes) :
    ∃ n p c f, cs = [.slice p n c] ∧ Byts W (fun b => b < W.heap.size) p n c f := by
  rcases DataW.trod_slice Tryd.underlying30 g3 with ⟨hc, _⟩ | ⟨a, len0, cap0, elems, rest, m, hm, hc, hx, hb, hl, hcm, hel, hcell, hsp, _⟩
  · exact ⟨0, none, 0, fun _ => 0, hc, fun h => absurd h (by omega), Nat.le_refl 0, by omega, Nat.zero_le _, fun j hj => absurd hj (by omega), fun _ => ⟨rfl, rfl⟩⟩
  · have hrest : rest.length = cap0 - len0 := (hsp rfl).1
    have hwi := hw
    rw [hx] at hwi
    simp only [DataW.weights, Tryd.underlying30, List.mem_cons, List.mem_append, List.length_map] at hwi
    have hcb : cap0 * 1 ≤ reachBytes := by
      have := hwi _ (.inl rfl)
      rw [bytesU8] at this
      rw [hel, hrest, show len0 + (cap0 - len0) = cap0 by omega] at this
      exact this
    unfold reachBytes at hcb
    have each : ∀ j, j < len0 → ∃ t : Int, W.cell? (a.add j) = some (.int .u8 t) ∧ 0 ≤ t ∧ t < 256 := by
      intro j hj
      have h1 := hcell j hj
      have hje : j < elems.length := by omega
      rw [List.getElem?_eq_getElem hje, cellsU8] at h1
      obtain ⟨cs', hcs, htr⟩ := Option.bind_eq_some_iff.1 h1
      obtain ⟨t, hk, _, wk⟩ := DataW.trod_int Tryd.underlying5 htr
      have bk := bounds_u8 wk
      subst hk
      obtain ⟨_, hln, hcc⟩ := World.cells?_some hcs
      refine ⟨t, ?_, by omega, by omega⟩
      have := hcc 0 (by omega)
      rw [Go.Deep.add_add, Nat.mul_one, Nat.add_zero] at this
      exact this
    obtain ⟨F, hF⟩ := Go.Deep.choose_lt each
    refine ⟨len0, some a, cap0, F, hc, fun hp => ?_, hl, by omega, hcm, fun j hj => (hF j hj).2, fun h => by cases h⟩
    obtain ⟨b, o, spot⟩ := a
    have f0 := (hF 0 hp).1
    have hspot : spot = none := by simpa [Addr.add] using World.cell?_spot f0
    subst hspot
    have hbl : b < W.heap.size := by have := cellLt f0; simpa [Addr.add] using this
    refine ⟨b, o, rfl, hbl, hbl, fun j hj => ?_⟩
    have q0 := (hF j hj).1
    rw [add_plain] at q0
    exact q0
theorem opens_file : Opens elF := fun H enc W fuel cs y g hw => by
  obtain ⟨xs, n, rfl, rfl, hlen, hxl, hfs⟩ := DataW.trod_struct Tryd.underlying58 g
  rw [cellsFile] at hlen
  match xs, hxl with
  | [y0, y1, y2], _ =>
  match cs, hlen with
  | [v0, v1, v2], _ =>
  have g0 := hfs 0 _ rfl
  have g1 := hfs 1 _ rfl
  have g2 := hfs 2 _ rfl
  simp [cellsI3, cellsStr, cellsB] at g0 g1 g2
  have w0 : ∀ m ∈ y0.1.weights Tryd.prog 9, m ≤ reachBytes := fun m hm => hw m (by
    show m ∈ DataW.weights Tryd.prog 58 _
    simp only [DataW.weights, Tryd.underlying58, List.map, DataW.weightsEach, List.mem_append]
    exact .inl hm)
  have w1 : ∀ m ∈ y1.1.weights Tryd.prog 30, m ≤ reachBytes := fun m hm => hw m (by
    show m ∈ DataW.weights Tryd.prog 58 _
    simp only [DataW.weights, Tryd.underlying58, List.map, DataW.weightsEach, List.mem_append]
    exact .inr (.inl hm))
  obtain ⟨s, hs, hsz⟩ := text_fit g0 w0
  obtain ⟨n, p, c, f, hb, hI⟩ := bytes_fit g1 w1
  obtain ⟨k, hk, _, wk⟩ := DataW.trod_int Tryd.underlying3 g2
  have bk := bounds_i64 wk
  simp only [List.cons.injEq, and_true] at hs hb hk
  subst hs hb hk
  exact ⟨⟨s, p, n, c, f, k⟩, rfl, hsz, hI, bk.1, bk.2⟩
/-- WHAT A LIST OF FILES THAT CAME IN IS -/
theorem open_files {H : Type} {enc : TypeId × Value → H} {W : World} {base : Nat} {v : Value} {d : DataW H} {p : List MemPlace}
    (hv : Value.okWide Tryd.prog W .any base 35 v) (hd : DataW.Trod enc Tryd.prog W 0 (fun _ => true) true 35 v d p) (hw : ∀ n ∈ d.weights Tryd.prog 35, n ≤ reachBytes) :
    ∃ l : LT FA, v = .slice l.p l.n l.c ∧ LT.In elF W (fun b => b < W.heap.size) l := by
  obtain ⟨a0, len0, cap0, rfl⟩ := okWide_slice Tryd.underlying35 hv
  obtain ⟨fuel, hf⟩ := hd
  obtain ⟨l, hc, hl⟩ := open_list ⟨⟨#[]⟩, none, 0, 0, fun _ => 0, 0⟩ elF 35 47 Tryd.underlying35 cellsFile (by decide) bytesFile opens_file fuel _ (d, p) hf hw
  exact ⟨l, by simpa [Value.cells] using hc, hl⟩
theorem cellsOp : Tryd.prog.cellsOf 33 = 7 := by kernel_rfl
theorem bytesOp : Tryd.prog.bytesOf 33 = 95 + 1 := by kernel_rfl
theorem bytesI3 : Tryd.prog.bytesOf 3 = 7 + 1 := by kernel_rfl
theorem cellsInts : Tryd.prog.cellsOf 31 = 1 := by kernel_rfl
theorem opens_int : Opens elInt := fun H enc W fuel cs y g _ => by
  obtain ⟨k, hk, _, wk⟩ := DataW.trod_int Tryd.underlying3 g
  have bk := bounds_i64 wk
  exact ⟨k, hk, bk.1, bk.2⟩
theorem opens_op : Opens elD := fun H enc W fuel cs y g hw => by
  obtain ⟨xs, n, rfl, rfl, hlen, hxl, hfs⟩ := DataW.trod_struct Tryd.underlying33 g
  rw [cellsOp] at hlen
  match xs, hxl with
  | [y0, y1, y2, y3, y4, y5, y6], _ =>
  match cs, hlen with
  | [v0, v1, v2, v3, v4, v5, v6], _ =>
  have g0 := hfs 0 _ rfl
  have g1 := hfs 1 _ rfl
  have g2 := hfs 2 _ rfl
  have g3 := hfs 3 _ rfl
  have g4 := hfs 4 _ rfl
  have g5 := hfs 5 _ rfl
  have g6 := hfs 6 _ rfl
  simp [cellsI3, cellsStr, cellsB, cellsInts] at g0 g1 g2 g3 g4 g5 g6
  have w2 : ∀ m ∈ y2.1.weights Tryd.prog 9, m ≤ reachBytes := fun m hm => hw m (by
    show m ∈ DataW.weights Tryd.prog 33 _
    simp only [DataW.weights, Tryd.underlying33, List.map, DataW.weightsEach, List.mem_append]
    exact .inr (.inr (.inl hm)))
  have w5 : ∀ m ∈ y5.1.weights Tryd.prog 30, m ≤ reachBytes := fun m hm => hw m (by
    show m ∈ DataW.weights Tryd.prog 33 _
    simp only [DataW.weights, Tryd.underlying33, List.map, DataW.weightsEach, List.mem_append]
    exact .inr (.inr (.inr (.inr (.inr (.inl hm))))))
  have w6 : ∀ m ∈ y6.1.weights Tryd.prog 31, m ≤ reachBytes := fun m hm => hw m (by
    show m ∈ DataW.weights Tryd.prog 33 _
    simp only [DataW.weights, Tryd.underlying33, List.map, DataW.weightsEach, List.mem_append]
    exact .inr (.inr (.inr (.inr (.inr (.inr (.inl hm)))))))
  obtain ⟨k0, hk0, _, wk0⟩ := DataW.trod_int Tryd.underlying3 g0
  obtain ⟨k1, hk1, _, wk1⟩ := DataW.trod_int Tryd.underlying3 g1
  obtain ⟨s, hs, hsz⟩ := text_fit g2 w2
  obtain ⟨k3, hk3, _, wk3⟩ := DataW.trod_int Tryd.underlying3 g3
  obtain ⟨k4, hk4, _, wk4⟩ := DataW.trod_int Tryd.underlying3 g4
  obtain ⟨n5, p5, c5, f5, hb5, hI5⟩ := bytes_fit g5 w5
  obtain ⟨K, hK, hIK⟩ := open_list (0 : Int) elInt 31 7 Tryd.underlying31 cellsI3 (by decide) bytesI3 opens_int _ _ _ g6 w6
  have b0 := bounds_i64 wk0
  have b3 := bounds_i64 wk3
  have b4 := bounds_i64 wk4
  simp only [List.cons.injEq, and_true] at hk0 hk1 hs hk3 hk4 hb5 hK
  subst hk0 hk1 hs hk3 hk4 hb5 hK
  have hlz : ((List.range n5).map f5).length = n5 := by simp
  have hby : Byts W (fun b => b < W.heap.size) p5 ((List.range n5).map f5).length c5 (fun j => ((List.range n5).map f5).getD j 0) := by
    have hg : ∀ j, j < n5 → ((List.range n5).map f5).getD j 0 = f5 j := fun j hj => by simp [List.getD_eq_getElem?_getD, List.getElem?_range hj]
    rw [hlz]
    refine ⟨fun hp => ?_, hI5.nc, hI5.nn, hI5.cc, fun j hj => by rw [hg j hj]; exact hI5.fit j hj, hI5.nil⟩
    obtain ⟨b, o, e, h1, h2, hat⟩ := hI5.at_ hp
    exact ⟨b, o, e, h1, h2, fun j hj => by rw [hg j hj]; exact hat j hj⟩
  refine ⟨⟨k0, k1, s, k3, k4, p5, c5, (List.range n5).map f5, K⟩, ?_, hsz, ⟨b0.1, b0.2⟩, ⟨b3.1, b3.2⟩, ⟨b4.1, b4.2⟩, hby, hIK⟩
  show [Value.int .i64 k0, .int .i64 k1, .string s, .int .i64 k3, .int .i64 k4, .slice p5 n5 c5, .slice K.p K.n K.c] = [.int .i64 k0, .int .i64 k1, .string s, .int .i64 k3, .int .i64 k4, .slice p5 ((List.range n5).map f5).length c5, .slice K.p K.n K.c]
  rw [hlz]
/-- WHAT A SCRIPT THAT CAME IN IS -/
theorem open_opsD {H : Type} {enc : TypeId × Value → H} {W : World} {base : Nat} {v : Value} {d : DataW H} {p : List MemPlace}
    (hv : Value.okWide Tryd.prog W .any base 22 v) (hd : DataW.Trod enc Tryd.prog W 0 (fun _ => true) true 22 v d p) (hw : ∀ n ∈ d.weights Tryd.prog 22, n ≤ reachBytes) :
    ∃ l : LT OpD, v = .slice l.p l.n l.c ∧ LT.In elD W (fun b => b < W.heap.size) l := by
  obtain ⟨a0, len0, cap0, rfl⟩ := okWide_slice Tryd.underlying22 hv
  obtain ⟨fuel, hf⟩ := hd
  obtain ⟨l, hc, hl⟩ := open_list ⟨0, 0, ⟨#[]⟩, 0, 0, none, 0, [], ⟨none, 0, 0, fun _ => 0⟩⟩ elD 22 95 Tryd.underlying22 cellsOp (by decide) bytesOp opens_op fuel _ (d, p) hf hw
  exact ⟨l, by simpa [Value.cells] using hc, hl⟩
end Go.Proofs.YtkfcilandmhomaaDoor
