import Derived.Test.YtikfpoabaaiegaaPack22
import Derived.Test.YtikfpoabaaiegaaPack44
import Derived.Test.YtikfpoabaaiegaaPack36
import Derived.Test.YtikfpoabaaiegaaPack0
import Derived.ProofKit
import Derived.OpenShut
import Derived.ChangeOld
import Derived.SizedLaws
import Derived.Deep.DeepHandedRow
import Derived.Deep.Strs
import Derived.Lib.LaidTab
import Derived.Test.YtikfpoabaaiegaaPack35
namespace Go.Proofs.Ytikfpoabaaiegaa
open Go.RowKit
set_option maxRecDepth 8000
/-- what put and putRef come to on a thing -/
def PutsP (t : HI) (w : World) : Prop := ∃ (k : Nat) (E : List Int), (k = 0 → Byt E ∧ E.length ≤ 5000000) ∧ (∀ W, Below w.heap.size w W → Calls Try.prog 7 #[.agg t.cells] W fun x w' => PutR k E W x w') ∧
  (∀ W, Below w.heap.size w W → Calls Try.prog 6 #[.agg t.cells] W fun x w' => PutR k E W x w')
theorem puts_any (t : HI) (w : World) (S : Nat → Prop) (hin : HI.In w S t) (hS : ∀ b, S b → b < w.heap.size) : PutsP t w := by
  have hS2 : ∀ W, Below w.heap.size w W → ∀ b, S b → b < W.heap.size := fun W hW b hb => Nat.lt_of_lt_of_le (hS b hb) hW.size
  by_cases n2 : t.kind = 2
  · refine ⟨chkState t.s, stateB t.s, fun h0 => ⟨byt_state hin.s.i, ?_⟩, fun W hW => putH_2 t W S (hin.below hW) (hS2 W hW) n2, fun W hW => putF_2 t W S (hin.below hW) (hS2 W hW) n2⟩
    have := stateB_len (ST.toLT hin.s.i hin.s.nil) (vs_of h0)
    omega
  by_cases n3 : t.kind = 3
  · refine ⟨chkSeg t.g, segB t.g.to, fun h0 => ?_, fun W hW => putH_3 t W S (hin.below hW) (hS2 W hW) n3, fun W hW => putF_3 t W S (hin.below hW) (hS2 W hW) n3⟩
    obtain ⟨f1, f2, f3, f4⟩ := GI.to_fg hin.g h0
    have g1 := GI.to_in hin.g f2 f4
    exact ⟨byt_seg g1, seg_len g1 f1⟩
  by_cases n4 : t.kind = 4
  · refine ⟨chkMan t.m, manB t.m.to, fun h0 => ?_, fun W hW => putH_4 t W S (hin.below hW) (hS2 W hW) n4, fun W hW => putF_4 t W S (hin.below hW) (hS2 W hW) n4⟩
    exact ⟨byt_man _, man_len (MI.to_vm hin.m hin.msum h0)⟩
  by_cases n5 : t.kind = 5
  · refine ⟨chkOut t.o, outB t.o.to, fun h0 => ?_, fun W hW => putH_5 t W S (hin.below hW) (hS2 W hW) n5, fun W hW => putF_5 t W S (hin.below hW) (hS2 W hW) n5⟩
    obtain ⟨⟨f1, f2⟩, f3⟩ := chkOut_zero h0
    have hn : t.o.to.num ≤ 1073741824 := by show t.o.num.toNat ≤ _; omega
    exact ⟨byt_out (o := t.o.to) hin.o, out_len (o := t.o.to) hin.o hn f3⟩
  · refine ⟨chkRec t.r, recB t.r, fun h0 => ⟨byt_rec hin.r, ?_⟩, fun W hW => putH_1 t W S (hin.below hW) (hS2 W hW) n2 n3 n4 n5, fun W hW => putF_1 t W S (hin.below hW) (hS2 W hW) n2 n3 n4 n5⟩
    have := recB_len hin.r (vr_of h0)
    omega
set_option maxHeartbeats 8000000 in
theorem puts_walk (t : HI) (w : World) (S : Nat → Prop) (hin : HI.In w S t) (hS : ∀ b, S b → b < w.heap.size) : Calls Try.prog 3 #[.agg t.cells] w fun x w' => x = .returned (.bool true) ∧ Below w.heap.size w w' := by
  have ha : Below w.heap.size w (w.alloc (.cells t.cells 45)) := (Below.refl _ _).alloc (Nat.le_refl _) _
  have HBx := hid (Box.new w t.cells 45)
  have HA := hid ha
  have HSz := hid (HI.size t)
  have HM : Hid (∀ W, Below w.heap.size w W → Calls Try.prog 5 #[.agg t.cells] W fun x w' => ∃ b, x = .returned (.bool b) ∧ Below W.heap.size W w') := fun W hW => small_any t W S (hin.below hW) (fun b hb => Nat.lt_of_lt_of_le (hS b hb) hW.size)
  obtain ⟨k, E, hE, hput, href⟩ := puts_any t w S hin hS
  have HE := hid hE
  have HPut := hid hput
  have HRef := hid href
  clear ha hin hS hE hput href
  obtain ⟨cT, hcT⟩ : ∃ cT, cT = t.cells := ⟨_, rfl⟩
  rw [← hcT] at HBx HA HSz HM HPut HRef ⊢
  clear hcT
  go_enter Try.func3, Try.ntmps3
  go_wp2_with (refine wpList_load_row rfl 45 (.tmp 1) rfl w.heap.size rfl 45 cT (0, 0) _ HBx.out Try.underlying45 rfl (by rw [info45, HSz.out]) ?_)
  refine (HM.out _ HA.out).mono ?_
  rintro x w2 ⟨bv, rfl, hb2⟩
  have HX2 := hid (HBx.out.below hb2)
  have HB2 := hid (HA.out.trans (hb2.mono HA.out.size))
  clear hb2 HM
  cases bv
  · go_wp2
    go_ret
    exact ⟨rfl, HB2.out⟩
  go_wp2_with (refine wpList_load_row rfl 45 (.tmp 1) rfl w.heap.size rfl 45 cT (0, 0) _ HX2.out Try.underlying45 rfl (by rw [info45, HSz.out]) ?_)
  refine (HRef.out _ HB2.out).mono ?_
  rintro x w3 hr
  by_cases h0 : k = 0
  · obtain ⟨p3, n3, c3, rfl, hb3, hy3⟩ := putR_any hr HE.out
    obtain ⟨e3, hz3⟩ := hy3 h0
    clear hy3
    subst e3
    have HX3 := hid (HX2.out.below hb3)
    have HB3 := hid (HB2.out.trans (hb3.mono HB2.out.size))
    have HY3 := hid hz3
    have H0 := hid h0
    clear hb3 hz3 hr HRef h0
    go_wp2_with (refine wpList_load_row rfl 45 (.tmp 1) rfl w.heap.size rfl 45 cT (0, 0) _ HX3.out Try.underlying45 rfl (by rw [info45, HSz.out]) ?_)
    refine (HPut.out _ HB3.out).mono ?_
    rintro x w4 hr
    obtain ⟨p4, n4, c4, rfl, hb4, hy4⟩ := putR_any hr HE.out
    obtain ⟨e4, hz4⟩ := hy4 H0.out
    clear hy4
    subst e4
    have HB4 := hid (HB3.out.trans (hb4.mono HB3.out.size))
    have HS4 := hid (ySame w4 _ _ p4 p3 c4 c3 E E hz4 (HY3.out.kept hb4.size (fun b hb hl => hb4.block b hl)))
    clear hb4 hz4 hr
    go_wp2_with fail
    refine HS4.out.mono ?_
    rintro x w5 ⟨r, rfl, hr, hb5⟩
    obtain rfl : r = true := by simpa using hr
    have HB5 := hid (HB4.out.trans (hb5.mono HB4.out.size))
    clear hr hb5 HS4
    go_wp2
    go_ret
    exact ⟨rfl, HB5.out⟩
  · obtain ⟨rfl, hb3⟩ := hr.2 h0
    have HX3 := hid (HX2.out.below hb3)
    have HB3 := hid (HB2.out.trans (hb3.mono HB2.out.size))
    have H0 := hid h0
    clear hb3 hr HRef h0
    go_wp2_with (refine wpList_load_row rfl 45 (.tmp 1) rfl w.heap.size rfl 45 cT (0, 0) _ HX3.out Try.underlying45 rfl (by rw [info45, HSz.out]) ?_)
    refine (HPut.out _ HB3.out).mono ?_
    rintro x w4 hr
    obtain ⟨rfl, hb4⟩ := hr.2 H0.out
    have HB4 := hid (HB3.out.trans (hb4.mono HB3.out.size))
    have hn : Byts w4 (fun _ => False) none ([] : List Int).length 0 (fun j => ([] : List Int).getD j 0) := ⟨fun h1 => (by cases h1), by simp, by simp, by simp, fun j hj => (by cases hj), fun _ => ⟨rfl, rfl⟩⟩
    have HS4 := hid (ySame w4 _ _ none none 0 0 [] [] hn hn)
    clear hb4 hr hn
    go_wp2_with fail
    refine HS4.out.mono ?_
    rintro x w5 ⟨r, rfl, hr, hb5⟩
    obtain rfl : r = true := by simpa using hr
    have HB5 := hid (HB4.out.trans (hb5.mono HB4.out.size))
    clear hr hb5 HS4
    go_wp2
    go_ret
    exact ⟨rfl, HB5.out⟩
end Go.Proofs.Ytikfpoabaaiegaa

namespace Go.Proofs.Ytikfpoabaaiegaa
open Go.ChangeShapes Go.WideShapes Go.ChangeAt Go.RowKit
set_option maxRecDepth 8000

theorem own : ownKnob Try.prog.godebug = none := by kernel_rfl
theorem laidOut : laidOutB Try.prog = true := by kernel_rfl
theorem cell_lt {w : World} {a : Addr} {v : Value} (h : w.cell? a = some v) : a.block < w.heap.size := by
  rcases Nat.lt_or_ge a.block w.heap.size with h1 | h1
  · exact h1
  · simp [World.cell?, Array.getElem?_eq_none h1] at h
theorem cellsV : Try.prog.cellsOf 24 = 4 := by kernel_rfl
theorem bytesV : Try.prog.bytesOf 24 = 56 := by kernel_rfl
theorem cellsVs : Try.prog.cellsOf 22 = 1 := by kernel_rfl
theorem cellsI3 : Try.prog.cellsOf 3 = 1 := by kernel_rfl
theorem cellsI2 : Try.prog.cellsOf 2 = 1 := by kernel_rfl
theorem cellsStr : Try.prog.cellsOf 9 = 1 := by kernel_rfl

theorem mem_weightsAll {H : Type} {P : Program} {e : TypeId} : ∀ {l : List (DataW H)} {d : DataW H} {n : Nat}, d ∈ l → n ∈ d.weights P e → n ∈ DataW.weightsAll P e l
  | [], _, _, h, _ => by cases h
  | x :: r, d, n, h, hn => by
    simp only [DataW.weightsAll, List.mem_append]
    rcases List.mem_cons.1 h with rfl | h
    · exact .inl hn
    · exact .inr (mem_weightsAll h hn)

theorem open_val {H : Type} {enc : TypeId × Value → H} {W : World} : ∀ (N fuel : Nat) (cs : List Value) (x : DataW H × List MemPlace), fuel ≤ N →
    DataW.trod enc Try.prog W 0 (fun _ => true) true fuel 24 cs = some x → (∀ n ∈ x.1.weights Try.prog 24, n ≤ reachBytes) → ∃ t : VT, cs = t.cells ∧ VT.In W (fun b => b < W.heap.size) t := by
  intro N
  induction N with
  | zero =>
    intro fuel cs x hf h
    obtain rfl : fuel = 0 := by omega
    simp [DataW.trod] at h
  | succ N ih =>
    intro fuel cs x hf h hw
    obtain ⟨xs, n, rfl, rfl, hlen, hxl, hfs⟩ := DataW.trod_struct Try.underlying24 h
    rw [cellsV] at hlen
    match xs, hxl with
    | [y0, y1, y2, y3], _ =>
    match cs, hlen with
    | [v0, v1, v2, v3], _ =>
    have g0 := hfs 0 _ rfl
    have g1 := hfs 1 _ rfl
    have g2 := hfs 2 _ rfl
    have g3 := hfs 3 _ rfl
    simp [cellsI3, cellsI2, cellsStr, cellsVs] at g0 g1 g2 g3
    obtain ⟨k, hk, _, wk⟩ := DataW.trod_int Try.underlying3 g0
    obtain ⟨i, hi, _, wi⟩ := DataW.trod_int Try.underlying2 g1
    obtain ⟨s, hs, hy2, _⟩ := DataW.trod_string Try.underlying9 g2
    have bk := bounds_i64 wk
    have bi := bounds_i64 wi
    simp at hk hi hs
    subst hk hi hs
    have hws : s.size ≤ 140737488355328 := by
      have hm := hw s.data.toList.length (by
        rw [hy2]
        simp [DataW.weights, DataW.weightsEach, Try.underlying24])
      unfold reachBytes at hm
      have e : s.data.toList.length = s.size := by simp
      omega
    have hwi : ∀ m ∈ y3.1.weights Try.prog 22, m ≤ reachBytes := fun m hm => hw m (by
      simp only [DataW.weights, Try.underlying24, List.map, DataW.weightsEach, List.mem_append]
      exact .inr (.inr (.inr (.inl hm))))
    rcases DataW.trod_slice Try.underlying22 g3 with ⟨hc, _⟩ | ⟨a, len, cap, elems, rest, m, hm, hc, hx, hb, hl, hcm, hel, hcell, hsp, _⟩
    · simp at hc
      subst hc
      refine ⟨.mk k i s 0 none 0 (fun _ => .nil), rfl, ⟨⟨bk.1, bk.2, bi.1, bi.2, hws, Nat.le_refl 0, by show 0 ≤ 140737488355328; omega, Nat.zero_le _, fun _ => ⟨rfl, rfl⟩⟩, fun h => absurd h (by omega), fun j hj => absurd hj (by omega)⟩⟩
    · simp at hc
      subst hc
      have hrest : rest.length = cap - len := (hsp rfl).1
      rw [hx] at hwi
      simp only [DataW.weights, Try.underlying22, List.mem_cons, List.mem_append, List.length_map] at hwi
      have hcb : cap * 56 ≤ reachBytes := by
        have := hwi _ (.inl rfl)
        rw [bytesV] at this
        rw [hel, hrest, show len + (cap - len) = cap by omega] at this
        exact this
      unfold reachBytes at hcb
      have each : ∀ j, j < len → ∃ t : VT, (∀ r, r < 4 → W.cell? (a.add (j * 4 + r)) = t.cells[r]?) ∧ VT.In W (fun b => b < W.heap.size) t := by
        intro j hj
        have h1 := hcell j hj
        have hje : j < elems.length := by omega
        rw [List.getElem?_eq_getElem hje, cellsV] at h1
        obtain ⟨cs', hcs, htr⟩ := Option.bind_eq_some_iff.1 h1
        obtain ⟨t, rfl, hin⟩ := ih m cs' elems[j] (by omega) htr (fun q hq => hwi q (.inr (.inl (mem_weightsAll (d := elems[j].1) (List.mem_map.2 ⟨elems[j], List.getElem_mem hje, rfl⟩) hq))))
        obtain ⟨_, hln, hcc⟩ := World.cells?_some hcs
        refine ⟨t, fun r hr => ?_, hin⟩
        have := hcc r (by omega)
        rw [Go.Deep.add_add] at this
        exact this
      have : Inhabited VT := ⟨.nil⟩
      obtain ⟨F, hF⟩ := Go.Deep.choose_lt each
      refine ⟨.mk k i s len (some a) cap F, rfl, ⟨⟨bk.1, bk.2, bi.1, bi.2, hws, hl, ?_, hcm, fun h => by cases h⟩, fun hp => ?_, fun j hj => (hF j hj).2⟩⟩
      · show len ≤ 140737488355328; omega
      · obtain ⟨b, o, spot⟩ := a
        have f0 := (hF 0 hp).1 0 (by omega)
        have hspot : spot = none := by simpa [Addr.add] using World.cell?_spot f0
        subst hspot
        have hbl : b < W.heap.size := by have := cell_lt f0; simpa [Addr.add] using this
        refine ⟨b, o, rfl, hbl, hbl, fun j hj => ?_⟩
        have f := (hF j hj).1
        have q0 := f 0 (by omega)
        have q1 := f 1 (by omega)
        have q2 := f 2 (by omega)
        have q3 := f 3 (by omega)
        rw [add_plain] at q0 q1 q2 q3
        exact ⟨q0, q1, q2, q3⟩
/-- WHAT A VALUE THAT CAME IN IS -/
theorem open_value {H : Type} {enc : TypeId × Value → H} {W : World} {v : Value} {d : DataW H} {p : List MemPlace}
    (hd : DataW.Trod enc Try.prog W 0 (fun _ => true) true 24 v d p) (hw : ∀ n ∈ d.weights Try.prog 24, n ≤ reachBytes) :
    ∃ t : VT, v = t.val ∧ VT.In W (fun b => b < W.heap.size) t := by
  obtain ⟨fuel, hf⟩ := hd
  obtain ⟨t, hc, hin⟩ := open_val fuel fuel _ _ (Nat.le_refl _) hf hw
  refine ⟨t, ?_, hin⟩
  cases v with
  | agg cs =>
    have h2 : cs.toList = t.cells := hc
    obtain ⟨l⟩ := cs
    simp only at h2
    rw [h2]; rfl
  | _ => simp [Value.cells, VT.cells] at hc
end Go.Proofs.Ytikfpoabaaiegaa

namespace Go.Proofs.Ytikfpoabaaiegaa
open Go.ChangeShapes Go.WideShapes Go.ChangeAt Go.RowKit
set_option maxRecDepth 8000

theorem cellsRec : Try.prog.cellsOf 27 = 6 := by kernel_rfl
theorem cellsState : Try.prog.cellsOf 30 = 2 := by kernel_rfl
theorem cellsCell : Try.prog.cellsOf 154 = 2 := by kernel_rfl
theorem cellsInts : Try.prog.cellsOf 25 = 1 := by kernel_rfl
theorem cellsCells : Try.prog.cellsOf 28 = 1 := by kernel_rfl
theorem bytesI3 : Try.prog.bytesOf 3 = 8 := by kernel_rfl
theorem bytesCell : Try.prog.bytesOf 154 = 40 := by kernel_rfl

/-- the values of a list -/
theorem open_vals {H : Type} {enc : TypeId × Value → H} {W : World} (fuel : Nat) (cs : List Value) (y3 : DataW H × List MemPlace)
    (g3 : DataW.trod enc Try.prog W 0 (fun _ => true) true fuel 22 cs = some y3) (hwi : ∀ n ∈ y3.1.weights Try.prog 22, n ≤ reachBytes) (k i : Int) (s : ByteArray)
    (bk : -9223372036854775808 ≤ k ∧ k ≤ 9223372036854775807) (bi : -9223372036854775808 ≤ i ∧ i ≤ 9223372036854775807) (hws : s.size ≤ 140737488355328) :
    ∃ n p c f, cs = [.slice p n c] ∧ VT.In W (fun b => b < W.heap.size) (.mk k i s n p c f) := by
  rcases DataW.trod_slice Try.underlying22 g3 with ⟨hc, _⟩ | ⟨a, len, cap, elems, rest, m, hm, hc, hx, hb, hl, hcm, hel, hcell, hsp, _⟩
  · exact ⟨0, none, 0, fun _ => .nil, hc, ⟨⟨bk.1, bk.2, bi.1, bi.2, hws, Nat.le_refl 0, by show 0 ≤ 140737488355328; omega, Nat.zero_le _, fun _ => ⟨rfl, rfl⟩⟩, fun h => absurd h (by omega), fun j hj => absurd hj (by omega)⟩⟩
  · have hrest : rest.length = cap - len := (hsp rfl).1
    rw [hx] at hwi
    simp only [DataW.weights, Try.underlying22, List.mem_cons, List.mem_append, List.length_map] at hwi
    have hcb : cap * 56 ≤ reachBytes := by
      have := hwi _ (.inl rfl)
      rw [bytesV] at this
      rw [hel, hrest, show len + (cap - len) = cap by omega] at this
      exact this
    unfold reachBytes at hcb
    have each : ∀ j, j < len → ∃ t : VT, (∀ r, r < 4 → W.cell? (a.add (j * 4 + r)) = t.cells[r]?) ∧ VT.In W (fun b => b < W.heap.size) t := by
      intro j hj
      have h1 := hcell j hj
      have hje : j < elems.length := by omega
      rw [List.getElem?_eq_getElem hje, cellsV] at h1
      obtain ⟨cs', hcs, htr⟩ := Option.bind_eq_some_iff.1 h1
      obtain ⟨t, rfl, hin⟩ := open_val m m cs' elems[j] (Nat.le_refl _) htr (fun q hq => hwi q (.inr (.inl (mem_weightsAll (d := elems[j].1) (List.mem_map.2 ⟨elems[j], List.getElem_mem hje, rfl⟩) hq))))
      obtain ⟨_, hln, hcc⟩ := World.cells?_some hcs
      refine ⟨t, fun r hr => ?_, hin⟩
      have := hcc r (by omega)
      rw [Go.Deep.add_add] at this
      exact this
    have : Inhabited VT := ⟨.nil⟩
    obtain ⟨F, hF⟩ := Go.Deep.choose_lt each
    refine ⟨len, some a, cap, F, hc, ⟨⟨bk.1, bk.2, bi.1, bi.2, hws, hl, ?_, hcm, fun h => by cases h⟩, fun hp => ?_, fun j hj => (hF j hj).2⟩⟩
    · show len ≤ 140737488355328; omega
    · obtain ⟨b, o, spot⟩ := a
      have f0 := (hF 0 hp).1 0 (by omega)
      have hspot : spot = none := by simpa [Addr.add] using World.cell?_spot f0
      subst hspot
      have hbl : b < W.heap.size := by have := cell_lt f0; simpa [Addr.add] using this
      refine ⟨b, o, rfl, hbl, hbl, fun j hj => ?_⟩
      have f := (hF j hj).1
      have q0 := f 0 (by omega)
      have q1 := f 1 (by omega)
      have q2 := f 2 (by omega)
      have q3 := f 3 (by omega)
      rw [add_plain] at q0 q1 q2 q3
      exact ⟨q0, q1, q2, q3⟩

/-- the numbers of a list -/
theorem open_ints {H : Type} {enc : TypeId × Value → H} {W : World} (fuel : Nat) (cs : List Value) (y3 : DataW H × List MemPlace)
    (g3 : DataW.trod enc Try.prog W 0 (fun _ => true) true fuel 25 cs = some y3) (hwi : ∀ n ∈ y3.1.weights Try.prog 25, n ≤ reachBytes) :
    ∃ n p c f, cs = [.slice p n c] ∧ Ints W (fun b => b < W.heap.size) p n c f := by
  rcases DataW.trod_slice Try.underlying25 g3 with ⟨hc, _⟩ | ⟨a, len, cap, elems, rest, m, hm, hc, hx, hb, hl, hcm, hel, hcell, hsp, _⟩
  · exact ⟨0, none, 0, fun _ => 0, hc, fun h => absurd h (by omega), Nat.le_refl 0, by omega, Nat.zero_le _, fun j hj => absurd hj (by omega), fun _ => ⟨rfl, rfl⟩⟩
  · have hrest : rest.length = cap - len := (hsp rfl).1
    rw [hx] at hwi
    simp only [DataW.weights, Try.underlying25, List.mem_cons, List.mem_append, List.length_map] at hwi
    have hcb : cap * 8 ≤ reachBytes := by
      have := hwi _ (.inl rfl)
      rw [bytesI3] at this
      rw [hel, hrest, show len + (cap - len) = cap by omega] at this
      exact this
    unfold reachBytes at hcb
    have each : ∀ j, j < len → ∃ t : Int, W.cell? (a.add j) = some (.int .i64 t) ∧ -9223372036854775808 ≤ t ∧ t ≤ 9223372036854775807 := by
      intro j hj
      have h1 := hcell j hj
      have hje : j < elems.length := by omega
      rw [List.getElem?_eq_getElem hje, cellsI3] at h1
      obtain ⟨cs', hcs, htr⟩ := Option.bind_eq_some_iff.1 h1
      obtain ⟨t, hk, _, wk⟩ := DataW.trod_int Try.underlying3 htr
      have bk := bounds_i64 wk
      subst hk
      obtain ⟨_, hln, hcc⟩ := World.cells?_some hcs
      refine ⟨t, ?_, bk.1, bk.2⟩
      have := hcc 0 (by omega)
      rw [Go.Deep.add_add, Nat.mul_one, Nat.add_zero] at this
      exact this
    obtain ⟨F, hF⟩ := Go.Deep.choose_lt each
    refine ⟨len, some a, cap, F, hc, fun hp => ?_, hl, by omega, hcm, fun j hj => (hF j hj).2, fun h => by cases h⟩
    obtain ⟨b, o, spot⟩ := a
    have f0 := (hF 0 hp).1
    have hspot : spot = none := by simpa [Addr.add] using World.cell?_spot f0
    subst hspot
    have hbl : b < W.heap.size := by have := cell_lt f0; simpa [Addr.add] using this
    refine ⟨b, o, rfl, hbl, hbl, fun j hj => ?_⟩
    have q0 := (hF j hj).1
    rw [add_plain] at q0
    exact q0
theorem text_fit {H : Type} {fuel : Nat} {W : World} {enc : TypeId × Value → H} {cs : List Value} {y : DataW H × List MemPlace} (g : DataW.trod enc Try.prog W 0 (fun _ => true) true fuel 9 cs = some y) (hw : ∀ n ∈ y.1.weights Try.prog 9, n ≤ reachBytes) : ∃ s : ByteArray, cs = [.string s] ∧ s.size ≤ 140737488355328 := by
  obtain ⟨s, hs, hy2, _⟩ := DataW.trod_string Try.underlying9 g
  refine ⟨s, hs, ?_⟩
  have hm := hw s.data.toList.length (by rw [hy2]; simp [DataW.weights])
  unfold reachBytes at hm
  have e : s.data.toList.length = s.size := by simp
  omega

theorem open_rec {H : Type} {enc : TypeId × Value → H} {W : World} {v : Value} {d : DataW H} {p : List MemPlace}
    (hd : DataW.Trod enc Try.prog W 0 (fun _ => true) true 27 v d p) (hw : ∀ n ∈ d.weights Try.prog 27, n ≤ reachBytes) :
    ∃ t : RT, v = t.val ∧ RT.In W (fun b => b < W.heap.size) t := by
  obtain ⟨fuel, hf⟩ := hd
  obtain ⟨xs, n, rfl, hx, hlen, hxl, hfs⟩ := DataW.trod_struct Try.underlying27 hf
  rw [cellsRec] at hlen
  obtain ⟨rfl, rfl⟩ : d = _ ∧ p = _ := by simpa using hx
  match xs, hxl with
  | [y0, y1, y2], _ =>
  cases v with
  | agg cs =>
    obtain ⟨cs⟩ := cs
    simp only [Value.cells] at hlen hfs
    match cs, hlen with
    | [v0, v1, v2, v3, v4, v5], _ =>
    have g0 := hfs 0 _ rfl
    have g1 := hfs 1 _ rfl
    have g2 := hfs 2 _ rfl
    simp [cellsStr, cellsV, cellsInts] at g0 g1 g2
    have w0 : ∀ m ∈ y0.1.weights Try.prog 9, m ≤ reachBytes := fun m hm => hw m (by
      simp only [DataW.weights, Try.underlying27, List.map, DataW.weightsEach, List.mem_append]
      exact .inl hm)
    have w1 : ∀ m ∈ y1.1.weights Try.prog 24, m ≤ reachBytes := fun m hm => hw m (by
      simp only [DataW.weights, Try.underlying27, List.map, DataW.weightsEach, List.mem_append]
      exact .inr (.inl hm))
    have w2 : ∀ m ∈ y2.1.weights Try.prog 25, m ≤ reachBytes := fun m hm => hw m (by
      simp only [DataW.weights, Try.underlying27, List.map, DataW.weightsEach, List.mem_append]
      exact .inr (.inr (.inl hm)))
    obtain ⟨s, hs, hws⟩ := text_fit g0 w0
    obtain ⟨t, ht, hin⟩ := open_val n n _ y1 (Nat.le_refl _) g1 w1
    obtain ⟨ln, lp, lc, lf, hl, hli⟩ := open_ints n _ y2 g2 w2
    simp only [List.cons.injEq, and_true] at hs hl
    simp only [VT.cells, List.cons.injEq, and_true] at ht
    obtain ⟨rfl, rfl, rfl, rfl⟩ := ht
    subst hs hl
    exact ⟨⟨s, t, lp, ln, lc, lf⟩, rfl, ⟨hin, hli, hws⟩⟩
  | _ => simp [Value.cells] at hlen

theorem open_cell {H : Type} {enc : TypeId × Value → H} {W : World} {fuel : Nat} {cs : List Value} {x : DataW H × List MemPlace} (hf : DataW.trod enc Try.prog W 0 (fun _ => true) true fuel 154 cs = some x) (hw : ∀ n ∈ x.1.weights Try.prog 154, n ≤ reachBytes) :
    ∃ t : VT, cs = t.two ∧ VT.In W (fun b => b < W.heap.size) t := by
  obtain ⟨xs, n, rfl, rfl, hlen, hxl, hfs⟩ := DataW.trod_struct Try.underlying154 hf
  rw [cellsCell] at hlen
  match xs, hxl with
  | [y0, y1], _ =>
  match cs, hlen with
  | [v0, v1], _ =>
  have g0 := hfs 0 _ rfl
  have g1 := hfs 1 _ rfl
  simp [cellsStr, cellsVs] at g0 g1
  have w0 : ∀ m ∈ y0.1.weights Try.prog 9, m ≤ reachBytes := fun m hm => hw m (by
    simp only [DataW.weights, Try.underlying154, List.map, DataW.weightsEach, List.mem_append]
    exact .inl hm)
  have w1 : ∀ m ∈ y1.1.weights Try.prog 22, m ≤ reachBytes := fun m hm => hw m (by
    simp only [DataW.weights, Try.underlying154, List.map, DataW.weightsEach, List.mem_append]
    exact .inr (.inl hm))
  obtain ⟨s, hs, hws⟩ := text_fit g0 w0
  obtain ⟨ln, lp, lc, lf, hl, hli⟩ := open_vals n _ y1 g1 w1 0 0 s ⟨by omega, by omega⟩ ⟨by omega, by omega⟩ hws
  simp only [List.cons.injEq, and_true] at hs hl
  subst hs hl
  exact ⟨_, rfl, hli⟩

theorem open_state {H : Type} {enc : TypeId × Value → H} {W : World} {v : Value} {d : DataW H} {p : List MemPlace}
    (hd : DataW.Trod enc Try.prog W 0 (fun _ => true) true 30 v d p) (hw : ∀ n ∈ d.weights Try.prog 30, n ≤ reachBytes) :
    ∃ t : ST, v = t.val ∧ ST.In W (fun b => b < W.heap.size) t := by
  obtain ⟨fuel, hf⟩ := hd
  obtain ⟨xs, n, rfl, hx, hlen, hxl, hfs⟩ := DataW.trod_struct Try.underlying30 hf
  rw [cellsState] at hlen
  obtain ⟨rfl, rfl⟩ : d = _ ∧ p = _ := by simpa using hx
  match xs, hxl with
  | [y0, y1], _ =>
  cases v with
  | agg cs =>
    obtain ⟨cs⟩ := cs
    simp only [Value.cells] at hlen hfs
    match cs, hlen with
    | [v0, v1], _ =>
    have g0 := hfs 0 _ rfl
    have g1 := hfs 1 _ rfl
    simp [cellsI3, cellsCells] at g0 g1
    have hwi : ∀ m ∈ y1.1.weights Try.prog 28, m ≤ reachBytes := fun m hm => hw m (by
      simp only [DataW.weights, Try.underlying30, List.map, DataW.weightsEach, List.mem_append]
      exact .inr (.inl hm))
    obtain ⟨k, hk, _, wk⟩ := DataW.trod_int Try.underlying3 g0
    have bk := bounds_i64 wk
    simp at hk
    subst hk
    rcases DataW.trod_slice Try.underlying28 g1 with ⟨hc, _⟩ | ⟨a, len, cap, elems, rest, m, hm, hc, hx, hb, hl, hcm, hel, hcell, hsp, _⟩
    · simp at hc
      subst hc
      exact ⟨⟨k, none, 0, 0, fun _ => .nil⟩, rfl, fun h => absurd h (by show ¬ (0 < 0); omega), fun j hj => absurd hj (by show ¬ (j < 0); omega), Nat.le_refl 0, by show 0 ≤ 140737488355328; omega, Nat.zero_le _, bk.1, bk.2⟩
    · simp at hc
      subst hc
      have hrest : rest.length = cap - len := (hsp rfl).1
      rw [hx] at hwi
      simp only [DataW.weights, Try.underlying28, List.mem_cons, List.mem_append, List.length_map] at hwi
      have hcb : cap * 40 ≤ reachBytes := by
        have := hwi _ (.inl rfl)
        rw [bytesCell] at this
        rw [hel, hrest, show len + (cap - len) = cap by omega] at this
        exact this
      unfold reachBytes at hcb
      have each : ∀ j, j < len → ∃ t : VT, (∀ r, r < 2 → W.cell? (a.add (j * 2 + r)) = t.two[r]?) ∧ VT.In W (fun b => b < W.heap.size) t := by
        intro j hj
        have h1 := hcell j hj
        have hje : j < elems.length := by omega
        rw [List.getElem?_eq_getElem hje, cellsCell] at h1
        obtain ⟨cs', hcs, htr⟩ := Option.bind_eq_some_iff.1 h1
        obtain ⟨t, rfl, hin⟩ := open_cell htr (fun q hq => hwi q (.inr (.inl (mem_weightsAll (d := elems[j].1) (List.mem_map.2 ⟨elems[j], List.getElem_mem hje, rfl⟩) hq))))
        obtain ⟨_, hln, hcc⟩ := World.cells?_some hcs
        refine ⟨t, fun r hr => ?_, hin⟩
        have := hcc r (by omega)
        rw [Go.Deep.add_add] at this
        exact this
      have : Inhabited VT := ⟨.nil⟩
      obtain ⟨F, hF⟩ := Go.Deep.choose_lt each
      refine ⟨⟨k, some a, len, cap, F⟩, rfl, fun hp => ?_, fun j hj => (hF j hj).2, hl, by show len ≤ 140737488355328; omega, hcm, bk.1, bk.2⟩
      obtain ⟨b, o, spot⟩ := a
      have f0 := (hF 0 hp).1 0 (by omega)
      have hspot : spot = none := by simpa [Addr.add] using World.cell?_spot f0
      subst hspot
      have hbl : b < W.heap.size := by have := cell_lt f0; simpa [Addr.add] using this
      refine ⟨b, o, rfl, hbl, hbl, fun j hj => ?_⟩
      have f := (hF j hj).1
      have q0 := f 0 (by omega)
      have q1 := f 1 (by omega)
      rw [add_plain] at q0 q1
      exact ⟨q0, q1⟩
  | _ => simp [Value.cells] at hlen
end Go.Proofs.Ytikfpoabaaiegaa

namespace Go.Proofs.Ytikfpoabaaiegaa
open Go.ChangeShapes Go.WideShapes Go.ChangeAt Go.RowKit
set_option maxRecDepth 8000

/-- what stands in a row, opened out of an argument -/
def Opens {α : Type} (E : El α) : Prop :=
  ∀ (H : Type) (enc : TypeId × Value → H) (W : World) (fuel : Nat) (cs : List Value) (y : DataW H × List MemPlace),
    DataW.trod enc Try.prog W 0 (fun _ => true) true fuel E.ty cs = some y → (∀ n ∈ y.1.weights Try.prog E.ty, n ≤ reachBytes) → ∃ t : α, cs = E.cells t ∧ E.In W (fun b => b < W.heap.size) t

/-- a list of what can be opened -/
theorem open_list {α : Type} (x0 : α) (E : El α) (ty : TypeId) (B : Nat) (hu : Try.prog.underlying ty = some (.slice E.ty)) (hcz : Try.prog.cellsOf E.ty = E.size) (hz : 0 < E.size) (hby : Try.prog.bytesOf E.ty = B + 1) (hO : Opens E)
    {H : Type} {enc : TypeId × Value → H} {W : World} (fuel : Nat) (cs : List Value) (y : DataW H × List MemPlace)
    (g : DataW.trod enc Try.prog W 0 (fun _ => true) true fuel ty cs = some y) (hw : ∀ n ∈ y.1.weights Try.prog ty, n ≤ reachBytes) :
    ∃ l : LT α, cs = [.slice l.p l.n l.c] ∧ LT.In E W (fun b => b < W.heap.size) l := by
  rcases DataW.trod_slice hu g with ⟨hc, _⟩ | ⟨a, len, cap, elems, rest, m, hm, hc, hx, hb, hl, hcm, hel, hcell, hsp, _⟩
  · exact ⟨⟨none, 0, 0, fun _ => x0⟩, hc, LT.In.none_ E W _ none 0 _ (Nat.zero_le _) (fun _ => rfl)⟩
  · have hrest : rest.length = cap - len := (hsp rfl).1
    rw [hx] at hw
    simp only [DataW.weights, hu, List.mem_cons, List.mem_append, List.length_map] at hw
    have hcb : cap * (B + 1) ≤ reachBytes := by
      have := hw _ (.inl rfl)
      rw [hby] at this
      rw [hel, hrest, show len + (cap - len) = cap by omega] at this
      exact this
    unfold reachBytes at hcb
    have hcl : cap ≤ cap * (B + 1) := Nat.le_mul_of_pos_right _ (Nat.succ_pos _)
    have each : ∀ j, j < len → ∃ t : α, (∀ r u, (E.cells t)[r]? = some u → W.cell? (a.add (j * E.size + r)) = some u) ∧ E.In W (fun b => b < W.heap.size) t := by
      intro j hj
      have h1 := hcell j hj
      have hje : j < elems.length := by omega
      rw [List.getElem?_eq_getElem hje, hcz] at h1
      obtain ⟨cs', hcs, htr⟩ := Option.bind_eq_some_iff.1 h1
      obtain ⟨t, rfl, hin⟩ := hO H enc W m cs' elems[j] htr (fun q hq => hw q (.inr (.inl (mem_weightsAll (d := elems[j].1) (List.mem_map.2 ⟨elems[j], List.getElem_mem hje, rfl⟩) hq))))
      obtain ⟨_, hln, hcc⟩ := World.cells?_some hcs
      refine ⟨t, fun r u hu => ?_, hin⟩
      have hr : r < E.size := by
        rcases Nat.lt_or_ge r E.size with h1 | h1
        · exact h1
        · rw [List.getElem?_eq_none (by rw [E.len]; exact h1)] at hu; cases hu
      have := hcc r hr
      rw [Go.Deep.add_add] at this
      exact this.trans hu
    have : Inhabited α := ⟨x0⟩
    obtain ⟨F, hF⟩ := Go.Deep.choose_lt each
    refine ⟨⟨some a, len, cap, F⟩, hc, fun hp => ?_, fun j hj => (hF j hj).2, hl, by show len ≤ 140737488355328; omega, hcm, fun h => by cases h⟩
    have hp' : 0 < len := hp
    obtain ⟨b, o, spot⟩ := a
    have l0 : 0 < (E.cells (F 0)).length := by rw [E.len]; exact hz
    have f0 := (hF 0 hp').1 0 _ (List.getElem?_eq_getElem l0)
    have hspot : spot = none := by simpa [Addr.add] using World.cell?_spot f0
    subst hspot
    have hbl : b < W.heap.size := by have := cell_lt f0; simpa [Addr.add] using this
    refine ⟨b, o, rfl, hbl, hbl, fun j hj r u hu => ?_⟩
    have q0 := (hF j hj).1 r u hu
    rw [add_plain] at q0
    rw [show o + j * E.size + r = o + (j * E.size + r) by omega]
    exact q0

theorem opens_str : Opens elStr := fun _ _ _ _ _ _ g hw => text_fit g hw
theorem opens_cell : Opens elCell := fun _ _ _ _ _ _ g hw => open_cell g hw
theorem opens_rec : Opens elRec := by
  intro H enc W fuel cs y g hw
  obtain ⟨t, ht, hi⟩ := open_rec (v := .agg cs.toArray) (d := y.1) (p := y.2) ⟨fuel, g⟩ hw
  refine ⟨t, ?_, hi⟩
  have h2 : cs.toArray = t.cells.toArray := by
    have := ht
    simp only [RT.val, Value.agg.injEq] at this
    exact this
  show cs = t.cells
  simpa using h2
theorem u32_fit {H : Type} {fuel : Nat} {W : World} {enc : TypeId × Value → H} {cs : List Value} {y : DataW H × List MemPlace} (g : DataW.trod enc Try.prog W 0 (fun _ => true) true fuel 31 cs = some y) : ∃ s : Nat, cs = [.int .u32 (s : Int)] ∧ s < 4294967296 := by
  obtain ⟨k, hk, _, wk⟩ := DataW.trod_int Try.underlying31 g
  have bk := bounds_u32 wk
  refine ⟨k.toNat, ?_, by omega⟩
  rw [hk, show ((k.toNat : Nat) : Int) = k by omega]
theorem int_fit {H : Type} {fuel : Nat} {W : World} {enc : TypeId × Value → H} {cs : List Value} {y : DataW H × List MemPlace} (g : DataW.trod enc Try.prog W 0 (fun _ => true) true fuel 3 cs = some y) : ∃ k : Int, cs = [.int .i64 k] ∧ -9223372036854775808 ≤ k ∧ k ≤ 9223372036854775807 := by
  obtain ⟨k, hk, _, wk⟩ := DataW.trod_int Try.underlying3 g
  have bk := bounds_i64 wk
  exact ⟨k, hk, bk.1, bk.2⟩
theorem cellsU32 : Try.prog.cellsOf 31 = 1 := by kernel_rfl
theorem cellsRow : Try.prog.cellsOf 110 = 2 := by kernel_rfl
theorem cellsRecs : Try.prog.cellsOf 36 = 1 := by kernel_rfl
theorem cellsRecss : Try.prog.cellsOf 35 = 1 := by kernel_rfl
theorem cellsStrs : Try.prog.cellsOf 32 = 1 := by kernel_rfl
theorem cellsRows : Try.prog.cellsOf 39 = 1 := by kernel_rfl
theorem cellsDelta : Try.prog.cellsOf 34 = 3 := by kernel_rfl
theorem cellsSeg : Try.prog.cellsOf 38 = 11 := by kernel_rfl
theorem cellsMan : Try.prog.cellsOf 41 = 3 := by kernel_rfl
theorem cellsORow : Try.prog.cellsOf 43 = 7 := by kernel_rfl
theorem cellsThing : Try.prog.cellsOf 45 = 30 := by kernel_rfl
theorem bytesStr : Try.prog.bytesOf 9 = 15 + 1 := by kernel_rfl
theorem bytesCell2 : Try.prog.bytesOf 154 = 39 + 1 := by kernel_rfl
theorem bytesRec : Try.prog.bytesOf 27 = 95 + 1 := by kernel_rfl
theorem bytesRecs : Try.prog.bytesOf 36 = 23 + 1 := by kernel_rfl
theorem bytesRow : Try.prog.bytesOf 110 = 15 + 1 := by kernel_rfl
def r0 : RT := ⟨⟨#[]⟩, .nil, none, 0, 0, fun _ => 0⟩
def lr0 : LT RT := ⟨none, 0, 0, fun _ => r0⟩
theorem opens_row : Opens elRowI := by
  intro H enc W fuel cs y g hw
  obtain ⟨xs, n, rfl, rfl, hlen, hxl, hfs⟩ := DataW.trod_struct Try.underlying110 g
  have hlen2 : cs.length = 2 := hlen.trans cellsRow
  match xs, hxl with
  | [y0, y1], _ =>
  match cs, hlen2 with
  | [v0, v1], _ =>
  have g0 := hfs 0 _ rfl
  have g1 := hfs 1 _ rfl
  simp [cellsI3, cellsU32] at g0 g1
  obtain ⟨k, hk, k0, k1⟩ := int_fit g0
  obtain ⟨s, hs, s1⟩ := u32_fit g1
  simp only [List.cons.injEq, and_true] at hs hk
  subst hs hk
  exact ⟨(k, s), rfl, ⟨⟨k0, k1⟩, s1⟩⟩
theorem open_strs {H : Type} {enc : TypeId × Value → H} {W : World} (fuel : Nat) (cs : List Value) (y : DataW H × List MemPlace) (g : DataW.trod enc Try.prog W 0 (fun _ => true) true fuel 32 cs = some y) (hw : ∀ n ∈ y.1.weights Try.prog 32, n ≤ reachBytes) :
    ∃ l : LT ByteArray, cs = [.slice l.p l.n l.c] ∧ LT.In elStr W (fun b => b < W.heap.size) l :=
  open_list ⟨#[]⟩ elStr 32 15 Try.underlying32 cellsStr (by decide) bytesStr opens_str fuel cs y g hw
theorem open_cells {H : Type} {enc : TypeId × Value → H} {W : World} (fuel : Nat) (cs : List Value) (y : DataW H × List MemPlace) (g : DataW.trod enc Try.prog W 0 (fun _ => true) true fuel 28 cs = some y) (hw : ∀ n ∈ y.1.weights Try.prog 28, n ≤ reachBytes) :
    ∃ l : LT VT, cs = [.slice l.p l.n l.c] ∧ LT.In elCell W (fun b => b < W.heap.size) l :=
  open_list .nil elCell 28 39 Try.underlying28 cellsCell (by decide) bytesCell2 opens_cell fuel cs y g hw
theorem open_recs {H : Type} {enc : TypeId × Value → H} {W : World} (fuel : Nat) (cs : List Value) (y : DataW H × List MemPlace) (g : DataW.trod enc Try.prog W 0 (fun _ => true) true fuel 36 cs = some y) (hw : ∀ n ∈ y.1.weights Try.prog 36, n ≤ reachBytes) :
    ∃ l : LT RT, cs = [.slice l.p l.n l.c] ∧ LT.In elRec W (fun b => b < W.heap.size) l :=
  open_list r0 elRec 36 95 Try.underlying36 cellsRec (by decide) bytesRec opens_rec fuel cs y g hw
theorem opens_recs : Opens elRecs := fun _ _ _ fuel cs y g hw => open_recs fuel cs y g hw
theorem open_recss {H : Type} {enc : TypeId × Value → H} {W : World} (fuel : Nat) (cs : List Value) (y : DataW H × List MemPlace) (g : DataW.trod enc Try.prog W 0 (fun _ => true) true fuel 35 cs = some y) (hw : ∀ n ∈ y.1.weights Try.prog 35, n ≤ reachBytes) :
    ∃ l : LT (LT RT), cs = [.slice l.p l.n l.c] ∧ LT.In elRecs W (fun b => b < W.heap.size) l :=
  open_list lr0 elRecs 35 23 Try.underlying35 cellsRecs (by decide) bytesRecs opens_recs fuel cs y g hw
theorem open_rows {H : Type} {enc : TypeId × Value → H} {W : World} (fuel : Nat) (cs : List Value) (y : DataW H × List MemPlace) (g : DataW.trod enc Try.prog W 0 (fun _ => true) true fuel 39 cs = some y) (hw : ∀ n ∈ y.1.weights Try.prog 39, n ≤ reachBytes) :
    ∃ l : LT (Int × Nat), cs = [.slice l.p l.n l.c] ∧ LT.In elRowI W (fun b => b < W.heap.size) l :=
  open_list (0, 0) elRowI 39 15 Try.underlying39 cellsRow (by decide) bytesRow opens_row fuel cs y g hw
theorem open_state2 {H : Type} {enc : TypeId × Value → H} {W : World} (fuel : Nat) (cs : List Value) (y : DataW H × List MemPlace) (g : DataW.trod enc Try.prog W 0 (fun _ => true) true fuel 30 cs = some y) (hw : ∀ n ∈ y.1.weights Try.prog 30, n ≤ reachBytes) :
    ∃ s : ST, cs = [.int .i64 s.num, .slice s.p s.n s.c] ∧ ST.In2 W (fun b => b < W.heap.size) s := by
  obtain ⟨xs, n, rfl, rfl, hlen, hxl, hfs⟩ := DataW.trod_struct Try.underlying30 g
  rw [cellsState] at hlen
  match xs, hxl with
  | [y0, y1], _ =>
  match cs, hlen with
  | [v0, v1], _ =>
  have g0 := hfs 0 _ rfl
  have g1 := hfs 1 _ rfl
  simp [cellsI3, cellsCells] at g0 g1
  have w1 : ∀ m ∈ y1.1.weights Try.prog 28, m ≤ reachBytes := fun m hm => hw m (by
    simp only [DataW.weights, Try.underlying30, List.map, DataW.weightsEach, List.mem_append]
    exact .inr (.inl hm))
  obtain ⟨k, hk, k0, k1⟩ := int_fit g0
  obtain ⟨l, hl, hi⟩ := open_cells _ _ _ g1 w1
  simp only [List.cons.injEq, and_true] at hl hk
  subst hl hk
  exact ⟨⟨k, l.p, l.n, l.c, l.item⟩, rfl, ST.ofLTi hi k0 k1, hi.nil⟩
theorem open_delta {H : Type} {enc : TypeId × Value → H} {W : World} (fuel : Nat) (cs : List Value) (y : DataW H × List MemPlace) (g : DataW.trod enc Try.prog W 0 (fun _ => true) true fuel 34 cs = some y) (hw : ∀ n ∈ y.1.weights Try.prog 34, n ≤ reachBytes) :
    ∃ (d : Int) (l : LT VT) (q : LT ByteArray), cs = [.int .i64 d, .slice l.p l.n l.c, .slice q.p q.n q.c] ∧ (-9223372036854775808 ≤ d ∧ d ≤ 9223372036854775807) ∧ LT.In elCell W (fun b => b < W.heap.size) l ∧ LT.In elStr W (fun b => b < W.heap.size) q := by
  obtain ⟨xs, n, rfl, rfl, hlen, hxl, hfs⟩ := DataW.trod_struct Try.underlying34 g
  rw [cellsDelta] at hlen
  match xs, hxl with
  | [y0, y1, y2], _ =>
  match cs, hlen with
  | [v0, v1, v2], _ =>
  have g0 := hfs 0 _ rfl
  have g1 := hfs 1 _ rfl
  have g2 := hfs 2 _ rfl
  simp [cellsI3, cellsCells, cellsStrs] at g0 g1 g2
  have w1 : ∀ m ∈ y1.1.weights Try.prog 28, m ≤ reachBytes := fun m hm => hw m (by
    simp only [DataW.weights, Try.underlying34, List.map, DataW.weightsEach, List.mem_append]
    exact .inr (.inl hm))
  have w2 : ∀ m ∈ y2.1.weights Try.prog 32, m ≤ reachBytes := fun m hm => hw m (by
    simp only [DataW.weights, Try.underlying34, List.map, DataW.weightsEach, List.mem_append]
    exact .inr (.inr (.inl hm)))
  obtain ⟨k, hk, k0, k1⟩ := int_fit g0
  obtain ⟨l, hl, hi⟩ := open_cells _ _ _ g1 w1
  obtain ⟨q, hq, hqi⟩ := open_strs _ _ _ g2 w2
  simp only [List.cons.injEq, and_true] at hl hk hq
  subst hl hk hq
  exact ⟨k, l, q, rfl, ⟨k0, k1⟩, hi, hqi⟩
theorem open_seg {H : Type} {enc : TypeId × Value → H} {W : World} (fuel : Nat) (cs : List Value) (y : DataW H × List MemPlace) (g : DataW.trod enc Try.prog W 0 (fun _ => true) true fuel 38 cs = some y) (hw : ∀ n ∈ y.1.weights Try.prog 38, n ≤ reachBytes) :
    ∃ t : GI, cs = [.int .i64 t.id, .int .i64 t.task, .int .i64 t.base, .int .u32 (t.sum : Int), .int .i64 t.st.num, .slice t.st.p t.st.n t.st.c, .int .i64 t.dnum, .slice t.set.p t.set.n t.set.c, .slice t.gone.p t.gone.n t.gone.c, .slice t.logs.p t.logs.n t.logs.c, .slice t.pend.p t.pend.n t.pend.c] ∧ GI.In W (fun b => b < W.heap.size) t := by
  obtain ⟨xs, n, rfl, rfl, hlen, hxl, hfs⟩ := DataW.trod_struct Try.underlying38 g
  rw [cellsSeg] at hlen
  match xs, hxl with
  | [y0, y1, y2, y3, y4, y5, y6, y7], _ =>
  match cs, hlen with
  | [v0, v1, v2, v3, v4, v5, v6, v7, v8, v9, v10], _ =>
  have g0 := hfs 0 _ rfl
  have g1 := hfs 1 _ rfl
  have g2 := hfs 2 _ rfl
  have g3 := hfs 3 _ rfl
  have g4 := hfs 4 _ rfl
  have g5 := hfs 5 _ rfl
  have g6 := hfs 6 _ rfl
  have g7 := hfs 7 _ rfl
  simp [cellsI3, cellsU32, cellsState, cellsDelta, cellsRecs, cellsRecss] at g0 g1 g2 g3 g4 g5 g6 g7
  have w4 : ∀ m ∈ y4.1.weights Try.prog 30, m ≤ reachBytes := fun m hm => hw m (by
    simp only [DataW.weights, Try.underlying38, List.map, DataW.weightsEach, List.mem_append]
    exact .inr (.inr (.inr (.inr (.inl hm)))))
  have w5 : ∀ m ∈ y5.1.weights Try.prog 34, m ≤ reachBytes := fun m hm => hw m (by
    simp only [DataW.weights, Try.underlying38, List.map, DataW.weightsEach, List.mem_append]
    exact .inr (.inr (.inr (.inr (.inr (.inl hm))))))
  have w6 : ∀ m ∈ y6.1.weights Try.prog 35, m ≤ reachBytes := fun m hm => hw m (by
    simp only [DataW.weights, Try.underlying38, List.map, DataW.weightsEach, List.mem_append]
    exact .inr (.inr (.inr (.inr (.inr (.inr (.inl hm)))))))
  have w7 : ∀ m ∈ y7.1.weights Try.prog 36, m ≤ reachBytes := fun m hm => hw m (by
    simp only [DataW.weights, Try.underlying38, List.map, DataW.weightsEach, List.mem_append]
    exact .inr (.inr (.inr (.inr (.inr (.inr (.inr (.inl hm))))))))
  obtain ⟨k0, h0, a0, b0⟩ := int_fit g0
  obtain ⟨k1, h1, a1, b1⟩ := int_fit g1
  obtain ⟨k2, h2, a2, b2⟩ := int_fit g2
  obtain ⟨k3, h3, a3⟩ := u32_fit g3
  obtain ⟨s, h4, i4⟩ := open_state2 _ _ _ g4 w4
  obtain ⟨d, l, q, h5, ⟨a5, b5⟩, i5, j5⟩ := open_delta _ _ _ g5 w5
  obtain ⟨lo, h6, i6⟩ := open_recss _ _ _ g6 w6
  obtain ⟨pe, h7, i7⟩ := open_recs _ _ _ g7 w7
  simp only [List.cons.injEq, and_true] at h0 h1 h2 h3 h4 h5 h6 h7
  obtain ⟨h40, h41⟩ := h4
  obtain ⟨h50, h51, h52⟩ := h5
  subst h0 h1 h2 h3 h40 h41 h50 h51 h52 h6 h7
  exact ⟨⟨k0, k1, k2, k3, s, d, l, q, lo, pe⟩, rfl, ⟨a3, a0, b0, a1, b1, a2, b2, i4, a5, b5, i5, j5, i6, i7⟩⟩
theorem open_man {H : Type} {enc : TypeId × Value → H} {W : World} (fuel : Nat) (cs : List Value) (y : DataW H × List MemPlace) (g : DataW.trod enc Try.prog W 0 (fun _ => true) true fuel 41 cs = some y) (hw : ∀ n ∈ y.1.weights Try.prog 41, n ≤ reachBytes) :
    ∃ t : MI, cs = [.int .i64 t.id, .int .u32 (t.sum : Int), .slice t.rows.p t.rows.n t.rows.c] ∧ (-9223372036854775808 ≤ t.id ∧ t.id ≤ 9223372036854775807) ∧ t.sum < 4294967296 ∧ LT.In elRowI W (fun b => b < W.heap.size) t.rows := by
  obtain ⟨xs, n, rfl, rfl, hlen, hxl, hfs⟩ := DataW.trod_struct Try.underlying41 g
  rw [cellsMan] at hlen
  match xs, hxl with
  | [y0, y1, y2], _ =>
  match cs, hlen with
  | [v0, v1, v2], _ =>
  have g0 := hfs 0 _ rfl
  have g1 := hfs 1 _ rfl
  have g2 := hfs 2 _ rfl
  simp [cellsI3, cellsU32, cellsRows] at g0 g1 g2
  have w2 : ∀ m ∈ y2.1.weights Try.prog 39, m ≤ reachBytes := fun m hm => hw m (by
    simp only [DataW.weights, Try.underlying41, List.map, DataW.weightsEach, List.mem_append]
    exact .inr (.inr (.inl hm)))
  obtain ⟨k, hk, k0, k1⟩ := int_fit g0
  obtain ⟨s, hs, s1⟩ := u32_fit g1
  obtain ⟨l, hl, hi⟩ := open_rows _ _ _ g2 w2
  simp only [List.cons.injEq, and_true] at hl hk hs
  subst hl hk hs
  exact ⟨⟨k, s, l⟩, rfl, ⟨k0, k1⟩, s1, hi⟩
theorem open_out {H : Type} {enc : TypeId × Value → H} {W : World} (fuel : Nat) (cs : List Value) (y : DataW H × List MemPlace) (g : DataW.trod enc Try.prog W 0 (fun _ => true) true fuel 43 cs = some y) (hw : ∀ n ∈ y.1.weights Try.prog 43, n ≤ reachBytes) :
    ∃ t : OI, cs = .int .i64 t.num :: t.rec_.cells ∧ (-9223372036854775808 ≤ t.num ∧ t.num ≤ 9223372036854775807) ∧ RT.In W (fun b => b < W.heap.size) t.rec_ := by
  obtain ⟨xs, n, rfl, rfl, hlen, hxl, hfs⟩ := DataW.trod_struct Try.underlying43 g
  rw [cellsORow] at hlen
  match xs, hxl with
  | [y0, y1], _ =>
  match cs, hlen with
  | [v0, v1, v2, v3, v4, v5, v6], _ =>
  have g0 := hfs 0 _ rfl
  have g1 := hfs 1 _ rfl
  simp [cellsI3, cellsRec] at g0 g1
  have w1 : ∀ m ∈ y1.1.weights Try.prog 27, m ≤ reachBytes := fun m hm => hw m (by
    simp only [DataW.weights, Try.underlying43, List.map, DataW.weightsEach, List.mem_append]
    exact .inr (.inl hm))
  obtain ⟨k, hk, k0, k1⟩ := int_fit g0
  obtain ⟨r, hr, hi⟩ := opens_rec _ _ _ _ _ _ g1 w1
  simp only [List.cons.injEq, and_true] at hk
  subst hk
  exact ⟨⟨k, r⟩, by rw [hr]; rfl, ⟨k0, k1⟩, hi⟩
set_option maxHeartbeats 1000000 in
/-- WHAT A THING THAT CAME IN IS -/
theorem open_thing {H : Type} {enc : TypeId × Value → H} {W : World} {v : Value} {d : DataW H} {p : List MemPlace}
    (hd : DataW.Trod enc Try.prog W 0 (fun _ => true) true 45 v d p) (hw : ∀ n ∈ d.weights Try.prog 45, n ≤ reachBytes) :
    ∃ t : HI, v = .agg t.cells ∧ HI.In W (fun b => b < W.heap.size) t := by
  obtain ⟨fuel, hf⟩ := hd
  obtain ⟨xs, n, rfl, hx, hlen, hxl, hfs⟩ := DataW.trod_struct Try.underlying45 hf
  rw [cellsThing] at hlen
  obtain ⟨rfl, rfl⟩ : d = _ ∧ p = _ := by simpa using hx
  match xs, hxl with
  | [y0, y1, y2, y3, y4, y5], _ =>
  cases v with
  | agg cs =>
    obtain ⟨cs⟩ := cs
    simp only [Value.cells] at hlen hfs
    match cs, hlen with
    | [v0, v1, v2, v3, v4, v5, v6, v7, v8, v9, v10, v11, v12, v13, v14, v15, v16, v17, v18, v19, v20, v21, v22, v23, v24, v25, v26, v27, v28, v29], _ =>
    have g0 := hfs 0 _ rfl
    have g1 := hfs 1 _ rfl
    have g2 := hfs 2 _ rfl
    have g3 := hfs 3 _ rfl
    have g4 := hfs 4 _ rfl
    have g5 := hfs 5 _ rfl
    simp [cellsI3, cellsRec, cellsState, cellsSeg, cellsMan, cellsORow] at g0 g1 g2 g3 g4 g5
    have w1 : ∀ m ∈ y1.1.weights Try.prog 27, m ≤ reachBytes := fun m hm => hw m (by
      simp only [DataW.weights, Try.underlying45, List.map, DataW.weightsEach, List.mem_append]
      exact .inr (.inl hm))
    have w2 : ∀ m ∈ y2.1.weights Try.prog 30, m ≤ reachBytes := fun m hm => hw m (by
      simp only [DataW.weights, Try.underlying45, List.map, DataW.weightsEach, List.mem_append]
      exact .inr (.inr (.inl hm)))
    have w3 : ∀ m ∈ y3.1.weights Try.prog 38, m ≤ reachBytes := fun m hm => hw m (by
      simp only [DataW.weights, Try.underlying45, List.map, DataW.weightsEach, List.mem_append]
      exact .inr (.inr (.inr (.inl hm))))
    have w4 : ∀ m ∈ y4.1.weights Try.prog 41, m ≤ reachBytes := fun m hm => hw m (by
      simp only [DataW.weights, Try.underlying45, List.map, DataW.weightsEach, List.mem_append]
      exact .inr (.inr (.inr (.inr (.inl hm)))))
    have w5 : ∀ m ∈ y5.1.weights Try.prog 43, m ≤ reachBytes := fun m hm => hw m (by
      simp only [DataW.weights, Try.underlying45, List.map, DataW.weightsEach, List.mem_append]
      exact .inr (.inr (.inr (.inr (.inr (.inl hm))))))
    obtain ⟨k, h0, a0, b0⟩ := int_fit g0
    obtain ⟨r, h1, i1⟩ := opens_rec _ _ _ _ _ _ g1 w1
    obtain ⟨s, h2, i2⟩ := open_state2 _ _ _ g2 w2
    obtain ⟨q, h3, i3⟩ := open_seg _ _ _ g3 w3
    obtain ⟨m, h4, ⟨a4, b4⟩, c4, i4⟩ := open_man _ _ _ g4 w4
    obtain ⟨o, h5, ⟨a5, b5⟩, i5⟩ := open_out _ _ _ g5 w5
    refine ⟨⟨k, r, s, q, m, o⟩, ?_, ⟨a0, b0, i1, i2, i3, i4, c4, a4, b4, i5, a5, b5⟩⟩
    simp only [List.cons.injEq, and_true] at h0 h2 h3 h4
    have h1' : [v1, v2, v3, v4, v5, v6] = r.cells := h1
    simp only [RT.cells, List.cons.injEq, and_true] at h1' h5
    obtain ⟨h10, h11, h12, h13, h14, h15⟩ := h1'
    obtain ⟨h20, h21⟩ := h2
    obtain ⟨h30, h31, h32, h33, h34, h35, h36, h37, h38, h39, h3a⟩ := h3
    obtain ⟨h40, h41, h42⟩ := h4
    obtain ⟨h50, h51, h52, h53, h54, h55, h56⟩ := h5
    subst h0 h10 h11 h12 h13 h14 h15 h20 h21 h30 h31 h32 h33 h34 h35 h36 h37 h38 h39 h3a h40 h41 h42 h50 h51 h52 h53 h54 h55 h56
    rfl
  | _ => simp [Value.cells] at hlen
end Go.Proofs.Ytikfpoabaaiegaa
