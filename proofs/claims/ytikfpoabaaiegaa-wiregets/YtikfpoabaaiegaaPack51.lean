import Derived.Test.YtikfpoabaaiegaaPack50
import Derived.Test.YtikfpoabaaiegaaPack36
import Derived.Test.YtikfpoabaaiegaaPack0
import Derived.ProofKit
import Derived.OpenShut
import Derived.ChangeOld
import Derived.SizedLaws
import Derived.Deep.DeepHandedRow
import Derived.Deep.Strs
import Derived.Lib.LaidTab
namespace Go.Proofs.Ytikfpoabaaiegaa
open Go.RowKit
set_option maxRecDepth 8000

theorem wpList_load_row_g {ops : Array Oper} {rest : List Oper} {o : Oper} {a : Act} {w : World} {Q : Exit → Act → World → Prop} (ty : TypeId) (x : Operand) (ho : o.op = .load ty x)
    (g : Nat) (hx : a.eval x = .pointer (some ⟨g, 0, none⟩)) (t : TypeId) (cs : Array Value) (fr : Nat × Nat) (d : TypeDesc) (hd : (match d with | .struct _ | .array _ _ => true | _ => false) = true) (hg : w.heap[g]? = some (.cells cs t fr))
    (hu : Try.prog.underlying ty = some d) (hi : (Try.prog.info? ty).map (·.size) = some cs.size) (hw : Region.wanted o (yielded ops a.tmps) = true)
    (h : wpList Try.prog ops Q rest (a.put o.dst (.agg cs)) w) : wpList Try.prog ops Q (o :: rest) a w :=
  wpList_step fun K hK => by rw [if_pos hw]; exact wp_load_row ty x ho g hx t cs fr d hg hu (by revert hd; cases d <;> exact id) hi (hK _ _ h)
end Go.Proofs.Ytikfpoabaaiegaa

namespace Go.Proofs.Ytikfpoabaaiegaa
open Go.RowKit
set_option maxRecDepth 8000
theorem Byts.listed {w : World} {S : Nat → Prop} {p : Option Addr} {n c : Nat} {f : Nat → Int} (h : Byts w S p n c f) : ∃ B : List Int, B.length = n ∧ Byts w S p B.length c (fun j => B.getD j 0) ∧ Byt B := by
  have e : ∀ j, j < n → ((List.range n).map f).getD j 0 = f j := fun j hj => by simp [List.getD_eq_getElem?_getD, List.getElem?_range hj]
  have h1 : Byts w S p ((List.range n).map f).length c (fun j => ((List.range n).map f).getD j 0) := by
    rw [show ((List.range n).map f).length = n by simp]
    refine ⟨fun hn => ?_, h.nc, h.nn, h.cc, fun j hj => by rw [e j hj]; exact h.fit j hj, h.nil⟩
    obtain ⟨b, o, hp, hS, hl, ha⟩ := h.at_ hn
    exact ⟨b, o, hp, hS, hl, fun j hj => by rw [e j hj]; exact ha j hj⟩
  refine ⟨(List.range n).map f, by simp, h1, fun x hx => ?_⟩
  obtain ⟨j, hj, rfl⟩ := List.getElem_of_mem hx
  have := h1.fit j hj
  simpa [List.getD_eq_getElem?_getD, List.getElem?_eq_getElem hj] using this
set_option maxHeartbeats 8000000 in
theorem gets_walk (k : Int) (hk0 : -9223372036854775808 ≤ k) (hk1 : k ≤ 9223372036854775807) (w : World) (S : Nat → Prop) (p : Option Addr) (c : Nat) (B : List Int) (hB : Byts w S p B.length c (fun j => B.getD j 0)) (hS : ∀ b, S b → b < w.heap.size) (hBy : Byt B) : Calls Try.prog 4 #[.int .i64 k, .slice p B.length c] w fun x w' => x = .returned (.bool true) ∧ Below w.heap.size w w' := by
  by_cases hbig : 262144 < B.length
  · obtain ⟨n, hn⟩ : ∃ n, n = B.length := ⟨_, rfl⟩
    rw [← hn] at hbig ⊢
    clear hn hB hS hBy hk0 hk1
    have hbig' : (262144 : Int) < (n : Int) := by omega
    go_enter Try.func4, Try.ntmps4
    go_wp2
    go_ret
    exact ⟨rfl, Below.refl _ _⟩
  obtain ⟨R, h2, hget, href⟩ := gets_any k hk0 hk1 w S p c B hB hS (by omega) hBy
  have H2 := hid h2
  have HGet := hid hget
  have HRef := hid (href w (Below.refl _ _))
  obtain ⟨n, hn⟩ : ∃ n, n = B.length := ⟨_, rfl⟩
  rw [← hn] at hbig HGet HRef ⊢
  clear hn hB hS hBy hk0 hk1 h2 hget href
  have hbig' : ¬ (262144 : Int) < (n : Int) := by omega
  clear hbig
  go_enter Try.func4, Try.ntmps4
  go_wp2_with fail
  refine HRef.out.mono ?_
  rintro x w1 ⟨u, f, rfl, hui, hb1, hRu⟩
  have HZ1 := hid (Box.new w1 zC 45)
  have HUs := hid (HI.size u)
  have HU1 := hid (HI.one u)
  have HB1 := hid hb1
  have HUi := hid hui
  have HRu := hid hRu
  have HSm : Hid (∀ (t : HI) (W : World) (Q : Nat → Prop), Below w1.heap.size w1 W → HI.In W Q t → Calls Try.prog 11 #[.agg t.cells, .agg u.cells] W fun e w' => YesNo (ThAlike t u) e W w') := fun t W Q hW ht => yThing t u W Q _ ht (HUi.out.below hW)
  clear hb1 hui hRu HRef
  obtain ⟨cU, hcU⟩ : ∃ cU, cU = u.cells := ⟨_, rfl⟩
  rw [← hcU] at HUs HU1 HSm ⊢
  clear hcU
  go_wp2_with (refine wpList_store_any rfl 45 (.tmp 5) (.tmp 16) rfl w1.heap.size cU rfl rfl 45 zC HZ1.out (by rw [info45, HUs.out]) (by rw [HUs.out]; rfl) HU1.out ?_)
  intro w2 ht2 hk2
  have hb2 : Below w1.heap.size w1 w2 := ((Below.refl _ _).alloc (Nat.le_refl _) _).trans (hk2.below (by simp) (fun k hk h => by omega))
  have HB2 := hid (HB1.out.trans (hb2.mono HB1.out.size))
  have HB12 := hid hb2
  have HT2 := hid ht2
  have HG2 := hid (HGet.out w2 HB2.out)
  clear ht2 hk2 hb2 HZ1 HGet HB1
  go_wp2_with fail
  refine HG2.out.mono ?_
  rintro x w3 ⟨t, e, rfl, hti, hb3, hRt⟩
  obtain ⟨rfl, hal⟩ := H2.out t e u f hRt HRu.out
  have HZ3 := hid (Box.new w3 zC 45)
  have HTs := hid (HI.size t)
  have HT1 := hid (HI.one t)
  have HB3 := hid (HB2.out.trans (hb3.mono HB2.out.size))
  have HB13 := hid (HB12.out.trans (hb3.mono HB12.out.size))
  have HT3 := hid (HT2.out.below hb3)
  have HTi := hid hti
  have HAl := hid hal
  have HSt := hid (fun W Q hW ht => HSm.out t W Q hW ht)
  clear hb3 hti hal hRt HG2 HSm HT2 HB2 HB12 H2 HRu
  obtain ⟨cT, hcT⟩ : ∃ cT, cT = t.cells := ⟨_, rfl⟩
  rw [← hcT] at HTs HT1 HSt ⊢
  clear hcT
  go_wp2_with (refine wpList_store_any rfl 45 (.tmp 7) (.tmp 22) rfl w3.heap.size cT rfl rfl 45 zC HZ3.out (by rw [info45, HTs.out]) (by rw [HTs.out]; rfl) HT1.out ?_)
  intro w4 ht4 hk4
  have hb4 : Below w3.heap.size w3 w4 := ((Below.refl _ _).alloc (Nat.le_refl _) _).trans (hk4.below (by simp) (fun k hk h => by omega))
  have HB4 := hid (HB3.out.trans (hb4.mono HB3.out.size))
  have HT4 := hid ht4
  have HU4 := hid (HT3.out.below hb4)
  have HS4 := hid (HSt.out w4 _ (HB13.out.trans (hb4.mono HB13.out.size)) (HTi.out.below hb4))
  clear ht4 hk4 hb4 HZ3 HB3 HT3 HSt HB13
  go_wp2_with (first | (refine wpList_load_row_g 45 (.tmp 7) rfl w3.heap.size rfl 45 cT (0, 0) _ rfl HT4.out Try.underlying45 (by rw [info45, HTs.out]) (by simp [Region.wanted, yielded, go_sem]) ?_) | (refine wpList_load_row_g 45 (.tmp 5) rfl w1.heap.size rfl 45 cU (0, 0) _ rfl HU4.out Try.underlying45 (by rw [info45, HUs.out]) (by simp [Region.wanted, yielded, go_sem]) ?_))
  refine HS4.out.mono ?_
  rintro x w5 ⟨r5, rfl, hr5, hb5⟩
  obtain rfl : r5 = true := hr5.2 HAl.out
  have HB5 := hid (HB4.out.trans (hb5.mono HB4.out.size))
  clear hr5 hb5 HS4
  go_wp2
  go_ret
  exact ⟨rfl, HB5.out⟩
end Go.Proofs.Ytikfpoabaaiegaa

namespace Go.Proofs.Ytikfpoabaaiegaa
open Go.ChangeShapes Go.WideShapes Go.ChangeAt Go.RowKit
set_option maxRecDepth 8000

theorem own : ownKnob Try.prog.godebug = none := by kernel_rfl
theorem laidOut : laidOutB Try.prog = true := by kernel_rfl
theorem cell_lt {w : World} {a : Addr} {v : Value} (h : w.cell? a = some v) : a.block < w.heap.size := by
  rcases Nat.lt_or_ge a.block w.heap.size with h1 | h1
  · exact h1
  · simp [World.cell?, Array.getElem?_eq_none h1] at h
end Go.Proofs.Ytikfpoabaaiegaa

namespace Go.Proofs.Ytikfpoabaaiegaa
open Go.ChangeShapes Go.WideShapes Go.ChangeAt Go.RowKit
set_option maxRecDepth 8000
theorem cellsU8 : Try.prog.cellsOf 5 = 1 := by kernel_rfl
theorem bytesU8 : Try.prog.bytesOf 5 = 1 := by kernel_rfl
theorem open_byts {H : Type} {enc : TypeId × Value → H} {W : World} {base : Nat} {v : Value} {d : DataW H} {p : List MemPlace}
    (hv : Value.okWide Try.prog W .any base 47 v) (hd : DataW.Trod enc Try.prog W 0 (fun _ => true) true 47 v d p) (hw : ∀ n ∈ d.weights Try.prog 47, n ≤ reachBytes) :
    ∃ n p c f, v = .slice p n c ∧ n ≤ 140737488351232 ∧ Byts W (fun b => b < W.heap.size) p n c f := by
  obtain ⟨a0, len0, cap0, rfl⟩ := okWide_slice Try.underlying47 hv
  obtain ⟨fuel, g3⟩ := hd
  rcases DataW.trod_slice Try.underlying47 g3 with ⟨hc, _⟩ | ⟨a, len, cap, elems, rest, m, hm, hc, hx, hb, hl, hcm, hel, hcell, hsp, _⟩
  · simp [Value.cells] at hc
    obtain ⟨rfl, rfl, rfl⟩ := hc
    exact ⟨0, none, 0, fun _ => 0, rfl, by omega, fun h => absurd h (by omega), Nat.le_refl 0, by omega, Nat.zero_le _, fun j hj => absurd hj (by omega), fun _ => ⟨rfl, rfl⟩⟩
  · have hrest : rest.length = cap - len := (hsp rfl).1
    have hwi := hw
    simp only [Prod.mk.injEq] at hx
    rw [hx.1] at hwi
    simp [Value.cells] at hc
    obtain ⟨rfl, rfl, rfl⟩ := hc
    simp only [DataW.weights, Try.underlying47, List.mem_cons, List.mem_append, List.length_map] at hwi
    have hcb : cap0 * 1 ≤ reachBytes := by
      have := hwi _ (.inl rfl)
      rw [bytesU8] at this
      rw [hel, hrest, show len0 + (cap0 - len0) = cap0 by omega] at this
      exact this
    unfold reachBytes at hcb
    have each : ∀ j, j < len0 → ∃ t : Int, W.cell? (a.add j) = some (.int .u8 t) ∧ 0 ≤ t ∧ t < 256 := by
      intro j hj
      have h1 := hcell j hj
      have hje : j < elems.length := by omega
      rw [List.getElem?_eq_getElem hje, cellsU8] at h1
      obtain ⟨cs', hcs, htr⟩ := Option.bind_eq_some_iff.1 h1
      obtain ⟨t, hk, _, wk⟩ := DataW.trod_int Try.underlying5 htr
      have bk := bounds_u8 wk
      subst hk
      obtain ⟨_, hln, hcc⟩ := World.cells?_some hcs
      refine ⟨t, ?_, by omega, by omega⟩
      have := hcc 0 (by omega)
      rw [Go.Deep.add_add, Nat.mul_one, Nat.add_zero] at this
      exact this
    obtain ⟨F, hF⟩ := Go.Deep.choose_lt each
    refine ⟨len0, some a, cap0, F, rfl, by omega, fun hp => ?_, hl, by omega, hcm, fun j hj => (hF j hj).2, fun h => by cases h⟩
    obtain ⟨b, o, spot⟩ := a
    have f0 := (hF 0 hp).1
    have hspot : spot = none := by simpa [Addr.add] using World.cell?_spot f0
    subst hspot
    have hbl : b < W.heap.size := by have := cell_lt f0; simpa [Addr.add] using this
    refine ⟨b, o, rfl, hbl, hbl, fun j hj => ?_⟩
    have q0 := (hF j hj).1
    rw [add_plain] at q0
    exact q0
end Go.Proofs.Ytikfpoabaaiegaa
