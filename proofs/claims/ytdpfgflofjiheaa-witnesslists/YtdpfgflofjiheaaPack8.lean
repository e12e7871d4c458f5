import Derived.Test.YtdpfgflofjiheaaPack7
import Derived.Lib.SliceRun
namespace Go.Proofs.Ytdpfgflofjiheaa
open Go.RowKit
set_option maxRecDepth 8000

/-- events in a row of its own, and nothing else changed -/
def EvQ (xs : List EV) (w : World) (e : Ending) (w' : World) : Prop := ∃ v, e = .returned v ∧ EvRow w.heap.size w' v xs ∧ Below w.heap.size w w'
theorem news2 (w : World) (x y : Int) : ∀ j' u', [Value.int .i64 x, .int .i64 y][j']? = some u' → (w.alloc (.cells #[.int .i64 x, .int .i64 y] 39)).cell? ((⟨w.heap.size, 0, none⟩ : Addr).add j') = some u' := fun j' u' hu => by
  rw [Go.WideShapes.add_plain, (Box.new w #[.int .i64 x, .int .i64 y] 39).cell]
  rw [show 0 + j' = j' by omega]
  simpa using hu
theorem one2 (x y : Int) : ∀ u ∈ [Value.int .i64 x, .int .i64 y], u.oneCell' = true := by
  intro u hu
  simp only [List.mem_cons, List.not_mem_nil, or_false] at hu
  rcases hu with rfl | rfl <;> rfl
set_option maxHeartbeats 8000000 in
theorem sides_any (l : LT TR) (a b T g c : Nat) (m : Nat → Nat) (first : Bool) (w : World) (S : Nat → Prop) (hl : LT.In elTr w S l) (h47 : l.n * 32 ≤ 140737488355328) (hab : a ≤ b) (hb : b ≤ l.n) (_ : T ≤ 12) (hg : g < w.heap.size) (hc : ∀ t, t < T → w.cell? ⟨g, t, none⟩ = some (.int .i64 (m t : Int))) (hm : ∀ t, t < T → m t ≤ l.n)
    (hk : ∀ q, a ≤ q → q < b → (l.item q).kind = 1 → 0 ≤ (l.item q).task ∧ (l.item q).task < (T : Int)) :
    Calls Try.prog 37 #[.slice l.p l.n l.c, .int .i64 (a : Int), .int .i64 (b : Int), .slice (some ⟨g, 0, none⟩) T c, .bool first] w fun e w' => EvQ (evsF l.item (fun q => decide (q < m (l.item q).task.toNat) == first) a (b - a)) w e w' := by
  have hnn := hl.nn
  have H := hid hl
  obtain ⟨i0, Kd⟩ := kindEv
  have HKd := hid Kd
  have HC := hid hc
  have HM := hid hm
  have HK := hid hk
  have H47 := hid h47
  obtain ⟨P, hP⟩ : ∃ P, P = fun q => decide (q < m (l.item q).task.toNat) == first := ⟨_, rfl⟩
  rw [← hP]
  have HP := hid hP
  clear hl Kd hc hm hk hP h47
  go_enter Try.func37, Try.ntmps37
  go_wp2_with fail
  go_loopw [11, 12] (fun x y wr => ∃ k : Nat, a ≤ k ∧ k ≤ b ∧ y = .int .i64 (k : Int) ∧ EvRow w.heap.size wr x (evsF l.item P a (k - a)) ∧ Below w.heap.size w wr) (fun _ y _ => b - (intOf y).toNat)
  case atStart => exact ⟨a, Nat.le_refl _, hab, rfl, by rw [Nat.sub_self]; exact EvRow.nil _ _, Below.refl _ _⟩
  case round =>
    obtain ⟨k, hak, hkb, rfl, hr, hbl⟩ := hrel
    have HR := hid hr
    have HB := hid hbl
    clear hr hbl
    by_cases hlt : k < b
    · have hltn : k < l.n := by omega
      have hlt' : (k : Int) < (b : Int) := by omega
      have hltn' : (k : Int) < (l.n : Int) := by omega
      obtain ⟨b1, o1, hp, _, hl1, ha⟩ := (H.out.below HB.out).tr (by omega)
      obtain ⟨a0, a1, a2, a3⟩ := ha k hltn
      have hka : a + (k - a) = k := by omega
      have hks : k + 1 - a = (k - a) + 1 := by omega
      have HKA := hid hka
      have HKS := hid hks
      rw [hp]
      clear ha hp hka hks
      by_cases h1 : (l.item k).kind = 1
      · obtain ⟨h2, h3⟩ := HK.out k hak hlt h1
        obtain ⟨tt, htt⟩ : ∃ tt : Nat, (l.item k).task = (tt : Int) := ⟨(l.item k).task.toNat, by omega⟩
        have httT : tt < T := by omega
        have httT' : (tt : Int) < (T : Int) := by omega
        have gl : g < wr.heap.size := Nat.lt_of_lt_of_le hg HB.out.size
        have cc := (World.cell?_of_block (a := ⟨g, tt, none⟩) (HB.out.block g hg)).trans (HC.out tt httT)
        have HPk : Hid (P k = (decide (k < m tt) == first)) := by show _ = _; rw [HP.out]; simp only [htt, Int.toNat_natCast]
        have HT := hid htt
        have HK1 := hid h1
        rw [h1] at a0
        rw [htt] at a1
        clear h1 htt h2 h3
        by_cases hmk : k < m tt
        · have hmk' : (k : Int) < (m tt : Int) := by omega
          have HMk := hid hmk
          clear hmk
          cases first with
          | true =>
            have HE : Hid (evsF l.item P a (k + 1 - a) = evsF l.item P a (k - a) ++ [(l.item k).ev]) := by show _ = _; rw [HKS.out, evsF_yes (by rw [HKA.out]; exact HK1.out) (by rw [HKA.out, HPk.out]; simp [HMk.out]), HKA.out]
            have hlen : (evsF l.item P a (k - a)).length ≤ k - a := evsF_len _ _ _ _
            have h47 := H47.out
            go_upto_region 6 with fail
            refine wp_region_calmE 30 (fun wx => Below wr.heap.size wr wx) [(0, true), (1, true), (2, true), (3, true), (4, true), (5, false), (6, true), (7, true), (8, true), (9, true), (10, false), (11, true)] (.one 12 true [] (.one 13 false [(14, true)] .done)) (by kernel_rfl) (by kernel_rfl) (Below.refl _ _).drew ?_
            refine wpPre_e rfl rfl (fun K1 hK1 => ?_)
            apply Exists.intro
            refine And.intro (fun wx hx => ?_) ?_
            · go_simp
              try rfl
            go_simp
            refine hK1 _ ?_
            clear hK1 K1
            refine wpPre_e rfl rfl (fun K1 hK1 => ?_)
            apply Exists.intro
            refine And.intro (fun wx hx => ?_) ?_
            · go_simp
              try rfl
            go_simp
            refine hK1 _ ?_
            clear hK1 K1
            refine wpPre_e rfl rfl (fun K1 hK1 => ?_)
            apply Exists.intro
            refine And.intro (fun wx hx => ?_) ?_
            · go_simp
              try rfl
            go_simp
            refine hK1 _ ?_
            clear hK1 K1
            refine wpPre_e rfl rfl (fun K1 hK1 => ?_)
            apply Exists.intro
            refine And.intro (fun wx hx => ?_) ?_
            · go_simp
              try rfl
            go_simp
            refine hK1 _ ?_
            clear hK1 K1
            refine wpPre_e rfl rfl (fun K1 hK1 => ?_)
            apply Exists.intro
            refine And.intro (fun wx hx => ?_) ?_
            · go_simp
              try rfl
            go_simp
            refine hK1 _ ?_
            clear hK1 K1
            refine wpPre_e rfl rfl (fun K1 hK1 => ?_)
            apply Exists.intro
            refine And.intro (fun wx hx => ?_) ?_
            · have e0 := below_fact hx rfl a0
              have e1 := below_fact hx rfl a1
              have e2 := below_fact hx rfl a2
              have e3 := below_fact hx rfl a3
              go_simp
              try rfl
            go_simp
            refine hK1 _ ?_
            clear hK1 K1
            refine wpPre_e rfl rfl (fun K1 hK1 => ?_)
            apply Exists.intro
            refine And.intro (fun wx hx => ?_) ?_
            · go_simp
              try rfl
            go_simp
            refine hK1 _ ?_
            clear hK1 K1
            refine wpPre_e rfl rfl (fun K1 hK1 => ?_)
            apply Exists.intro
            refine And.intro (fun wx hx => ?_) ?_
            · go_simp
              try rfl
            go_simp
            refine hK1 _ ?_
            clear hK1 K1
            refine wpPre_e rfl rfl (fun K1 hK1 => ?_)
            apply Exists.intro
            refine And.intro (fun wx hx => ?_) ?_
            · go_simp
              try rfl
            go_simp
            refine hK1 _ ?_
            clear hK1 K1
            refine wpPre_e rfl rfl (fun K1 hK1 => ?_)
            apply Exists.intro
            refine And.intro (fun wx hx => ?_) ?_
            · go_simp
              try rfl
            go_simp
            refine hK1 _ ?_
            clear hK1 K1
            refine wpPre_e rfl rfl (fun K1 hK1 => ?_)
            apply Exists.intro
            refine And.intro (fun wx hx => ?_) ?_
            · have e0 := below_fact hx rfl a0
              have e1 := below_fact hx rfl a1
              have e2 := below_fact hx rfl a2
              have e3 := below_fact hx rfl a3
              go_simp
              try rfl
            go_simp
            refine hK1 _ ?_
            clear hK1 K1
            refine wpPre_e rfl rfl (fun K1 hK1 => ?_)
            apply Exists.intro
            refine And.intro (fun wx hx => ?_) ?_
            · go_simp
              try rfl
            go_simp
            refine hK1 _ ?_
            clear hK1 K1
            refine wpPre_nil ?_
            refine wpTr_e rfl (fun K1 hK1 => ?_)
            go_simp
            refine hK1 _ _ (fun _ => (below1 wr _).drew) ?_
            clear hK1 K1
            refine wpPre_nil ?_
            refine wpTr_e rfl (fun K1 hK1 => ?_)
            refine step_app rfl (.tmp 39) (.tmp 51) 31 39 i0 _ 2 16 HKd.out rfl w.heap.size u11 (evsF l.item P a (k - a)).length _ rfl (World.ownsRow.alloc HR.out _) ⟨wr.heap.size, 0, none⟩ 1 1 [.int .i64 (tt : Int), .int .i64 (l.item k).port] rfl rfl (news2 wr _ _) (one2 _ _) (by omega) (by omega) (by have := HB.out.size; simp; omega) ?_
            intro v3 w3 ho3 hg3 hn3
            obtain ⟨pp, cc, rfl⟩ := ownsRow_slice ho3
            have HR3 : Hid (EvRow w.heap.size w3 (.slice pp ((evsF l.item P a (k - a)).length + 1) cc) (evsF l.item P a (k - a) ++ [(l.item k).ev])) := EvRow.push (by unfold TR.ev EV.cells; rw [HT.out]; exact ho3)
            have HB3 : Hid (Below w.heap.size w w3) := (HB.out.trans ((below1 wr (.cells #[.int .i64 (tt : Int), .int .i64 (l.item k).port] 39)).mono HB.out.size)).drew.grown hg3 (by have := HB.out.size; simp; omega) (fun q hq => (HR.out.lt q hq).1)
            clear ho3 hg3 hn3
            go_simp
            refine hK1 _ _ (fun h => by cases h) ?_
            clear hK1 K1
            refine wpPre_e rfl rfl (fun K1 hK1 => ?_)
            apply Exists.intro
            refine And.intro (fun wx hx => ?_) ?_
            · go_simp
              try rfl
            go_simp
            refine hK1 _ ?_
            clear hK1 K1
            refine wpPre_nil ?_
            refine wpTr_done ?_
            go_wp2
            go_roundw
            case rel => exact ⟨k + 1, by omega, by omega, by go_num, by rw [HE.out]; exact HR3.out, HB3.out⟩
            case measure => simp [intOf]; omega
          | false =>
            have HE : Hid (evsF l.item P a (k + 1 - a) = evsF l.item P a (k - a)) := by show _ = _; rw [HKS.out]; exact evsF_no (by rw [HKA.out]; rintro ⟨e1, e2⟩; rw [HPk.out] at e2; simp [HMk.out] at e2)
            go_wp2
            go_roundw
            case rel => exact ⟨k + 1, by omega, by omega, by go_num, by rw [HE.out]; exact HR.out, HB.out⟩
            case measure => simp [intOf]; omega
        · have hmk' : ¬ (k : Int) < (m tt : Int) := by omega
          have HMk := hid hmk
          clear hmk
          cases first with
          | true =>
            have HE : Hid (evsF l.item P a (k + 1 - a) = evsF l.item P a (k - a)) := by show _ = _; rw [HKS.out]; exact evsF_no (by rw [HKA.out]; rintro ⟨e1, e2⟩; rw [HPk.out] at e2; simp [HMk.out] at e2)
            go_wp2
            go_roundw
            case rel => exact ⟨k + 1, by omega, by omega, by go_num, by rw [HE.out]; exact HR.out, HB.out⟩
            case measure => simp [intOf]; omega
          | false =>
            have HE : Hid (evsF l.item P a (k + 1 - a) = evsF l.item P a (k - a) ++ [(l.item k).ev]) := by show _ = _; rw [HKS.out, evsF_yes (by rw [HKA.out]; exact HK1.out) (by rw [HKA.out, HPk.out]; simp [HMk.out]), HKA.out]
            have hlen : (evsF l.item P a (k - a)).length ≤ k - a := evsF_len _ _ _ _
            have h47 := H47.out
            go_upto_region 6 with fail
            refine wp_region_calmE 30 (fun wx => Below wr.heap.size wr wx) [(0, true), (1, true), (2, true), (3, true), (4, true), (5, false), (6, true), (7, true), (8, true), (9, true), (10, false), (11, true)] (.one 12 true [] (.one 13 false [(14, true)] .done)) (by kernel_rfl) (by kernel_rfl) (Below.refl _ _).drew ?_
            refine wpPre_e rfl rfl (fun K1 hK1 => ?_)
            apply Exists.intro
            refine And.intro (fun wx hx => ?_) ?_
            · go_simp
              try rfl
            go_simp
            refine hK1 _ ?_
            clear hK1 K1
            refine wpPre_e rfl rfl (fun K1 hK1 => ?_)
            apply Exists.intro
            refine And.intro (fun wx hx => ?_) ?_
            · go_simp
              try rfl
            go_simp
            refine hK1 _ ?_
            clear hK1 K1
            refine wpPre_e rfl rfl (fun K1 hK1 => ?_)
            apply Exists.intro
            refine And.intro (fun wx hx => ?_) ?_
            · go_simp
              try rfl
            go_simp
            refine hK1 _ ?_
            clear hK1 K1
            refine wpPre_e rfl rfl (fun K1 hK1 => ?_)
            apply Exists.intro
            refine And.intro (fun wx hx => ?_) ?_
            · go_simp
              try rfl
            go_simp
            refine hK1 _ ?_
            clear hK1 K1
            refine wpPre_e rfl rfl (fun K1 hK1 => ?_)
            apply Exists.intro
            refine And.intro (fun wx hx => ?_) ?_
            · go_simp
              try rfl
            go_simp
            refine hK1 _ ?_
            clear hK1 K1
            refine wpPre_e rfl rfl (fun K1 hK1 => ?_)
            apply Exists.intro
            refine And.intro (fun wx hx => ?_) ?_
            · have e0 := below_fact hx rfl a0
              have e1 := below_fact hx rfl a1
              have e2 := below_fact hx rfl a2
              have e3 := below_fact hx rfl a3
              go_simp
              try rfl
            go_simp
            refine hK1 _ ?_
            clear hK1 K1
            refine wpPre_e rfl rfl (fun K1 hK1 => ?_)
            apply Exists.intro
            refine And.intro (fun wx hx => ?_) ?_
            · go_simp
              try rfl
            go_simp
            refine hK1 _ ?_
            clear hK1 K1
            refine wpPre_e rfl rfl (fun K1 hK1 => ?_)
            apply Exists.intro
            refine And.intro (fun wx hx => ?_) ?_
            · go_simp
              try rfl
            go_simp
            refine hK1 _ ?_
            clear hK1 K1
            refine wpPre_e rfl rfl (fun K1 hK1 => ?_)
            apply Exists.intro
            refine And.intro (fun wx hx => ?_) ?_
            · go_simp
              try rfl
            go_simp
            refine hK1 _ ?_
            clear hK1 K1
            refine wpPre_e rfl rfl (fun K1 hK1 => ?_)
            apply Exists.intro
            refine And.intro (fun wx hx => ?_) ?_
            · go_simp
              try rfl
            go_simp
            refine hK1 _ ?_
            clear hK1 K1
            refine wpPre_e rfl rfl (fun K1 hK1 => ?_)
            apply Exists.intro
            refine And.intro (fun wx hx => ?_) ?_
            · have e0 := below_fact hx rfl a0
              have e1 := below_fact hx rfl a1
              have e2 := below_fact hx rfl a2
              have e3 := below_fact hx rfl a3
              go_simp
              try rfl
            go_simp
            refine hK1 _ ?_
            clear hK1 K1
            refine wpPre_e rfl rfl (fun K1 hK1 => ?_)
            apply Exists.intro
            refine And.intro (fun wx hx => ?_) ?_
            · go_simp
              try rfl
            go_simp
            refine hK1 _ ?_
            clear hK1 K1
            refine wpPre_nil ?_
            refine wpTr_e rfl (fun K1 hK1 => ?_)
            go_simp
            refine hK1 _ _ (fun _ => (below1 wr _).drew) ?_
            clear hK1 K1
            refine wpPre_nil ?_
            refine wpTr_e rfl (fun K1 hK1 => ?_)
            refine step_app rfl (.tmp 39) (.tmp 51) 31 39 i0 _ 2 16 HKd.out rfl w.heap.size u11 (evsF l.item P a (k - a)).length _ rfl (World.ownsRow.alloc HR.out _) ⟨wr.heap.size, 0, none⟩ 1 1 [.int .i64 (tt : Int), .int .i64 (l.item k).port] rfl rfl (news2 wr _ _) (one2 _ _) (by omega) (by omega) (by have := HB.out.size; simp; omega) ?_
            intro v3 w3 ho3 hg3 hn3
            obtain ⟨pp, cc, rfl⟩ := ownsRow_slice ho3
            have HR3 : Hid (EvRow w.heap.size w3 (.slice pp ((evsF l.item P a (k - a)).length + 1) cc) (evsF l.item P a (k - a) ++ [(l.item k).ev])) := EvRow.push (by unfold TR.ev EV.cells; rw [HT.out]; exact ho3)
            have HB3 : Hid (Below w.heap.size w w3) := (HB.out.trans ((below1 wr (.cells #[.int .i64 (tt : Int), .int .i64 (l.item k).port] 39)).mono HB.out.size)).drew.grown hg3 (by have := HB.out.size; simp; omega) (fun q hq => (HR.out.lt q hq).1)
            clear ho3 hg3 hn3
            go_simp
            refine hK1 _ _ (fun h => by cases h) ?_
            clear hK1 K1
            refine wpPre_e rfl rfl (fun K1 hK1 => ?_)
            apply Exists.intro
            refine And.intro (fun wx hx => ?_) ?_
            · go_simp
              try rfl
            go_simp
            refine hK1 _ ?_
            clear hK1 K1
            refine wpPre_nil ?_
            refine wpTr_done ?_
            go_wp2
            go_roundw
            case rel => exact ⟨k + 1, by omega, by omega, by go_num, by rw [HE.out]; exact HR3.out, HB3.out⟩
            case measure => simp [intOf]; omega
      · have HNk := hid h1
        have HE : Hid (evsF l.item P a (k + 1 - a) = evsF l.item P a (k - a)) := by show _ = _; rw [HKS.out]; exact evsF_no (by rw [HKA.out]; rintro ⟨e1, e2⟩; exact HNk.out e1)
        go_wp2
        go_roundw
        case rel => exact ⟨k + 1, by omega, by omega, by go_num, by rw [HE.out]; exact HR.out, HB.out⟩
        case measure => simp [intOf]; omega
    · obtain rfl : k = b := by omega
      obtain ⟨pp, cc, rfl⟩ := ownsRow_slice HR.out
      go_wp2
      go_ret
      exact ⟨_, rfl, HR.out, HB.out⟩
end Go.Proofs.Ytdpfgflofjiheaa

namespace Go.Proofs.Ytdpfgflofjiheaa
open Go.RowKit
set_option maxRecDepth 8000
/-- counts in a block of their own -/
def Cnt (w : World) (g T : Nat) (f : Nat → Nat) : Prop := ∃ cs, Box w g cs 3 ∧ cs.size = T ∧ ∀ k, k < T → cs[k]? = some (.int .i64 (f k : Int))
def Raw (w : World) (g T : Nat) : Prop := ∃ cs, Box w g cs 3 ∧ cs.size = T
theorem Cnt.raw {w : World} {g T : Nat} {f : Nat → Nat} (h : Cnt w g T f) : Raw w g T := by obtain ⟨cs, hb, hs, _⟩ := h; exact ⟨cs, hb, hs⟩
theorem Raw.lt {w : World} {g T : Nat} (h : Raw w g T) : g < w.heap.size := by obtain ⟨cs, hb, _⟩ := h; exact hb.lt
theorem Raw.but {w w' : World} {X : Nat → Prop} {g T : Nat} (h : Raw w g T) (hb : But X w w') (hx : ¬ X g) : Raw w' g T := by obtain ⟨cs, h1, hs⟩ := h; exact ⟨cs, h1.but hb hx, hs⟩
theorem Raw.below {w w' : World} {g T : Nat} (h : Raw w g T) (hb : Below w.heap.size w w') : Raw w' g T := by obtain ⟨cs, h1, hs⟩ := h; exact ⟨cs, h1.below hb, hs⟩
theorem Cnt.lt {w : World} {g T : Nat} {f : Nat → Nat} (h : Cnt w g T f) : g < w.heap.size := h.raw.lt
theorem Cnt.cell {w : World} {g T : Nat} {f : Nat → Nat} (h : Cnt w g T f) {k : Nat} (hk : k < T) : w.cell? ⟨g, k, none⟩ = some (.int .i64 (f k : Int)) := by obtain ⟨cs, hb, hs, hc⟩ := h; rw [hb.cell]; exact hc k hk
theorem Cnt.frozen {w : World} {g T : Nat} {f : Nat → Nat} (h : Cnt w g T f) (k : Nat) : w.frozen? ⟨g, k, none⟩ = false := by obtain ⟨cs, hb, hs, hc⟩ := h; exact hb.frozen k
theorem Cnt.but {w w' : World} {X : Nat → Prop} {g T : Nat} {f : Nat → Nat} (h : Cnt w g T f) (hb : But X w w') (hx : ¬ X g) : Cnt w' g T f := by obtain ⟨cs, h1, hs, hc⟩ := h; exact ⟨cs, h1.but hb hx, hs, hc⟩
theorem Cnt.below {w w' : World} {g T : Nat} {f : Nat → Nat} (h : Cnt w g T f) (hb : Below w.heap.size w w') : Cnt w' g T f := by obtain ⟨cs, h1, hs, hc⟩ := h; exact ⟨cs, h1.below hb, hs, hc⟩
theorem Cnt.set {w : World} {g T : Nat} {f : Nat → Nat} (h : Cnt w g T f) {k : Nat} (hk : k < T) (x : Nat) : Cnt (w.setCell ⟨g, k, none⟩ (.int .i64 (x : Int))) g T (fun q => if q = k then x else f q) := by
  obtain ⟨cs, h1, hs, hc⟩ := h
  refine ⟨_, h1.set k _, by simpa using hs, fun q hq => ?_⟩
  dsimp only
  by_cases hqk : q = k
  · subst hqk
    rw [if_pos rfl, Array.getElem?_setIfInBounds]
    simp [hs, hq]
  · rw [if_neg hqk, Array.getElem?_setIfInBounds, if_neg (fun e => hqk e.symm)]
    exact hc q hq
theorem box_sets {g : Nat} {e : TypeId} : ∀ (vs : List Value) (o : Nat) (w : World) (cs : Array Value), Box w g cs e → o + vs.length ≤ cs.size → ∃ cs', Box (w.setCells g o vs) g cs' e ∧ cs'.size = cs.size ∧ (∀ j, j < vs.length → cs'[o + j]? = vs[j]?) ∧ ∀ q, q < o → cs'[q]? = cs[q]? := by
  intro vs
  induction vs with
  | nil => intro o w cs h _; exact ⟨cs, h, rfl, fun j hj => absurd hj (by simp), fun _ _ => rfl⟩
  | cons v vs ih =>
    intro o w cs h hl
    simp only [List.length_cons] at hl
    obtain ⟨cs', h1, h2, h3, h4⟩ := ih (o + 1) (w.setCell ⟨g, o, none⟩ v) (cs.setIfInBounds o v) (h.set o v) (by simp; omega)
    refine ⟨cs', h1, by simpa using h2, fun j hj => ?_, fun q hq => ?_⟩
    · cases j with
      | zero =>
        rw [Nat.add_zero, h4 o (by omega), Array.getElem?_setIfInBounds, if_pos rfl, if_pos (by omega)]
        rfl
      | succ j =>
        simp only [List.length_cons] at hj
        rw [show o + (j + 1) = o + 1 + j by omega, h3 j (by omega)]
        simp
    · rw [h4 q (by omega), Array.getElem?_setIfInBounds, if_neg (by omega)]
theorem but_sets {g : Nat} : ∀ (vs : List Value) (o : Nat) (a w : World), But (fun x => x = g) a w → But (fun x => x = g) a (w.setCells g o vs) := by
  intro vs
  induction vs with
  | nil => intro o a w h; exact h
  | cons v vs ih => intro o a w h; exact ih (o + 1) a _ (h.setAt o v)
/-- clear of the counts -/
theorem clear_cnt {w : World} {g T : Nat} (h : Raw w g T) : Cnt (w.setCells g 0 (List.replicate T (.int .i64 0))) g T (fun _ => 0) := by
  obtain ⟨cs, hb, hs⟩ := h
  obtain ⟨cs', h1, h2, h3, _⟩ := box_sets (List.replicate T (.int .i64 0)) 0 w cs hb (by simp; omega)
  refine ⟨cs', h1, by omega, fun k hk => ?_⟩
  have := h3 k (by simpa using hk)
  rw [Nat.zero_add] at this
  rw [this]
  simp [hk]
theorem clear_run {w : World} {g T c : Nat} (h : Raw w g T) (hT : 0 < T) (ty : TypeId) : (Builtin.clear_ #[23] ty #[.slice (some ⟨g, 0, none⟩) T c]).run Try.prog w = .ok (.tuple #[]) (w.setCells g 0 (List.replicate T (.int .i64 0))) := by
  obtain ⟨cs, hb, hs⟩ := h
  refine Go.Lib.run_clear_slice w 23 3 ty (.int .i64 0) Try.underlying23 (fun w => by simp [go_sem]) rfl rfl g 0 T c hT (fun j hj => ?_) (fun j _ => hb.frozen _)
  rw [hb.cell]
  simp
  try omega
set_option maxHeartbeats 4000000 in
theorem newReader_any (T : Nat) (w : World) (hT : T ≤ 12) :
    Calls Try.prog 32 #[.int .i64 (T : Int)] w fun e w' => ∃ g, e = .returned (.agg #[.slice (some ⟨g, 0, none⟩) T T]) ∧ w.heap.size ≤ g ∧ Raw w' g T ∧ Below w.heap.size w w' := by
  obtain ⟨i0, Kd⟩ := kindIn
  obtain ⟨M, hM⟩ : ∃ M, M = madeCells (Value.int .i64 0).cells (((T : Nat) : Int).toNat * i0.size) := ⟨_, rfl⟩
  have hMs : M.size = T := by rw [hM, size_madeCells, Kd.hsize]; simp
  have hmk : ∀ W : World, (Instr.makeSlice 23 (.int .i64 (T : Int)) (.int .i64 (T : Int))).run Try.prog W = .ok (.slice (some ⟨W.heap.size, 0, none⟩) T T) (W.alloc (.cells M 3)) := fun W => by
    have h := run_make (P := Try.prog) W 23 3 i0 (.int .i64 0) Kd.ht Kd.hi Kd.hz .i64 .i64 (T : Int) (T : Int) (by omega) (by omega) (by rw [Kd.hby]; omega) (by omega)
    rw [← hM] at h
    simpa using h
  have HMs := hid hMs
  clear hM hMs Kd
  go_enter Try.func32, Try.ntmps32
  go_wp2
  have hb := Box.new (w.alloc (.cells #[.slice (some ⟨w.heap.size + 1, 0, none⟩) T T] 70)) M 3
  rw [World.size_alloc] at hb
  refine bodyPost_ret (v := .agg #[.slice (some ⟨w.heap.size + 1, 0, none⟩) T T]) (by simp [results, Try.results32, go_sem]) rfl ⟨w.heap.size + 1, rfl, by omega, ⟨M, ?_, HMs.out⟩, ?_⟩
  · exact hb
  · exact below2 _ _ _
theorem notOne_any (x : Int) (w : World) : Calls Try.prog 48 #[.int .i64 x] w fun e w' => e = .returned (.bool (x != 1)) ∧ w' = w := by
  go_enter Try.func48, Try.ntmps48
  go_wp2
  go_ret
  exact ⟨rfl, rfl⟩
set_option maxHeartbeats 4000000 in
theorem indexFunc_any (g T c : Nat) (f : Nat → Nat) (w : World) (hT : T ≤ 12) (h0 : 0 < T) (h : Cnt w g T f) :
    Calls Try.prog 52 #[.slice (some ⟨g, 0, none⟩) T c, .func (.func 48) #[] #[]] w fun e w' => ∃ x : Int, e = .returned (.int .i64 x) ∧ (0 ≤ x ↔ ∃ k, k < T ∧ f k ≠ 1) ∧ w' = w := by
  have H := hid h
  clear h
  go_enter Try.func52, Try.ntmps52
  go_wp2_with fail
  go_loopw [8] (fun x wr => ∃ k : Nat, k ≤ T ∧ x = .int .i64 (k : Int) ∧ (∀ q, q < k → f q = 1) ∧ wr = w) (fun x _ => T - (intOf x).toNat)
  case atStart => exact ⟨0, Nat.zero_le _, rfl, fun q hq => absurd hq (by omega), rfl⟩
  case round =>
    obtain ⟨k, hk, rfl, hno, rfl⟩ := hrel
    have HNo := hid hno
    clear hno
    by_cases hlt : k < T
    · have hlt' : (k : Int) < (T : Int) := by omega
      have a0 := H.out.cell hlt
      have HC := fun w => hid (notOne_any (f k : Int) w)
      by_cases h1 : f k = 1
      · have hb : ((f k : Int) != 1) = false := by simp [h1]
        have HF := hid h1
        clear h1
        go_wp2_with fail
        refine (HC _).out.mono ?_
        rintro e w2 ⟨rfl, rfl⟩
        rw [hb]
        go_wp2
        go_roundw
        case rel =>
          refine ⟨k + 1, by omega, by go_num, fun q hq => ?_, by first | rfl | trivial⟩
          by_cases hqk : q < k
          · exact HNo.out q hqk
          · obtain rfl : q = k := by omega
            exact HF.out
        case measure => simp [intOf]; omega
      · have hb : ((f k : Int) != 1) = true := by simp; omega
        have HF := hid h1
        clear h1
        go_wp2_with fail
        refine (HC _).out.mono ?_
        rintro e w2 ⟨rfl, rfl⟩
        rw [hb]
        go_wp2
        go_ret
        exact ⟨(k : Int), rfl, ⟨fun _ => ⟨k, hlt, HF.out⟩, fun _ => by omega⟩, rfl⟩
    · obtain rfl : k = T := by omega
      go_wp2
      go_ret
      exact ⟨-1, rfl, ⟨fun h => by omega, fun ⟨q, hq, hf⟩ => (hf (HNo.out q hq)).elim⟩, rfl⟩
theorem containsFunc_any (g T c : Nat) (f : Nat → Nat) (w : World) (hT : T ≤ 12) (h0 : 0 < T) (h : Cnt w g T f) :
    Calls Try.prog 47 #[.slice (some ⟨g, 0, none⟩) T c, .func (.func 48) #[] #[]] w fun e w' => YesQ (∃ k, k < T ∧ f k ≠ 1) w e w' ∧ w' = w := by
  have HC := hid (indexFunc_any g T c f w hT h0 h)
  clear h
  go_enter Try.func47, Try.ntmps47
  go_wp2_with fail
  refine HC.out.mono ?_
  rintro e w2 ⟨x, rfl, hx, rfl⟩
  have HX := hid hx
  clear hx HC
  go_wp2
  go_ret
  refine ⟨⟨_, rfl, ?_, Below.refl _ _⟩, rfl⟩
  rw [decide_eq_true_eq]
  exact HX.out
end Go.Proofs.Ytdpfgflofjiheaa
