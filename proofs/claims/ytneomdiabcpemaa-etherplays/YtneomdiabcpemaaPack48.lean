import Derived.Test.YtneomdiabcpemaaPack25
import Derived.Test.YtneomdiabcpemaaUdJ1
import Derived.Test.YtneomdiabcpemaaUdJ2
import Derived.Test.YtneomdiabcpemaaUdJ3
import Derived.Test.YtneomdiabcpemaaUdJ4
import Derived.Test.YtneomdiabcpemaaUdJ5
import Derived.Test.YtneomdiabcpemaaPack47
import Derived.Test.YtneomdiabcpemaaPack12
namespace Go.Proofs.Ytneomdiabcpemaa
open Go.RowKit
set_option maxRecDepth 8000
theorem Pr.zlt {w : World} {Z : Nat → Prop} {xb N : Nat} (h : Pr w Z xb N) : ∀ k, Z k → k < w.heap.size := by
  rcases h with ⟨Z1, Z2, b, rb, m, A, h⟩ | ⟨h1, h2, h3⟩
  · exact fun k hk => h.l1 k (h.s1 k hk)
  · exact h3
theorem Pr.mono {w : World} {Z : Nat → Prop} {xb N N' : Nat} (h : Pr w Z xb N) (hN : N ≤ N') : Pr w Z xb N' := by
  rcases h with ⟨Z1, Z2, b, rb, m, A, h⟩ | h
  · exact .inl ⟨Z1, Z2, b, rb, m, A, h.mono hN⟩
  · exact .inr h
set_option maxHeartbeats 4000000 in
/-- play, where there is no network -/
theorem play_nil (w : World) (Z : Nat → Prop) (xb N : Nat) (hx : Box w xb #[.pointer none, .pointer none] 71) (hn : ¬ Z xb) (hl : ∀ k, Z k → k < w.heap.size) (kd wh a1 b1 : Int) (y : BY) :
    Calls Try.prog 25 #[.pointer (some ⟨xb, 0, none⟩), .agg #[.int .i64 kd, .int .i64 wh, .int .i64 a1, .int .i64 b1, .slice y.p y.n y.c]] w fun e w' => PlQ w Z xb N e w' := by
  obtain ⟨V, hV⟩ : ∃ V, V = w.alloc (.cells #[.int .i64 kd, .int .i64 wh, .int .i64 a1, .int .i64 b1, .slice y.p y.n y.c] 48) := ⟨_, rfl⟩
  have hBV : Below w.heap.size w V := by rw [hV]; exact (Below.refl _ _).alloc (Nat.le_refl _) _
  have hxV := hx.below hBV
  have k0 := hxV.cell 0
  simp at k0
  have kl := hxV.lt
  have HQ : Hid (Pr V Z xb (N + 1) ∧ Fr Z w V) := ⟨.inr ⟨hxV, hn, fun k hk => Nat.lt_of_lt_of_le (hl k hk) hBV.size⟩, Fr.below hBV⟩
  have HV := hid hV
  clear hV hBV hxV hx hn hl
  go_enter Try.func25, Try.ntmps25
  go_upto_region 1 with fail
  rw [← HV.out]
  go_wp2
  exact bodyPost_ret (v := .bool true) (by simp [results, Try.results25, go_sem]) rfl ⟨rfl, HQ.out⟩
/-- play -/
theorem play_any (o : OU) (w : World) (Z : Nat → Prop) (xb N : Nat) (h : Pr w Z xb N) (hN : (N + 1) * 48 ≤ 140737488355328) (ho : elOV.In w Z o) :
    Calls Try.prog 25 #[.pointer (some ⟨xb, 0, none⟩), .agg #[.int .i64 o.kind, .int .i64 o.which, .int .i64 o.a, .int .i64 o.b, .slice o.y.p o.y.n o.y.c]] w fun e w' => PlQ w Z xb N e w' := by
  obtain ⟨kd, wh, a1, b1, y⟩ := o
  obtain ⟨hy, ha, hb, hyn⟩ := ho
  rcases h with ⟨Z1, Z2, b, rb, m, A, h⟩ | ⟨h1, h2, h3⟩
  · by_cases h1 : kd = 1
    · subst h1; exact play_1 w Z Z1 Z2 xb b rb m A N h hN wh a1 b1 y hy ha hb hyn
    by_cases h2 : kd = 2
    · subst h2; exact play_2 w Z Z1 Z2 xb b rb m A N h hN wh a1 b1 y hy ha hb
    by_cases h3 : kd = 3
    · subst h3; exact play_3 w Z Z1 Z2 xb b rb m A N h hN wh a1 b1 y hy ha hb
    by_cases h4 : kd = 4
    · subst h4; exact play_4 w Z Z1 Z2 xb b rb m A N h hN wh a1 b1 y hy ha hb
    by_cases h5 : kd = 5
    · subst h5; exact play_5 w Z Z1 Z2 xb b rb m A N h hN wh a1 b1 y hy ha hb
    by_cases h6 : kd = 6
    · subst h6; exact play_6 w Z Z1 Z2 xb b rb m A N h hN wh a1 b1 y hy ha hb
    exact play_0 kd h1 h2 h3 h4 h5 h6 w Z Z1 Z2 xb b rb m A N h hN wh a1 b1 y hy ha hb
  · exact play_nil w Z xb N h1 h2 h3 kd wh a1 b1 y
/-- what begin answers -/
def BgQ (w : World) (e : Ending) (w' : World) : Prop := ∃ xb, e = .returned (.tuple #[.pointer (some ⟨xb, 0, none⟩), .bool true]) ∧ Below w.heap.size w w' ∧ ∀ Z : Nat → Prop, (∀ k, Z k → k < w.heap.size) → Pr w' Z xb 0
set_option maxHeartbeats 8000000 in
theorem begin_any (m : Int) (w : World) : Calls Try.prog 24 #[.int .i64 m] w fun e w' => BgQ w e w' := by
  have HN := hid (new_any m w)
  by_cases hm : m < 1 ∨ 8 < m
  case pos =>
    have HM := hid hm
    clear hm
    go_enter Try.func24, Try.ntmps24
    go_wp2_with fail
    refine HN.out.mono ?_
    intro e w1 hq
    obtain ⟨rfl, hw1⟩ := hq.1 HM.out
    subst w1
    have HR := hid (rnew_any m w)
    clear hq HN
    go_wp2_with fail
    refine HR.out.mono ?_
    intro e w1 hq
    obtain ⟨rfl, hw1⟩ := hq.1 HM.out
    subst w1
    clear hq HR
    go_wp2
    refine bodyPost_ret (v := .tuple #[.pointer (some ⟨w.heap.size, 0, none⟩), .bool true]) (by simp [results, Try.results24, go_sem]) rfl ⟨_, rfl, (Below.refl _ _).alloc (Nat.le_refl _) _, fun Z hZ => .inr ⟨Box.new _ _ _, fun h => by have := hZ _ h; omega, fun k hk => ?_⟩⟩
    have := hZ k hk
    simp
    omega
  case neg =>
    have HM := hid hm
    clear hm
    go_enter Try.func24, Try.ntmps24
    go_wp2_with fail
    refine HN.out.mono ?_
    intro e w1 hq
    obtain ⟨rfl, hs1, hb1, hE⟩ := hq.2 HM.out
    have HR := hid (rnew_any m w1)
    have HE := hid hE
    have HB1 := hid hb1
    have HS1 := hid hs1
    clear hq HN hE hb1 hs1
    go_wp2_with fail
    refine HR.out.mono ?_
    intro e w2 hq
    obtain ⟨rfl, hs2, hb2, hR⟩ := hq.2 HM.out
    have HRf := hid hR
    have HB2 := hid hb2
    have HS2 := hid hs2
    clear hq HR hR hb2 hs2
    go_wp2
    have hba : Below w2.heap.size w2 (w2.alloc (.cells #[.pointer (some ⟨w.heap.size, 0, none⟩), .pointer (some ⟨w1.heap.size, 0, none⟩)] 71)) := (Below.refl _ _).alloc (Nat.le_refl _) _
    have hbx := Box.new w2 #[.pointer (some ⟨w.heap.size, 0, none⟩), .pointer (some ⟨w1.heap.size, 0, none⟩)] 71
    obtain ⟨T, hT⟩ : ∃ T, T = w2.alloc (.cells #[.pointer (some ⟨w.heap.size, 0, none⟩), .pointer (some ⟨w1.heap.size, 0, none⟩)] 71) := ⟨_, rfl⟩
    rw [← hT] at hba hbx
    have hTs : T.heap.size = w2.heap.size + 1 := by rw [hT]; simp
    have h1 := HS1.out
    have h2 := HS2.out
    refine bodyPost_ret (v := .tuple #[.pointer (some ⟨w2.heap.size, 0, none⟩), .bool true]) (by simp [results, Try.results24, go_sem]) rfl ?_
    rw [← hT]
    refine ⟨_, rfl, (HB1.out.trans (HB2.out.mono HB1.out.size)).trans (hba.mono (by omega)), fun Z hZ => .inl ⟨fun k => k < w.heap.size ∨ Bt w1.heap.size T.heap.size k, fun k => k < w1.heap.size ∨ k = w2.heap.size, w.heap.size, w1.heap.size, m, [], ?_⟩⟩
    refine ⟨?_, ?_, hbx, .inr ⟨by omega, by omega⟩, .inr rfl, fun h => by have := hZ _ h; omega, fun k hk => .inl (hZ k hk), fun k hk => .inl (by have := hZ k hk; omega), fun k hk => ?_, fun k hk => ?_, fun k hk => ?_⟩
    · refine ((HE.out (fun k => k < w.heap.size) (fun k hk => hk)).below (HB2.out.trans (hba.mono (by omega))) fun k hk hz => ?_)
      rcases hz with hz | hz
      · exact hz
      · have := hz.1; omega
    · refine ((HRf.out (fun k => k < w1.heap.size) (fun k hk => hk)).below hba fun k hk hz => ?_)
      rcases hz with hz | hz
      · exact hz
      · omega
    · by_cases hk1 : k < w1.heap.size
      · exact .inr (.inl hk1)
      · exact .inl (.inr ⟨by omega, hk⟩)
    · rcases hk with hk | hk
      · omega
      · exact hk.2
    · rcases hk with hk | hk
      · omega
      · omega
end Go.Proofs.Ytneomdiabcpemaa

namespace Go.Proofs.Ytneomdiabcpemaa
open Go.RowKit
set_option maxRecDepth 8000
/-- two pairs beside one another -/
def Dp (W w : World) (xx xy N : Nat) : Prop := ∃ Zx Zy : Nat → Prop, Pr w Zx xx N ∧ Pr w Zy xy N ∧ (∀ k, k < w.heap.size → Zx k ∨ Zy k) ∧ (∀ k, k < W.heap.size → Zx k) ∧ (∀ k, k < W.heap.size → Zy k) ∧ Below W.heap.size W w
theorem Dp.swap {W w : World} {xx xy N : Nat} (h : Dp W w xx xy N) : Dp W w xy xx N := by
  obtain ⟨Zx, Zy, h1, h2, h3, h4, h5, h6⟩ := h
  exact ⟨Zy, Zx, h2, h1, fun k hk => (h3 k hk).symm, h5, h4, h6⟩
theorem Dp.bel {W w : World} {xx xy N : Nat} (h : Dp W w xx xy N) : Below W.heap.size W w := by
  obtain ⟨Zx, Zy, h1, h2, h3, h4, h5, h6⟩ := h
  exact h6
theorem Dp.below {W w w' : World} {xx xy N : Nat} (h : Dp W w xx xy N) (hb : Below w.heap.size w w') : Dp W w' xx xy N := by
  obtain ⟨Zx, Zy, h1, h2, h3, h4, h5, h6⟩ := h
  have hs := hb.size
  refine ⟨fun k => Zx k ∨ Bt w.heap.size w'.heap.size k, Zy, h1.but (But.ofBelow hb) (fun k hk hz => hz.resolve_right (fun e => by have := e.1; omega)) (fun k hk => ?_), h2.but (But.ofBelow hb) (fun _ _ hz => hz) (fun k hk => Nat.lt_of_lt_of_le (h2.zlt k hk) hs), fun k hk => ?_, fun k hk => .inl (h4 k hk), h5, h6.trans (hb.mono h6.size)⟩
  · rcases hk with hk | hk
    · exact Nat.lt_of_lt_of_le (h1.zlt k hk) hs
    · exact hk.2
  · by_cases hkw : k < w.heap.size
    · exact (h3 k hkw).imp .inl id
    · exact .inl (.inr ⟨by omega, hk⟩)
theorem Dp.play {W w : World} {xx xy N : Nat} (h : Dp W w xx xy N) (hN : (N + 1) * 48 ≤ 140737488355328) (o : OU) (ho : elOV.In W (fun k => k < W.heap.size) o) :
    Calls Try.prog 25 #[.pointer (some ⟨xx, 0, none⟩), .agg #[.int .i64 o.kind, .int .i64 o.which, .int .i64 o.a, .int .i64 o.b, .slice o.y.p o.y.n o.y.c]] w fun e w' => e = .returned (.bool true) ∧ Dp W w' xx xy (N + 1) := by
  obtain ⟨Zx, Zy, h1, h2, h3, h4, h5, h6⟩ := h
  have ho' : elOV.In w Zx o := elOV.mono (elOV.kept ho h6.size fun k _ hl => h6.block k hl) fun k hk _ => h4 k hk
  refine (play_any o w Zx xx N h1 hN ho').mono ?_
  rintro e w' ⟨rfl, hp, hF⟩
  have hs := hF.size
  refine ⟨rfl, Zx, fun k => Zy k ∨ Bt w.heap.size w'.heap.size k, hp, (h2.but (hF.mono fun k hk hz => (h3 k hk).resolve_left hz) (fun k hk hz => hz.resolve_right (fun e => by have := e.1; omega)) (fun k hk => ?_)).mono (Nat.le_succ _), fun k hk => ?_, h4, fun k hk => .inl (h5 k hk), h6.trans (hF.lo' h4 h6.size)⟩
  · rcases hk with hk | hk
    · exact Nat.lt_of_lt_of_le (h2.zlt k hk) hs
    · exact hk.2
  · by_cases hkw : k < w.heap.size
    · exact (h3 k hkw).imp id .inl
    · exact .inr (.inr ⟨by omega, hk⟩)
set_option maxHeartbeats 16000000 in
/-- EtherPlays -/
theorem etherPlays_walk (m1 m2 : Int) (sc : LT OU) (W : World) (hI : LT.In elOV W (fun b => b < W.heap.size) sc) (hZ : sc.n * 56 ≤ 140737488351232) :
    Calls Try.prog 7 #[.int .i64 m1, .int .i64 m2, .slice sc.p sc.n sc.c] W fun e w' => e = .returned (.bool true) ∧ Below W.heap.size W w' := by
  have HB := hid (begin_any m1 W)
  have HI := hid hI
  have hnn := hI.nn
  clear hI
  go_enter Try.func7, Try.ntmps7
  go_wp2_with fail
  refine HB.out.mono ?_
  rintro e w1 ⟨xx, rfl, hb1, hp1⟩
  have HB2 := hid (begin_any m2 w1)
  have HB1 := hid hb1
  have HP1 := hid hp1
  clear hb1 hp1 HB
  go_wp2_with fail
  refine HB2.out.mono ?_
  rintro e w2 ⟨xy, rfl, hb2, hp2⟩
  have HD0 : Hid (Dp W w2 xx xy 0) := by
    have hs := hb2.size
    have hs1 := HB1.out.size
    refine ⟨fun k => k < W.heap.size ∨ Bt w1.heap.size w2.heap.size k, fun k => k < w1.heap.size, ?_, hp2 _ (fun k hk => hk), fun k hk => ?_, fun k hk => .inl hk, fun k hk => ?_, HB1.out.trans (hb2.mono hs1)⟩
    · refine (HP1.out (fun k => k < W.heap.size) (fun k hk => hk)).but (But.ofBelow hb2) (fun k hk hz => hz.resolve_right (fun e => by have := e.1; omega)) (fun k hk => ?_)
      rcases hk with hk | hk
      · omega
      · exact hk.2
    · by_cases hkw : k < w1.heap.size
      · exact .inr hkw
      · exact .inl (.inr ⟨by omega, hk⟩)
    · show k < w1.heap.size
      omega
  have HWk := hid (works_any w2)
  clear hb2 hp2 HB2 HB1 HP1
  go_wp2_with fail
  refine HWk.out.mono ?_
  rintro e w3 ⟨rfl, hb3⟩
  have H0 := hid (HD0.out.below hb3)
  clear hb3 HWk HD0
  go_wp2_with fail
  go_loopw [11] (fun x wr => ∃ i : Nat, i ≤ sc.n ∧ x = .int .i64 (i : Int) ∧ Dp W wr xx xy i) (fun x _ => sc.n - (intOf x).toNat)
  case atStart => exact ⟨0, Nat.zero_le _, rfl, H0.out⟩
  case round =>
    obtain ⟨i, hi, rfl, hT⟩ := hrel
    have HTr := hid hT
    clear hT H0
    by_cases hlt : i < sc.n
    · have hlt' : (i : Int) < (sc.n : Int) := by omega
      obtain ⟨sb, so, hsp, _, hsl, hsat⟩ := HI.out.at_ (by omega)
      have hbl := HTr.out.bel
      obtain ⟨o, ho⟩ : ∃ o, o = sc.item i := ⟨_, rfl⟩
      have hce : ∀ wx, Below W.heap.size W wx → ∀ q u, (elOV.cells o)[q]? = some u → wx.cell? ⟨sb, so + i * 5 + q, none⟩ = some u := fun wx hx q u hu => (World.cell?_of_block (a := ⟨sb, so + i * 5 + q, none⟩) (hx.block sb hsl)).trans (hsat i hlt q u (by rw [← ho]; exact hu))
      have c0 : wr.cell? ⟨sb, so + i * 5, none⟩ = some (.int .i64 o.kind) := hce wr hbl 0 _ rfl
      have c1 := hce wr hbl 1 _ rfl
      have c2 := hce wr hbl 2 _ rfl
      have c3 := hce wr hbl 3 _ rfl
      have c4 := hce wr hbl 4 _ rfl
      have hoI : elOV.In W (fun b => b < W.heap.size) o := by rw [ho]; exact HI.out.each i hlt
      have HSx := hid (HTr.out.play (by omega) o hoI)
      have HSy := hid (HTr.out.swap.play (by omega) o hoI)
      have hsl2 : sb < wr.heap.size := Nat.lt_of_lt_of_le hsl hbl.size
      rw [hsp]
      clear hsat ho hce hoI hbl
      by_cases hw : o.which = 1
      case pos =>
        rw [hw] at c1 HSy
        clear hw HSx
        go_wp2_with fail
        refine HSy.out.mono ?_
        rintro e w5 ⟨rfl, hT2⟩
        have HT2 := hid hT2.swap
        clear hT2 HSy c0 c1 c2 c3 c4
        go_wp2
        go_roundw
        case rel => exact ⟨i + 1, by omega, by go_num, HT2.out⟩
        case measure => simp [intOf]; omega
      case neg =>
        have hw' : (o.which == 1) = false := by simpa using hw
        clear hw HSy
        go_wp2_with fail
        refine HSx.out.mono ?_
        rintro e w5 ⟨rfl, hT2⟩
        have HT2 := hid hT2
        clear hT2 HSx c0 c1 c2 c3 c4
        go_wp2
        go_roundw
        case rel => exact ⟨i + 1, by omega, by go_num, HT2.out⟩
        case measure => simp [intOf]; omega
    · have hlt' : ¬ (i : Int) < (sc.n : Int) := by omega
      have hz : elOV.In W (fun k => k < W.heap.size) ⟨6, 0, 0, 0, ⟨none, 0, 0, fun _ => 0⟩⟩ := ⟨⟨fun h => absurd h (by simp), Nat.le_refl 0, by simp, Nat.zero_le _, fun j hj => absurd hj (by simp), fun _ => ⟨rfl, rfl⟩⟩, by simp, by simp, by simp⟩
      have HS1 := hid (HTr.out.play (by omega) _ hz)
      have HZ := hid hz
      clear hz
      go_wp2_with fail
      refine HS1.out.mono ?_
      rintro e w5 ⟨rfl, hT2⟩
      have HS2 := hid (hT2.swap.play (by omega) _ HZ.out)
      clear hT2 HS1
      go_wp2_with fail
      refine HS2.out.mono ?_
      rintro e w6 ⟨rfl, hT3⟩
      have H3 := hid hT3.bel
      clear hT3 HS2
      go_wp2
      exact bodyPost_ret (v := .bool true) (by simp [results, Try.results7, go_sem]) rfl ⟨rfl, H3.out⟩
end Go.Proofs.Ytneomdiabcpemaa
