import Derived.Test.YtbkikbhodgjijaaZa
import Derived.Test.YtbkikbhodgjijaaYV
namespace Go.Proofs.Ytbkikbhodgjijaa
open Go.RowKit
set_option maxRecDepth 8000

theorem PathS.len {l : LT TR} {n i e : Int} {ps : List Int} (h : PathS l n i e ps) : ps.length ≤ 4000000 := by
  rcases h with ⟨_, _, rfl⟩ | ⟨_, a, b, m, _, _, ⟨_, _, rfl⟩ | ⟨h, _, rfl⟩⟩
  · simp
  · simp
  · rw [← evL_len l.item (befP l.item m true)] at h
    have h1 := pl_len (evL l.item (befP l.item m true) a (b - a)) 0 0 2000 (by omega)
    have h2 : (evL l.item (befP l.item m true) a (b - a)).length * 2000 ≤ 2000 * 2000 := Nat.mul_le_mul_right _ h
    omega
set_option maxHeartbeats 8000000 in
/-- sameInts of the same ints -/
theorem sameInts_yes (v1 v2 : Value) (xs : List Int) (w : World) (s1 s2 : Nat) (h1 : InRow s1 w v1 xs) (h2 : InRow s2 w v2 xs) (hx : xs.length ≤ 140737488355328) :
    Calls Try.prog 10 #[v1, v2] w fun e w' => e = .returned (.bool true) ∧ Below w.heap.size w w' := by
  obtain ⟨p1, c1, hv1⟩ := ownsRow_slice h1
  obtain ⟨p2, c2, hv2⟩ := ownsRow_slice h2
  have HA := hid h1
  have HBl := hid h2
  obtain ⟨n, hn⟩ : ∃ n, n = xs.length := ⟨_, rfl⟩
  rw [← hn] at hv1 hv2 hx
  have HN := hid hn
  subst hv1
  subst hv2
  clear h1 h2 hn
  go_enter Try.func10, Try.ntmps10
  go_wp2_with fail
  go_loopw [5] (fun x wr => ∃ k : Nat, k ≤ n ∧ x = .int .i64 (k : Int) ∧ Below w.heap.size w wr) (fun x _ => n - (intOf x).toNat)
  case atStart => exact ⟨0, Nat.zero_le _, rfl, Below.refl _ _⟩
  case round =>
    obtain ⟨k, hk, rfl, hb⟩ := hrel
    have HB := hid hb
    clear hb
    by_cases hlt : k < n
    · have hlt' : (k : Int) < (n : Int) := by omega
      have hxk : xs[k]? = some (xs[k]'(by have := HN.out; omega)) := List.getElem?_eq_getElem _
      obtain ⟨x, hx0⟩ : ∃ x, xs[k]? = some x := ⟨_, hxk⟩
      obtain ⟨g1, d1, he1, _, hl1, _, ha1⟩ := (HA.out.below HB.out).at_ (by have := HN.out; omega)
      obtain ⟨g2, d2, he2, _, hl2, _, ha2⟩ := (HBl.out.below HB.out).at_ (by have := HN.out; omega)
      have a0 := (ha1 k x hx0).1
      have a1 := (ha2 k x hx0).1
      have hp1 := (Value.slice.inj he1).1
      have hp2 := (Value.slice.inj he2).1
      rw [hp1, hp2]
      clear ha1 ha2 he1 he2 hp1 hp2 hxk hx0
      go_upto_region 6 with fail
      refine wp_region_calmE 30 (fun wx => Below wr.heap.size wr wx) [(0, true), (1, true), (2, true), (3, false), (4, true), (5, true), (6, true), (7, false), (8, true)] .done (by kernel_rfl) (by kernel_rfl) (Below.refl _ _).drew ?_
      refine wpPre_e rfl rfl (fun K1 hK1 => ?_)
      apply Exists.intro
      refine And.intro (fun wx hx => ?_) ?_
      · go_simp
        try rfl
      go_simp
      refine hK1 _ ?_
      clear hK1 K1
      refine wpPre_e rfl rfl (fun K1 hK1 => ?_)
      apply Exists.intro
      refine And.intro (fun wx hx => ?_) ?_
      · go_simp
        try rfl
      go_simp
      refine hK1 _ ?_
      clear hK1 K1
      refine wpPre_e rfl rfl (fun K1 hK1 => ?_)
      apply Exists.intro
      refine And.intro (fun wx hx => ?_) ?_
      · go_simp
        try rfl
      go_simp
      refine hK1 _ ?_
      clear hK1 K1
      refine wpPre_e rfl rfl (fun K1 hK1 => ?_)
      apply Exists.intro
      refine And.intro (fun wx hx => ?_) ?_
      · have e0 := below_fact hx rfl a0
        have e1 := below_fact hx rfl a1
        go_simp
        try rfl
      go_simp
      refine hK1 _ ?_
      clear hK1 K1
      refine wpPre_e rfl rfl (fun K1 hK1 => ?_)
      apply Exists.intro
      refine And.intro (fun wx hx => ?_) ?_
      · go_simp
        try rfl
      go_simp
      refine hK1 _ ?_
      clear hK1 K1
      refine wpPre_e rfl rfl (fun K1 hK1 => ?_)
      apply Exists.intro
      refine And.intro (fun wx hx => ?_) ?_
      · go_simp
        try rfl
      go_simp
      refine hK1 _ ?_
      clear hK1 K1
      refine wpPre_e rfl rfl (fun K1 hK1 => ?_)
      apply Exists.intro
      refine And.intro (fun wx hx => ?_) ?_
      · go_simp
        try rfl
      go_simp
      refine hK1 _ ?_
      clear hK1 K1
      refine wpPre_e rfl rfl (fun K1 hK1 => ?_)
      apply Exists.intro
      refine And.intro (fun wx hx => ?_) ?_
      · have e0 := below_fact hx rfl a0
        have e1 := below_fact hx rfl a1
        go_simp
        try rfl
      go_simp
      refine hK1 _ ?_
      clear hK1 K1
      refine wpPre_e rfl rfl (fun K1 hK1 => ?_)
      apply Exists.intro
      refine And.intro (fun wx hx => ?_) ?_
      · go_simp
        try rfl
      go_simp
      refine hK1 _ ?_
      clear hK1 K1
      refine wpPre_nil ?_
      refine wpTr_done ?_
      go_wp2
      go_roundw
      case rel => exact ⟨k + 1, by omega, by go_num, HB.out.drew⟩
      case measure => simp [intOf]; omega
    · obtain rfl : k = n := by omega
      go_wp2
      go_ret
      exact ⟨rfl, HB.out⟩
set_option maxHeartbeats 8000000 in
theorem witnessPath_walk (l : LT TR) (i n : Int) (w : World) (hl : LT.In elTr w (fun b => b < w.heap.size) l) (h47 : l.n * 32 ≤ 140737488355328) :
    Calls Try.prog 3 #[.slice l.p l.n l.c, .int .i64 i, .int .i64 n] w fun e w' => e = .returned (.bool true) ∧ Below w.heap.size w w' := by
  have hnn := hl.nn
  obtain ⟨i0, Kd⟩ := kindTr
  have HKd := hid Kd
  have HSrc := hid hl.src
  have HL := hid hl
  have H47 := hid h47
  clear hl Kd h47
  have hb47 : (0 + l.n) * 32 ≤ 140737488355328 := by have := H47.out; omega
  go_enter Try.func3, Try.ntmps3
  go_wp2_with (at_builtin; refine wpList_appS rfl (.const (.slice none 0 0)) (.tmp 12) 22 37 i0 _ 4 32 HKd.out rfl w.heap.size (.slice none 0 0) 0 [] rfl (World.ownsRow_nil _ _ _ _) l.p l.n l.c _ rfl HSrc.out (oneTr l) (by omega) hb47 (Nat.le_refl _) ?_)
  intro v1 w1 ho1 hg1 _
  obtain ⟨p1, c1, rfl, hin1⟩ := copied_in hnn ho1
  have hb1 : Below w.heap.size w w1 := (Below.refl _ _).grown hg1 (Nat.le_refl _) (fun k hk => by cases hk)
  have HSp := hid (path_any ⟨p1, l.n, c1, l.item⟩ i n w1 _ hin1 H47.out)
  dsimp only at HSp
  have HB1 := hid hb1
  clear ho1 hg1 hb1 hin1
  go_wp2_with fail
  refine HSp.out.mono ?_
  rintro e w2 ⟨v1, err, ps, hS, rfl, hr1, hb2⟩
  have hb02 : Below w.heap.size w w2 := HB1.out.trans (hb2.mono HB1.out.size)
  have HRs := hid (rpath_any l i n w2 _ (HL.out.below hb02))
  have HB02 := hid hb02
  have HR1 := hid hr1
  have HS := hid hS
  clear hb2 hb02 hr1 hS HSp
  go_wp2_with fail
  refine HRs.out.mono ?_
  rintro e w3 ⟨u1, err', ps', hS', rfl, hq1, hb3⟩
  obtain ⟨rfl, rfl⟩ := PathS.uniq HS.out hS'
  have hx1 := hS'.len
  have hb03 : Below w.heap.size w w3 := HB02.out.trans (hb3.mono HB02.out.size)
  have HC1 := hid (sameInts_yes v1 u1 ps w3 _ _ (HR1.out.below hb3) hq1 (by omega))
  have HB03 := hid hb03
  have herr : (err == err) = true := by simp
  clear hS' hq1 hb3 hb03 hx1 HRs
  go_wp2_with fail
  refine HC1.out.mono ?_
  rintro e w4 ⟨rfl, hb4⟩
  have HB04 : Hid (Below w.heap.size w w4) := HB03.out.trans (hb4.mono HB03.out.size)
  clear hb4 HC1
  go_wp2
  go_ret
  exact ⟨rfl, HB04.out⟩
end Go.Proofs.Ytbkikbhodgjijaa
