import Derived.Test.YtneomdiabcpemaaUcD0
import Derived.Test.YtneomdiabcpemaaUcD1
import Derived.Test.YtneomdiabcpemaaUcD2
import Derived.Test.YtneomdiabcpemaaUcD3
import Derived.Test.YtneomdiabcpemaaUcD4
import Derived.Test.YtneomdiabcpemaaUcD5
namespace Go.Proofs.Ytneomdiabcpemaa
open Go.RowKit
set_option maxRecDepth 8000
/-- step, of any kind -/
theorem step_any (o : OU) (W w : World) (b kb : Nat) (m : Int) (N : Nat) (h : HT W w b kb m N) (hN : N * 56 ≤ 140737488355328) (hy : Byts W (fun k => k < W.heap.size) o.y.p o.y.n o.y.c o.y.f) (hb1 : o.b ≤ 9223372036854775807) :
    Calls Try.prog 16 #[.pointer (some ⟨kb, 0, none⟩), .pointer (some ⟨b, 0, none⟩), .int .i64 m, .agg #[.int .i64 o.kind, .int .i64 o.which, .int .i64 o.a, .int .i64 o.b, .slice o.y.p o.y.n o.y.c]] w fun e w' => StQ W b kb m N e w' := by
  obtain ⟨kd, wh, a1, b1, y⟩ := o
  by_cases h1 : kd = 1
  · subst h1; exact step_1 W w b kb m N h hN wh a1 b1 y hy hb1
  by_cases h2 : kd = 2
  · subst h2; exact step_2 W w b kb m N h hN wh a1 b1 y hy hb1
  by_cases h3 : kd = 3
  · subst h3; exact step_3 W w b kb m N h hN wh a1 b1 y hy hb1
  by_cases h4 : kd = 4
  · subst h4; exact step_4 W w b kb m N h hN wh a1 b1 y hy hb1
  by_cases h5 : kd = 5
  · subst h5; exact step_5 W w b kb m N h hN wh a1 b1 y hy hb1
  exact step_0 kd h1 h2 h3 h4 h5 W w b kb m N h hN wh a1 b1 y hy hb1
set_option maxHeartbeats 16000000 in
/-- EtherHonest -/
theorem etherHonest_walk (m : Int) (sc : LT OU) (W : World) (hI : LT.In elOU W (fun b => b < W.heap.size) sc) (hZ : sc.n * 56 ≤ 140737488351232) :
    Calls Try.prog 5 #[.int .i64 m, .slice sc.p sc.n sc.c] W fun e w' => e = .returned (.bool true) ∧ Below W.heap.size W w' := by
  have HWk := hid (works_any W)
  have HI := hid hI
  have hnn := hI.nn
  clear hI
  go_enter Try.func5, Try.ntmps5
  go_wp2_with fail
  refine HWk.out.mono ?_
  rintro e w1 ⟨rfl, hb1⟩
  have HN := hid (new_any m w1)
  have HB1 := hid hb1
  clear hb1 HWk
  go_wp2_with fail
  refine HN.out.mono ?_
  intro e w2 hq
  by_cases hm : m < 1 ∨ 8 < m
  case pos =>
    obtain ⟨rfl, rfl⟩ := hq.1 hm
    clear hq HN
    by_cases hm1 : m < 1
    · clear hm
      go_wp2
      exact bodyPost_ret (v := .bool true) (by simp [results, Try.results5, go_sem]) rfl ⟨rfl, HB1.out⟩
    · have hm2 : 8 < m := hm.resolve_left hm1
      clear hm
      go_wp2
      exact bodyPost_ret (v := .bool true) (by simp [results, Try.results5, go_sem]) rfl ⟨rfl, HB1.out⟩
  case neg =>
    obtain ⟨rfl, hs2, hb2, hE⟩ := hq.2 hm
    obtain ⟨b, hb⟩ : ∃ b, b = w1.heap.size := ⟨_, rfl⟩
    obtain ⟨V, hV⟩ : ∃ V, V = w2.alloc (.cells #[.slice none 0 0, .int .i64 0, .int .i64 0, .int .i64 0, .int .i64 0] 45) := ⟨_, rfl⟩
    have hBV : Below w2.heap.size w2 V := by rw [hV]; exact (Below.refl _ _).alloc (Nat.le_refl _) _
    have hkx : Box V w2.heap.size #[.slice none 0 0, .int .i64 0, .int .i64 0, .int .i64 0, .int .i64 0] 45 := by rw [hV]; exact Box.new _ _ _
    have hws := HB1.out.size
    have H0 : Hid (HT W V b w2.heap.size m 0) := by
      refine ⟨fun k => k < W.heap.size ∨ k = w2.heap.size, [], ⟨none, 0, 0, fun _ => ⟨0, 0, ⟨none, 0, 0, fun _ => 0⟩⟩⟩, 0, 0, 0, 0, ⟨?_, ⟨hkx, .inr rfl, RowX.nil _, fun g hg => (by cases hg), fun j hj => absurd hj (by simp)⟩, ?_, fun k hk => .inl hk, ?_⟩, by omega, fun g hg => (by cases hg), ⟨rfl, fun s hs => (by cases hs), fun x hx => (by cases hx)⟩, by simp⟩
      · rw [hb]
        refine (hE (fun k => k < W.heap.size) (fun k hk => by omega)).below hBV fun k hk hz => hz.resolve_right (by omega)
      · rintro k (hk | rfl)
        · have := hBV.size; omega
        · exact hkx.lt
      · exact (HB1.out.trans (hb2.mono hws)).trans (hBV.mono (by omega))
    rw [← hb]
    obtain ⟨kb, hkb⟩ : ∃ kb, kb = w2.heap.size := ⟨_, rfl⟩
    rw [← hkb] at H0
    have HV := hid hV
    have HKe := hid hkb
    clear hq hs2 hb2 hE hb hV hBV hkx hm HN hkb
    go_upto_region 7 with fail
    rw [← HV.out, ← HKe.out]
    go_wp2_with fail
    go_loopw [8] (fun x wr => ∃ i : Nat, i ≤ sc.n ∧ x = .int .i64 (i : Int) ∧ HT W wr b kb m i) (fun x _ => sc.n - (intOf x).toNat)
    case atStart => exact ⟨0, Nat.zero_le _, rfl, H0.out⟩
    case round =>
      obtain ⟨i, hi, rfl, hT⟩ := hrel
      have HTr := hid hT
      clear hT H0
      by_cases hlt : i < sc.n
      · have hlt' : (i : Int) < (sc.n : Int) := by omega
        obtain ⟨sb, so, hsp, _, hsl, hsat⟩ := HI.out.at_ (by omega)
        have hbl := HTr.out.bel
        obtain ⟨o, ho⟩ : ∃ o, o = sc.item i := ⟨_, rfl⟩
        have hce : ∀ wx, Below W.heap.size W wx → ∀ q u, (elOU.cells o)[q]? = some u → wx.cell? ⟨sb, so + i * 5 + q, none⟩ = some u := fun wx hx q u hu => (World.cell?_of_block (a := ⟨sb, so + i * 5 + q, none⟩) (hx.block sb hsl)).trans (hsat i hlt q u (by rw [← ho]; exact hu))
        have c0 : wr.cell? ⟨sb, so + i * 5, none⟩ = some (.int .i64 o.kind) := hce wr hbl 0 _ rfl
        have c1 := hce wr hbl 1 _ rfl
        have c2 := hce wr hbl 2 _ rfl
        have c3 := hce wr hbl 3 _ rfl
        have c4 := hce wr hbl 4 _ rfl
        have hoI : elOU.In W (fun b => b < W.heap.size) o := by rw [ho]; exact HI.out.each i hlt
        have HSt := hid (step_any o W wr b kb m i HTr.out (by omega) hoI.1 hoI.2)
        have HCe := hid hce
        have hsl2 : sb < wr.heap.size := Nat.lt_of_lt_of_le hsl hbl.size
        rw [hsp]
        clear hsat ho hce hoI hbl
        go_wp2_with fail
        refine HSt.out.mono ?_
        rintro e w2' ⟨rfl, hT2⟩
        have HT2 := hid hT2
        have d0 : w2'.cell? ⟨sb, so + i * 5, none⟩ = some (.int .i64 o.kind) := HCe.out w2' hT2.bel 0 _ rfl
        have hsl3 : sb < w2'.heap.size := Nat.lt_of_lt_of_le hsl hT2.bel.size
        clear hT2 HSt c0 c1 c2 c3 c4
        by_cases h6 : o.kind = 6
        case neg =>
          have h6' : (o.kind == 6) = false := by simpa using h6
          clear h6
          go_wp2
          all_goals exact ⟨⟨i + 1, by omega, by go_num, HT2.out⟩, by simp [intOf]; omega⟩
        case pos =>
          rw [h6] at d0
          clear h6
          obtain ⟨Z, A, l, cp, dl, dr, fl, hs, hkb, hrw, hon, hbd⟩ := HT2.out
          have HS0 := hid hs
          have HKb := hid hkb
          have HRw := hid hrw
          have HOn := hid hon
          have HBd := hid hbd
          have hA256 : A.length ≤ 256 := hs.et.len
          have HLs := hid (list_any w2' Z b m A hs.et)
          clear hs hkb hrw hon hbd
          go_wp2_with fail
          refine HLs.out.mono ?_
          rintro e w3 ⟨g, U, rfl, hU, hLs, hb3⟩
          have hs3 := HS0.out.below hb3
          obtain ⟨Z3, hZ3⟩ : ∃ Z3 : Nat → Prop, Z3 = fun k => Z k ∨ Bt w2'.heap.size w3.heap.size k := ⟨_, rfl⟩
          rw [← hZ3] at hs3
          obtain ⟨n, hn⟩ : ∃ n, n = A.length := ⟨_, rfl⟩
          rw [← hn] at hA256 ⊢
          have hsum := HOn.out.sum
          rw [fas_len, ← hn] at hsum
          have hbd := HBd.out
          have hsI : (l.n : Int) + (cp : Int) = (dl : Int) + (dr : Int) + (n : Int) := by omega
          have hn1 : ¬ (256 : Int) < (n : Int) := by omega
          have hn2 : (n : Int) ≤ 256 := by omega
          have k0 := hs3.bk.bx.cell 0
          have k1 := hs3.bk.bx.cell 1
          have k2 := hs3.bk.bx.cell 2
          have k3 := hs3.bk.bx.cell 3
          have kl := hs3.bk.bx.lt
          simp at k0 k1 k2 k3
          have hw1 : IntKind.i64.wrap ((dl : Int) + (dr : Int)) = (dl : Int) + (dr : Int) := by rw [IntKind.wrap_i64]; omega
          have hw2 : IntKind.i64.wrap ((dl : Int) + (dr : Int) + (n : Int)) = (dl : Int) + (dr : Int) + (n : Int) := by rw [IntKind.wrap_i64]; omega
          have HS3 := hid hs3
          have HU := hid hU
          have HLi := hid hLs
          have HNn := hid hn
          have HB3 := hid hb3
          clear hs3 hZ3 hsum hbd hU hLs hb3 hn HLs
          go_upto_region 14 with fail
          refine wp_region_calmE 30 (fun wx => Below w3.heap.size w3 wx) [(0, true), (1, true), (2, true), (3, true), (4, true), (5, true), (6, true), (7, false), (8, true), (9, true), (10, true), (11, true), (12, false), (13, true), (14, true), (15, true), (16, true), (17, false), (18, true), (19, true), (20, true), (21, false), (22, true), (23, true), (24, true), (25, true), (26, true), (27, true)] .done (by kernel_rfl) (by kernel_rfl) (Below.refl _ _).drew ?_
          refine wpPre_e rfl rfl (fun K1 hK1 => ?_)
          apply Exists.intro
          refine And.intro (fun wx hx => ?_) ?_
          · go_simp
            try rfl
          go_simp
          refine hK1 _ ?_
          clear hK1 K1
          refine wpPre_e rfl rfl (fun K1 hK1 => ?_)
          apply Exists.intro
          refine And.intro (fun wx hx => ?_) ?_
          · go_simp
            try rfl
          go_simp
          refine hK1 _ ?_
          clear hK1 K1
          refine wpPre_e rfl rfl (fun K1 hK1 => ?_)
          apply Exists.intro
          refine And.intro (fun wx hx => ?_) ?_
          · go_simp
            try rfl
          go_simp
          refine hK1 _ ?_
          clear hK1 K1
          refine wpPre_e rfl rfl (fun K1 hK1 => ?_)
          apply Exists.intro
          refine And.intro (fun wx hx => ?_) ?_
          · go_simp
            try rfl
          go_simp
          refine hK1 _ ?_
          clear hK1 K1
          refine wpPre_i rfl (fun K1 hK1 => ?_)
          rw [if_pos (by go_simp)]
          apply Exists.intro
          refine And.intro (fun wx hx => ?_) ?_
          · go_simp
            try rfl
          go_simp
          refine hK1 _ ?_
          clear hK1 K1
          refine wpPre_i rfl (fun K1 hK1 => ?_)
          rw [if_pos (by go_simp)]
          apply Exists.intro
          refine And.intro (fun wx hx => ?_) ?_
          · go_simp
            try rfl
          go_simp
          refine hK1 _ ?_
          clear hK1 K1
          refine wpPre_i rfl (fun K1 hK1 => ?_)
          rw [if_pos (by go_simp)]
          apply Exists.intro
          refine And.intro (fun wx hx => ?_) ?_
          · go_simp
            try rfl
          go_simp
          refine hK1 _ ?_
          clear hK1 K1
          refine wpPre_i rfl (fun K1 hK1 => ?_)
          rw [if_pos (by go_simp)]
          apply Exists.intro
          refine And.intro (fun wx hx => ?_) ?_
          · have e0 := below_fact hx rfl k0
            have e1 := below_fact hx rfl k1
            have e2 := below_fact hx rfl k2
            have e3 := below_fact hx rfl k3
            go_simp
            try rfl
          go_simp
          refine hK1 _ ?_
          clear hK1 K1
          refine wpPre_i rfl (fun K1 hK1 => ?_)
          rw [if_pos (by go_simp)]
          apply Exists.intro
          refine And.intro (fun wx hx => ?_) ?_
          · go_simp
            try rfl
          go_simp
          refine hK1 _ ?_
          clear hK1 K1
          refine wpPre_i rfl (fun K1 hK1 => ?_)
          rw [if_pos (by go_simp)]
          apply Exists.intro
          refine And.intro (fun wx hx => ?_) ?_
          · go_simp
            try rfl
          go_simp
          refine hK1 _ ?_
          clear hK1 K1
          refine wpPre_i rfl (fun K1 hK1 => ?_)
          rw [if_pos (by go_simp)]
          apply Exists.intro
          refine And.intro (fun wx hx => ?_) ?_
          · go_simp
            try rfl
          go_simp
          refine hK1 _ ?_
          clear hK1 K1
          refine wpPre_i rfl (fun K1 hK1 => ?_)
          rw [if_pos (by go_simp)]
          apply Exists.intro
          refine And.intro (fun wx hx => ?_) ?_
          · go_simp
            try rfl
          go_simp
          refine hK1 _ ?_
          clear hK1 K1
          refine wpPre_i rfl (fun K1 hK1 => ?_)
          rw [if_pos (by go_simp)]
          apply Exists.intro
          refine And.intro (fun wx hx => ?_) ?_
          · have e0 := below_fact hx rfl k0
            have e1 := below_fact hx rfl k1
            have e2 := below_fact hx rfl k2
            have e3 := below_fact hx rfl k3
            go_simp
            try rfl
          go_simp
          refine hK1 _ ?_
          clear hK1 K1
          refine wpPre_i rfl (fun K1 hK1 => ?_)
          rw [if_pos (by go_simp)]
          apply Exists.intro
          refine And.intro (fun wx hx => ?_) ?_
          · go_simp
            try rfl
          go_simp
          refine hK1 _ ?_
          clear hK1 K1
          refine wpPre_i rfl (fun K1 hK1 => ?_)
          rw [if_pos (by go_simp)]
          apply Exists.intro
          refine And.intro (fun wx hx => ?_) ?_
          · go_simp
            try rfl
          go_simp
          refine hK1 _ ?_
          clear hK1 K1
          refine wpPre_i rfl (fun K1 hK1 => ?_)
          rw [if_pos (by go_simp)]
          apply Exists.intro
          refine And.intro (fun wx hx => ?_) ?_
          · go_simp
            try rfl
          go_simp
          refine hK1 _ ?_
          clear hK1 K1
          refine wpPre_i rfl (fun K1 hK1 => ?_)
          rw [if_pos (by go_simp)]
          apply Exists.intro
          refine And.intro (fun wx hx => ?_) ?_
          · go_simp
            try rfl
          go_simp
          refine hK1 _ ?_
          clear hK1 K1
          refine wpPre_i rfl (fun K1 hK1 => ?_)
          rw [if_pos (by go_simp)]
          apply Exists.intro
          refine And.intro (fun wx hx => ?_) ?_
          · have e0 := below_fact hx rfl k0
            have e1 := below_fact hx rfl k1
            have e2 := below_fact hx rfl k2
            have e3 := below_fact hx rfl k3
            go_simp
            try rfl
          go_simp
          refine hK1 _ ?_
          clear hK1 K1
          refine wpPre_i rfl (fun K1 hK1 => ?_)
          rw [if_pos (by go_simp)]
          apply Exists.intro
          refine And.intro (fun wx hx => ?_) ?_
          · go_simp
            try rfl
          go_simp
          refine hK1 _ ?_
          clear hK1 K1
          refine wpPre_i rfl (fun K1 hK1 => ?_)
          rw [if_pos (by go_simp)]
          apply Exists.intro
          refine And.intro (fun wx hx => ?_) ?_
          · go_simp
            try rfl
          go_simp
          refine hK1 _ ?_
          clear hK1 K1
          refine wpPre_i rfl (fun K1 hK1 => ?_)
          rw [if_pos (by go_simp)]
          apply Exists.intro
          refine And.intro (fun wx hx => ?_) ?_
          · go_simp
            try rfl
          go_simp
          refine hK1 _ ?_
          clear hK1 K1
          refine wpPre_i rfl (fun K1 hK1 => ?_)
          rw [if_pos (by go_simp)]
          apply Exists.intro
          refine And.intro (fun wx hx => ?_) ?_
          · have e0 := below_fact hx rfl k0
            have e1 := below_fact hx rfl k1
            have e2 := below_fact hx rfl k2
            have e3 := below_fact hx rfl k3
            go_simp
            try rfl
          go_simp
          refine hK1 _ ?_
          clear hK1 K1
          refine wpPre_i rfl (fun K1 hK1 => ?_)
          rw [if_pos (by go_simp)]
          apply Exists.intro
          refine And.intro (fun wx hx => ?_) ?_
          · go_simp
            try rfl
          go_simp
          refine hK1 _ ?_
          clear hK1 K1
          refine wpPre_i rfl (fun K1 hK1 => ?_)
          rw [if_pos (by go_simp)]
          apply Exists.intro
          refine And.intro (fun wx hx => ?_) ?_
          · go_simp
            try rfl
          go_simp
          refine hK1 _ ?_
          clear hK1 K1
          refine wpPre_i rfl (fun K1 hK1 => ?_)
          rw [if_pos (by go_simp)]
          apply Exists.intro
          refine And.intro (fun wx hx => ?_) ?_
          · go_simp
            try rfl
          go_simp
          refine hK1 _ ?_
          clear hK1 K1
          refine wpPre_i rfl (fun K1 hK1 => ?_)
          rw [if_pos (by go_simp)]
          apply Exists.intro
          refine And.intro (fun wx hx => ?_) ?_
          · go_simp
            try rfl
          go_simp
          refine hK1 _ ?_
          clear hK1 K1
          refine wpPre_i rfl (fun K1 hK1 => ?_)
          rw [if_pos (by go_simp)]
          apply Exists.intro
          refine And.intro (fun wx hx => ?_) ?_
          · go_simp
            try rfl
          go_simp
          refine hK1 _ ?_
          clear hK1 K1
          refine wpPre_e rfl rfl (fun K1 hK1 => ?_)
          apply Exists.intro
          refine And.intro (fun wx hx => ?_) ?_
          · go_simp
            try rfl
          go_simp
          refine hK1 _ ?_
          clear hK1 K1
          refine wpPre_nil ?_
          refine wpTr_done ?_
          clear hw1 hw2 k0 k1 k2 k3
          obtain ⟨X, hX⟩ : ∃ X, X = w3.drew := ⟨_, rfl⟩
          rw [← hX]
          have HX3 : Hid (Below w3.heap.size w3 X) := by show Below _ _ _; rw [hX]; exact (Below.refl _ _).drew
          clear hX
          go_wp2_with fail
          go_loopw [10] (fun x wv => ∃ q : Nat, q ≤ n ∧ x = .int .i64 (q : Int) ∧ Below w3.heap.size w3 wv) (fun x _ => n - (intOf x).toNat)
          case atStart => exact ⟨0, Nat.zero_le _, rfl, HX3.out⟩
          case round =>
            obtain ⟨q, hq, rfl, hbv⟩ := hrel
            have HBv := hid hbv
            clear hbv
            by_cases hql : q < n
            · have hql' : (q : Int) < (n : Int) := by omega
              obtain ⟨u, hu⟩ : ∃ u, U[q]? = some u := ⟨_, List.getElem?_eq_getElem (by
                have h1 : (U.map FL.a).length = A.length := by rw [HU.out]
                rw [List.length_map] at h1
                rw [h1, ← HNn.out]; exact hql)⟩
              have hua : u.a ∈ A := by rw [← HU.out]; exact List.mem_map_of_mem (List.mem_of_getElem? hu)
              obtain ⟨f0, f1, f2⟩ := flat_cell HLi.out hu
              have hgl := HLi.out.bx.lt
              have g0 := (World.cell?_of_block (a := ⟨g, q * 3, none⟩) (HBv.out.block g hgl)).trans f0
              have g1 := (World.cell?_of_block (a := ⟨g, q * 3 + 1, none⟩) (HBv.out.block g hgl)).trans f1
              have g2 := (World.cell?_of_block (a := ⟨g, q * 3 + 2, none⟩) (HBv.out.block g hgl)).trans f2
              have hgl2 : g < wr.heap.size := Nat.lt_of_lt_of_le hgl HBv.out.size
              have hdx := (HLi.out.dat u (List.mem_of_getElem? hu)).below HBv.out
              have hsr : Src wr (some ⟨u.d, 0, none⟩) u.zs.length u.zs.length 1 (u.zs.map (.int .u8)) := by
                refine .inr ⟨_, rfl, by simp, fun j v hv => ?_⟩
                rw [Go.WideShapes.add_plain, hdx.cell, ← hv]
                simp [bys]
              have HKn := hid (known_any wr Z3 kb l cp dl dr fl (HS3.out.bk.below HBv.out) (by have := HBd.out; omega) u.fr u.tt _ _ u.zs hsr (HS0.out.et.ok _ hua) HOn.out.ok (HOn.out.kn _ hua))
              clear hu hua f0 f1 f2 hdx hsr
              go_wp2_with fail
              refine HKn.out.mono ?_
              rintro e w6 ⟨rfl, hb6⟩
              have HB6 : Hid (Below w3.heap.size w3 w6) := HBv.out.trans (hb6.mono HBv.out.size)
              clear hb6 HKn g0 g1 g2
              go_wp2
              go_roundw
              case rel => exact ⟨q + 1, by omega, by go_num, HB6.out⟩
              case measure => simp [intOf]; omega
            · have hql' : ¬ (q : Int) < (n : Int) := by omega
              go_wp2
              go_roundw
              case rel => exact ⟨i + 1, by omega, by go_num, ⟨_, A, l, cp, dl, dr, fl, HS3.out.below HBv.out, HKb.out, HRw.out, HOn.out, HBd.out⟩⟩
              case measure => simp [intOf]; omega
      · have hlt' : ¬ (i : Int) < (sc.n : Int) := by omega
        obtain ⟨Z, A, l, cp, dl, dr, fl, hs, hkb, hrw, hon, hbd⟩ := HTr.out
        have HS0 := hid hs
        have HKb := hid hkb
        have HRw := hid hrw
        have HOn := hid hon
        have HBd := hid hbd
        have hA256 : A.length ≤ 256 := hs.et.len
        have HLs := hid (list_any wr Z b m A hs.et)
        clear hs hkb hrw hon hbd
        go_wp2_with fail
        refine HLs.out.mono ?_
        rintro e w3 ⟨g, U, rfl, hU, hLs, hb3⟩
        have hs3 := HS0.out.below hb3
        obtain ⟨Z3, hZ3⟩ : ∃ Z3 : Nat → Prop, Z3 = fun k => Z k ∨ Bt wr.heap.size w3.heap.size k := ⟨_, rfl⟩
        rw [← hZ3] at hs3
        obtain ⟨n, hn⟩ : ∃ n, n = A.length := ⟨_, rfl⟩
        rw [← hn] at hA256 ⊢
        have hsum := HOn.out.sum
        rw [fas_len, ← hn] at hsum
        have hbd := HBd.out
        have hsI : (l.n : Int) + (cp : Int) = (dl : Int) + (dr : Int) + (n : Int) := by omega
        have hn1 : ¬ (256 : Int) < (n : Int) := by omega
        have hn2 : (n : Int) ≤ 256 := by omega
        have k0 := hs3.bk.bx.cell 0
        have k1 := hs3.bk.bx.cell 1
        have k2 := hs3.bk.bx.cell 2
        have k3 := hs3.bk.bx.cell 3
        have kl := hs3.bk.bx.lt
        simp at k0 k1 k2 k3
        have hw1 : IntKind.i64.wrap ((dl : Int) + (dr : Int)) = (dl : Int) + (dr : Int) := by rw [IntKind.wrap_i64]; omega
        have hw2 : IntKind.i64.wrap ((dl : Int) + (dr : Int) + (n : Int)) = (dl : Int) + (dr : Int) + (n : Int) := by rw [IntKind.wrap_i64]; omega
        have HS3 := hid hs3
        have HU := hid hU
        have HLi := hid hLs
        have HNn := hid hn
        have HB3 := hid hb3
        clear hs3 hZ3 hsum hbd hU hLs hb3 hn HLs
        go_upto_region 22 with fail
        refine wp_region_calmE 30 (fun wx => Below w3.heap.size w3 wx) [(0, true), (1, true), (2, true), (3, true), (4, true), (5, true), (6, true), (7, true), (8, true), (9, true), (10, true), (11, false), (12, true), (13, true), (14, true), (15, true), (16, false), (17, true), (18, true), (19, true), (20, true), (21, false), (22, true), (23, true), (24, true), (25, false), (26, true), (27, true), (28, true), (29, true), (30, true), (31, true), (32, true)] .done (by kernel_rfl) (by kernel_rfl) (Below.refl _ _).drew ?_
        refine wpPre_e rfl rfl (fun K1 hK1 => ?_)
        apply Exists.intro
        refine And.intro (fun wx hx => ?_) ?_
        · go_simp
          try rfl
        go_simp
        refine hK1 _ ?_
        clear hK1 K1
        refine wpPre_e rfl rfl (fun K1 hK1 => ?_)
        apply Exists.intro
        refine And.intro (fun wx hx => ?_) ?_
        · go_simp
          try rfl
        go_simp
        refine hK1 _ ?_
        clear hK1 K1
        refine wpPre_e rfl rfl (fun K1 hK1 => ?_)
        apply Exists.intro
        refine And.intro (fun wx hx => ?_) ?_
        · go_simp
          try rfl
        go_simp
        refine hK1 _ ?_
        clear hK1 K1
        refine wpPre_i rfl (fun K1 hK1 => ?_)
        rw [if_pos (by go_simp)]
        apply Exists.intro
        refine And.intro (fun wx hx => ?_) ?_
        · go_simp
          try rfl
        go_simp
        refine hK1 _ ?_
        clear hK1 K1
        refine wpPre_i rfl (fun K1 hK1 => ?_)
        rw [if_pos (by go_simp)]
        apply Exists.intro
        refine And.intro (fun wx hx => ?_) ?_
        · go_simp
          try rfl
        go_simp
        refine hK1 _ ?_
        clear hK1 K1
        refine wpPre_i rfl (fun K1 hK1 => ?_)
        rw [if_pos (by go_simp)]
        apply Exists.intro
        refine And.intro (fun wx hx => ?_) ?_
        · go_simp
          try rfl
        go_simp
        refine hK1 _ ?_
        clear hK1 K1
        refine wpPre_e rfl rfl (fun K1 hK1 => ?_)
        apply Exists.intro
        refine And.intro (fun wx hx => ?_) ?_
        · go_simp
          try rfl
        go_simp
        refine hK1 _ ?_
        clear hK1 K1
        refine wpPre_e rfl rfl (fun K1 hK1 => ?_)
        apply Exists.intro
        refine And.intro (fun wx hx => ?_) ?_
        · go_simp
          try rfl
        go_simp
        refine hK1 _ ?_
        clear hK1 K1
        refine wpPre_i rfl (fun K1 hK1 => ?_)
        rw [if_pos (by go_simp)]
        apply Exists.intro
        refine And.intro (fun wx hx => ?_) ?_
        · go_simp
          try rfl
        go_simp
        refine hK1 _ ?_
        clear hK1 K1
        refine wpPre_i rfl (fun K1 hK1 => ?_)
        rw [if_pos (by go_simp)]
        apply Exists.intro
        refine And.intro (fun wx hx => ?_) ?_
        · go_simp
          try rfl
        go_simp
        refine hK1 _ ?_
        clear hK1 K1
        refine wpPre_i rfl (fun K1 hK1 => ?_)
        rw [if_pos (by go_simp)]
        apply Exists.intro
        refine And.intro (fun wx hx => ?_) ?_
        · go_simp
          try rfl
        go_simp
        refine hK1 _ ?_
        clear hK1 K1
        refine wpPre_i rfl (fun K1 hK1 => ?_)
        rw [if_pos (by go_simp)]
        apply Exists.intro
        refine And.intro (fun wx hx => ?_) ?_
        · have e0 := below_fact hx rfl k0
          have e1 := below_fact hx rfl k1
          have e2 := below_fact hx rfl k2
          have e3 := below_fact hx rfl k3
          go_simp
          try rfl
        go_simp
        refine hK1 _ ?_
        clear hK1 K1
        refine wpPre_i rfl (fun K1 hK1 => ?_)
        rw [if_pos (by go_simp)]
        apply Exists.intro
        refine And.intro (fun wx hx => ?_) ?_
        · go_simp
          try rfl
        go_simp
        refine hK1 _ ?_
        clear hK1 K1
        refine wpPre_i rfl (fun K1 hK1 => ?_)
        rw [if_pos (by go_simp)]
        apply Exists.intro
        refine And.intro (fun wx hx => ?_) ?_
        · go_simp
          try rfl
        go_simp
        refine hK1 _ ?_
        clear hK1 K1
        refine wpPre_i rfl (fun K1 hK1 => ?_)
        rw [if_pos (by go_simp)]
        apply Exists.intro
        refine And.intro (fun wx hx => ?_) ?_
        · go_simp
          try rfl
        go_simp
        refine hK1 _ ?_
        clear hK1 K1
        refine wpPre_i rfl (fun K1 hK1 => ?_)
        rw [if_pos (by go_simp)]
        apply Exists.intro
        refine And.intro (fun wx hx => ?_) ?_
        · go_simp
          try rfl
        go_simp
        refine hK1 _ ?_
        clear hK1 K1
        refine wpPre_i rfl (fun K1 hK1 => ?_)
        rw [if_pos (by go_simp)]
        apply Exists.intro
        refine And.intro (fun wx hx => ?_) ?_
        · have e0 := below_fact hx rfl k0
          have e1 := below_fact hx rfl k1
          have e2 := below_fact hx rfl k2
          have e3 := below_fact hx rfl k3
          go_simp
          try rfl
        go_simp
        refine hK1 _ ?_
        clear hK1 K1
        refine wpPre_i rfl (fun K1 hK1 => ?_)
        rw [if_pos (by go_simp)]
        apply Exists.intro
        refine And.intro (fun wx hx => ?_) ?_
        · go_simp
          try rfl
        go_simp
        refine hK1 _ ?_
        clear hK1 K1
        refine wpPre_i rfl (fun K1 hK1 => ?_)
        rw [if_pos (by go_simp)]
        apply Exists.intro
        refine And.intro (fun wx hx => ?_) ?_
        · go_simp
          try rfl
        go_simp
        refine hK1 _ ?_
        clear hK1 K1
        refine wpPre_i rfl (fun K1 hK1 => ?_)
        rw [if_pos (by go_simp)]
        apply Exists.intro
        refine And.intro (fun wx hx => ?_) ?_
        · go_simp
          try rfl
        go_simp
        refine hK1 _ ?_
        clear hK1 K1
        refine wpPre_i rfl (fun K1 hK1 => ?_)
        rw [if_pos (by go_simp)]
        apply Exists.intro
        refine And.intro (fun wx hx => ?_) ?_
        · go_simp
          try rfl
        go_simp
        refine hK1 _ ?_
        clear hK1 K1
        refine wpPre_i rfl (fun K1 hK1 => ?_)
        rw [if_pos (by go_simp)]
        apply Exists.intro
        refine And.intro (fun wx hx => ?_) ?_
        · have e0 := below_fact hx rfl k0
          have e1 := below_fact hx rfl k1
          have e2 := below_fact hx rfl k2
          have e3 := below_fact hx rfl k3
          go_simp
          try rfl
        go_simp
        refine hK1 _ ?_
        clear hK1 K1
        refine wpPre_i rfl (fun K1 hK1 => ?_)
        rw [if_pos (by go_simp)]
        apply Exists.intro
        refine And.intro (fun wx hx => ?_) ?_
        · go_simp
          try rfl
        go_simp
        refine hK1 _ ?_
        clear hK1 K1
        refine wpPre_i rfl (fun K1 hK1 => ?_)
        rw [if_pos (by go_simp)]
        apply Exists.intro
        refine And.intro (fun wx hx => ?_) ?_
        · go_simp
          try rfl
        go_simp
        refine hK1 _ ?_
        clear hK1 K1
        refine wpPre_i rfl (fun K1 hK1 => ?_)
        rw [if_pos (by go_simp)]
        apply Exists.intro
        refine And.intro (fun wx hx => ?_) ?_
        · go_simp
          try rfl
        go_simp
        refine hK1 _ ?_
        clear hK1 K1
        refine wpPre_i rfl (fun K1 hK1 => ?_)
        rw [if_pos (by go_simp)]
        apply Exists.intro
        refine And.intro (fun wx hx => ?_) ?_
        · have e0 := below_fact hx rfl k0
          have e1 := below_fact hx rfl k1
          have e2 := below_fact hx rfl k2
          have e3 := below_fact hx rfl k3
          go_simp
          try rfl
        go_simp
        refine hK1 _ ?_
        clear hK1 K1
        refine wpPre_i rfl (fun K1 hK1 => ?_)
        rw [if_pos (by go_simp)]
        apply Exists.intro
        refine And.intro (fun wx hx => ?_) ?_
        · go_simp
          try rfl
        go_simp
        refine hK1 _ ?_
        clear hK1 K1
        refine wpPre_i rfl (fun K1 hK1 => ?_)
        rw [if_pos (by go_simp)]
        apply Exists.intro
        refine And.intro (fun wx hx => ?_) ?_
        · go_simp
          try rfl
        go_simp
        refine hK1 _ ?_
        clear hK1 K1
        refine wpPre_i rfl (fun K1 hK1 => ?_)
        rw [if_pos (by go_simp)]
        apply Exists.intro
        refine And.intro (fun wx hx => ?_) ?_
        · go_simp
          try rfl
        go_simp
        refine hK1 _ ?_
        clear hK1 K1
        refine wpPre_i rfl (fun K1 hK1 => ?_)
        rw [if_pos (by go_simp)]
        apply Exists.intro
        refine And.intro (fun wx hx => ?_) ?_
        · go_simp
          try rfl
        go_simp
        refine hK1 _ ?_
        clear hK1 K1
        refine wpPre_i rfl (fun K1 hK1 => ?_)
        rw [if_pos (by go_simp)]
        apply Exists.intro
        refine And.intro (fun wx hx => ?_) ?_
        · go_simp
          try rfl
        go_simp
        refine hK1 _ ?_
        clear hK1 K1
        refine wpPre_e rfl rfl (fun K1 hK1 => ?_)
        apply Exists.intro
        refine And.intro (fun wx hx => ?_) ?_
        · go_simp
          try rfl
        go_simp
        refine hK1 _ ?_
        clear hK1 K1
        refine wpPre_e rfl rfl (fun K1 hK1 => ?_)
        apply Exists.intro
        refine And.intro (fun wx hx => ?_) ?_
        · go_simp
          try rfl
        go_simp
        refine hK1 _ ?_
        clear hK1 K1
        refine wpPre_nil ?_
        refine wpTr_done ?_
        go_wp2
        exact bodyPost_ret (v := .bool true) (by simp [results, Try.results5, go_sem]) rfl ⟨rfl, HS3.out.bel.drew⟩
end Go.Proofs.Ytneomdiabcpemaa
