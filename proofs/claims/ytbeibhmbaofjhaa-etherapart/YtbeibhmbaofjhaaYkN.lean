import Derived.Test.YtbeibhmbaofjhaaPack27
namespace Go.Proofs.Ytbeibhmbaofjhaa
open Go.RowKit
set_option maxRecDepth 8000
theorem copy0 {B : Nat} {W w : World} {b : Nat} {A : List FA} (h : En B W w b 3 A) (hA : A.length ≤ 40) :
    Calls Try.prog 6 #[.pointer (some ⟨b, 0, none⟩), .int .i64 0] w fun e w' => ∃ (x : Int) (A' : List FA), e = .returned (.int .i64 x) ∧ En B W w' b 3 A' ∧ A'.length ≤ 41 ∧ ((x = 0 ∧ 0 < A'.length) ∨ (x = 224 ∧ A' = [])) := by
  by_cases h0 : 0 < A.length
  · have hx : copyE 0 A.length = 0 := by unfold copyE; rw [if_neg (by omega), if_neg (by omega)]
    refine (copy_en h 0 0 hx).mono fun e w' hq => ?_
    obtain ⟨he, h1, _⟩ := hq
    obtain ⟨a, _, hE⟩ := h1 rfl
    exact ⟨0, _, he, hE, by simp; omega, .inl ⟨rfl, by simp⟩⟩
  · have hx : copyE 0 A.length = 224 := by unfold copyE; rw [if_pos (by omega)]
    refine (copy_en h 0 224 hx).mono fun e w' hq => ?_
    obtain ⟨he, _, h1⟩ := hq
    obtain rfl : A = [] := List.eq_nil_of_length_eq_zero (by omega)
    exact ⟨224, [], he, h1 (by decide), by simp, .inr ⟨rfl, rfl⟩⟩
set_option maxHeartbeats 16000000 in
/-- EtherApart -/
theorem etherApart_walk (data : LT BY) (ord : LT Int) (W : World) (hD : LT.In elBy W (fun b => b < W.heap.size) data) (hO : LT.In elIn W (fun b => b < W.heap.size) ord) :
    Calls Try.prog 3 #[.slice data.p data.n data.c, .slice ord.p ord.n ord.c] W fun e w' => e = .returned (.bool true) ∧ Below W.heap.size W w' := by
  obtain ⟨i0, Kd⟩ := kindFl
  have HWk := hid (works_any W)
  have HD := hid hD
  have HO := hid hO
  have hon := hO.nn
  clear hD hO Kd
  go_enter Try.func3, Try.ntmps3
  go_wp2_with fail
  refine HWk.out.mono ?_
  rintro e w1 ⟨rfl, hb1⟩
  have HB1 := hid hb1
  have HM := hid (made_any data w1 _ (HD.out.below hb1))
  clear hb1 HWk
  go_wp2_with fail
  refine HM.out.mono ?_
  rintro e w2 ⟨eb, rfl, hE2⟩
  have HE2 := hid hE2
  have HC := hid (copy0 hE2 (by have := mdA_len data (min data.n 40); omega))
  clear hE2 HM
  go_wp2_with fail
  refine HC.out.mono ?_
  rintro e w3 ⟨x, A, rfl, hE3, hA41, hx⟩
  have HE3 := hid hE3
  have HX := hid hx
  have HLi := hid (list_en hE3)
  clear hE3 HC hx HE2
  go_wp2_with fail
  refine HLi.out.mono ?_
  rintro e w4 ⟨g, U, rfl, hU, hL4, hb4, hE4⟩
  have HCp := hid (copies_any A (some ⟨g, 0, none⟩) A.length w4 (hL4.fls hU) (by omega) fun a ha => by have := ((et_facts HE3.out.et).2 a ha).1; omega)
  have HB4 := hid hb4
  clear hU hL4 hE4 HLi hb4
  go_wp2_with fail
  refine HCp.out.mono ?_
  rintro e w5 ⟨u, rfl, hu, hun, huk, hb5⟩
  have HB5 : Hid (Below w3.heap.size w3 w5) := HB4.out.trans (hb5.mono HB4.out.size)
  have HU : Hid (LT.In elY w5 (fun k => w3.heap.size ≤ k) u) := hu.mono fun k hk _ => Nat.le_trans HB4.out.size hk
  have HUk := hid huk
  have HUn := hid hun
  clear hu huk hb5 HCp HB4
  have HXb : Hid (((x == 0) = true ∧ decide (0 < u.n) = true) ∨ ((x == 0) = false ∧ decide (0 < u.n) = false)) := by
    rcases HX.out with ⟨rfl, h⟩ | ⟨rfl, rfl⟩
    · exact .inl ⟨rfl, by rw [HUn.out]; simpa using h⟩
    · exact .inr ⟨rfl, by rw [HUn.out]; simp⟩
  clear hun
  obtain ⟨V, hV⟩ : ∃ V, V = w5.alloc (.cells kz 48) := ⟨_, rfl⟩
  have HS : Hid (SS W V eb w5.heap.size A A u 0) := by
    refine SS.init HE3.out (HB1.out.size) ?_ HB5.out HU.out HUn.out HUk.out (w6 := V) ?_ ?_
    · exact HB1.out.trans (HE3.out.bel.mono HB1.out.size)
    · rw [hV]; exact (Below.refl _ _).alloc (Nat.le_refl _) _
    · rw [hV]; exact Box.new _ _ _
  have HV := hid hV
  obtain ⟨kb, hkb⟩ : ∃ kb, kb = w5.heap.size := ⟨_, rfl⟩
  rw [← hkb] at HS
  have HKb := hid hkb
  have HXX : Hid (0 ≤ data.n) := Nat.zero_le _
  clear hV hkb HD HE3 HB5 HU HUk HX hA41
  rcases HXb.out with ⟨hx1, hx2⟩ | ⟨hx1, hx2⟩
  · clear HXb
    go_upto_region 11 with (first | refine wpList_kb rfl rfl ?_ | refine wpList_kx rfl (.tmp 32) rfl rfl ?_)
    rw [← HV.out, ← HKb.out]
    clear HXX
    go_wp2_with fail
    go_loopw [7, 9] (fun v x wr => ∃ (i : Nat) (A : List FA) (u : LT YF), i ≤ 30 ∧ i ≤ ord.n ∧ x = .int .i64 (i : Int) ∧ v = .slice u.p u.n u.c ∧ SS W wr eb kb A A u (257 * i)) (fun _ x _ => 30 - (intOf x).toNat)
    case atStart => exact ⟨0, A, u, by omega, Nat.zero_le _, rfl, rfl, HS.out⟩
    case round =>
      obtain ⟨i, A, u, hi, hin, rfl, rfl, hS⟩ := hrel
      have HR := hid hS
      obtain ⟨n, hn⟩ : ∃ n, n = A.length := ⟨_, rfl⟩
      have hun : u.n = n := by rw [hn]; exact hS.wn
      have hn256 : n ≤ 256 := by rw [hn]; exact hS.facts.1
      have HFa := hid hS.facts.2
      have HNn := hid hn
      rw [hun]
      clear hS HS hn hun HUn hx1 hx2
      by_cases hlo : i < ord.n
      case neg =>
        obtain rfl : i = ord.n := by omega
        have hlo' : ¬ (ord.n : Int) < (ord.n : Int) := by omega
        clear hlo hin
        as_aux_lemma =>
        have HH := hid HR.out.hold
        go_wp2_with fail
        refine HH.out.mono ?_
        rintro e w1 ⟨rfl, hb1, hS1⟩
        have HS1 := hid hS1
        have HLi := hid hS1.list
        rw [← HNn.out] at HLi
        clear hS1 HH HR hb1
        go_wp2_with fail
        refine HLi.out.mono ?_
        rintro e w2 ⟨g2, U2, rfl, _, _, hS2, hf1, hf2, _⟩
        have HS2 := hid hS2
        have HSm := hid (sameFs_yes w2 A (some ⟨g2, 0, none⟩) u.p n u.c hf1 hf2 (by rw [← HNn.out]; omega))
        rw [← HNn.out] at HSm
        clear hS2 hf1 hf2 HLi HS1
        go_wp2_with fail
        refine HSm.out.mono ?_
        rintro e w3 ⟨rfl, hb3⟩
        have HB3 := hid (HS2.out.below hb3).bel
        clear hb3 HSm HS2
        go_wp2
        exact bodyPost_ret (v := .bool true) (by simp [results, Try.results3, go_sem]) rfl ⟨rfl, HB3.out⟩
      case pos =>
        have hlo' : (i : Int) < (ord.n : Int) := by omega
        by_cases hl30 : i < 30
        case neg =>
          obtain rfl : i = 30 := by omega
          have hl30' : ¬ ((30 : Nat) : Int) < 30 := by omega
          clear hl30
          as_aux_lemma =>
          have HH := hid HR.out.hold
          go_wp2_with fail
          refine HH.out.mono ?_
          rintro e w1 ⟨rfl, hb1, hS1⟩
          have HS1 := hid hS1
          have HLi := hid hS1.list
          rw [← HNn.out] at HLi
          clear hS1 HH HR hb1
          go_wp2_with fail
          refine HLi.out.mono ?_
          rintro e w2 ⟨g2, U2, rfl, _, _, hS2, hf1, hf2, _⟩
          have HS2 := hid hS2
          have HSm := hid (sameFs_yes w2 A (some ⟨g2, 0, none⟩) u.p n u.c hf1 hf2 (by rw [← HNn.out]; omega))
          rw [← HNn.out] at HSm
          clear hS2 hf1 hf2 HLi HS1
          go_wp2_with fail
          refine HSm.out.mono ?_
          rintro e w3 ⟨rfl, hb3⟩
          have HB3 := hid (HS2.out.below hb3).bel
          clear hb3 HSm HS2
          go_wp2
          exact bodyPost_ret (v := .bool true) (by simp [results, Try.results3, go_sem]) rfl ⟨rfl, HB3.out⟩
        case pos =>
          have hl30' : (i : Int) < 30 := by omega
          obtain ⟨ob_, oo, hop, _, hol, hoat⟩ := HO.out.at_ (by omega)
          have HOl := hid hol
          have HOa : Hid (W.cell? ⟨ob_, oo + i, none⟩ = some (.int .i64 (ord.item i))) := by have h := hoat i hlo 0 _ rfl; rw [show oo + i * elIn.size + 0 = oo + i from by show oo + i * 1 + 0 = oo + i; omega] at h; exact h
          rw [hop]
          clear hol hoat hop
          have HLi := hid HR.out.list
          rw [← HNn.out] at HLi
          go_wp2_with fail
          refine HLi.out.mono ?_
          rintro e w1 ⟨g, U, rfl, hU, hL, _, hf1, hf2, _⟩
          have HL := hid hL
          have HU := hid hU
          have HUl : Hid (U.length = n) := by show _ = _; rw [HNn.out, ← hU]; simp
          have HSm := hid (sameFs_yes w1 A (some ⟨g, 0, none⟩) u.p n u.c hf1 hf2 (by rw [← HNn.out]; omega))
          rw [← HNn.out] at HSm
          clear hL hU hf1 hf2 HLi HR
          go_wp2_with fail
          refine HSm.out.mono ?_
          rintro e w2 ⟨rfl, hb2⟩
          have HL2 := hid (HL.out.below hb2)
          have HH := hid HL2.out.hold
          clear hb2 HSm HL
          go_wp2_with fail
          refine HH.out.mono ?_
          rintro e w3 ⟨rfl, _, hL3⟩
          have HL3 := hid hL3
          clear hL3 HL2 HH
          go_wp2_with fail
          go_loopw [11] (fun x wr => ∃ j : Nat, j ≤ n ∧ x = .int .i64 (j : Int) ∧ LS W wr eb kb A A u (257 * i + j) g U j) (fun x _ => n - (intOf x).toNat)
          case atStart => exact ⟨0, Nat.zero_le _, rfl, by have h := HL3.out; rw [show (257 * (i : Int) + ((0 : Nat) : Int)) = 257 * (i : Int) by omega]; exact h⟩
          case round =>
            obtain ⟨j, hj, rfl, hL⟩ := hrel
            have HL := hid hL
            clear hL HL3
            by_cases hlt : j < n
            case pos =>
              as_aux_lemma =>
              have hlt' : (j : Int) < (n : Int) := by omega
              obtain ⟨x, hx⟩ : ∃ x, U[j]? = some x := ⟨_, List.getElem?_eq_getElem (by rw [HUl.out]; exact hlt)⟩
              have c2 := HL.out.cell hx
              have hgl := HL.out.spot.1
              obtain ⟨m, hm⟩ : ∃ m : Int, m = 3 * (i : Int) + 5 * (j : Int) := ⟨_, rfl⟩
              have HBy := hid (HL.out.bytes HU.out hx m (by omega) (by omega))
              rw [hm] at HBy
              clear hm hx
              go_wp2_with fail
              refine HBy.out.mono ?_
              rintro e w4 ⟨rfl, hL4⟩
              have HL4 := hid hL4
              have hgl4 := hL4.spot.1
              have hfz := hL4.spot.2 (j * 3 + 1)
              obtain ⟨v1, c1⟩ := hL4.cell1 (i := j) (by rw [HUl.out]; exact hlt)
              clear hL4 HBy c2 hgl
              go_wp2
              go_roundw
              case rel => exact ⟨j + 1, by omega, by go_num, by have h := HL4.out.store (i := j) (.int .i64 99) rfl; rw [show (257 * (i : Int) + ((j + 1 : Nat) : Int)) = 257 * (i : Int) + (j : Int) + 1 by omega]; exact h⟩
              case measure => simp [intOf]; omega
            case neg =>
              obtain rfl : n = j := by omega
              have hlt' : ¬ (n : Int) < (n : Int) := by omega
              clear hlt hj
              obtain ⟨V, hV⟩ : ∃ V, V = wr.alloc (.cells #[.int .i64 98, .int .i64 0, .slice none 0 0, .int .i64 98, .int .i64 0, .slice none 0 0] 53) := ⟨_, rfl⟩
              have hbV : Below wr.heap.size wr V := by rw [hV]; exact (Below.refl _ _).alloc (Nat.le_refl _) _
              have hXV : Box V wr.heap.size #[.int .i64 98, .int .i64 0, .slice none 0 0, .int .i64 98, .int .i64 0, .slice none 0 0] 53 := by rw [hV]; exact Box.new _ _ _
              have HLV := hid (HL.out.below hbV)
              obtain ⟨xs, hrx⟩ := HLV.out.rowx HU.out
              rw [← HNn.out] at hrx
              have HRx := hid hrx
              have HNw : Hid (∀ (q : Nat) v, [Value.int .i64 98, .int .i64 0, .slice none 0 0, .int .i64 98, .int .i64 0, .slice none 0 0][q]? = some v → V.cell? ((⟨wr.heap.size, 0, none⟩ : Addr).add q) = some v) := fun q v hv => by
                rw [Go.WideShapes.add_plain, hXV.cell, Nat.zero_add]
                simpa using hv
              have HV2 := hid hV
              clear hrx hbV hXV hV HL
              go_upto_region 22 with fail
              go_wp2_with (at_builtin; rw [← HV2.out]; refine wpList_step (fun K hK => step_appX rfl (.tmp 77) (.tmp 80) rfl _ n xs rfl HRx.out ⟨wr.heap.size, 0, none⟩ 2 2 [.int .i64 98, .int .i64 0, .slice none 0 0, .int .i64 98, .int .i64 0, .slice none 0 0] rfl rfl HNw.out (by decide) (by omega) (fun v' w' ho hg _ => hK _ _ ?_)))
              obtain ⟨p5, c5, hv5⟩ := ho.slice
              subst hv5
              obtain ⟨n2, hn2⟩ : ∃ n2, n2 = n + 2 := ⟨_, rfl⟩
              have hn2q : (n2 : Int) = (n : Int) + 2 := by rw [hn2]; simp
              have hn2l : n2 ≤ 300 := by omega
              rw [← hn2]
              clear hn2
              have HS5 := hid (HLV.out.grown hg)
              have HH5 := hid HS5.out.hold
              clear ho hg HLV HRx HNw HV2
              go_wp2_with fail
              go_simp
              go_wp2_with fail
              refine HH5.out.mono ?_
              rintro e w6 ⟨rfl, _, hS6⟩
              have HLi := hid hS6.list
              rw [← HNn.out] at HLi
              clear hS6 HH5 HS5
              go_wp2_with fail
              refine HLi.out.mono ?_
              rintro e w7 ⟨g7, U7, rfl, _, _, hS7, hf1, hf2, _⟩
              have HS7 := hid hS7
              have HSm := hid (sameFs_yes w7 A (some ⟨g7, 0, none⟩) u.p n u.c hf1 hf2 (by rw [← HNn.out]; omega))
              rw [← HNn.out] at HSm
              clear hS7 hf1 hf2 HLi
              go_wp2_with fail
              refine HSm.out.mono ?_
              rintro e w8 ⟨rfl, hb8⟩
              have HS8 := hid (HS7.out.below hb8)
              clear hb8 HSm HS7
              have hbl := HS8.out.bel
              obtain ⟨z, hz⟩ : ∃ z, z = ord.item i := ⟨_, rfl⟩
              have co : w8.cell? ⟨ob_, oo + i, none⟩ = some (.int .i64 z) := (World.cell?_of_block (a := ⟨ob_, oo + i, none⟩) (hbl.block ob_ HOl.out)).trans (by rw [hz]; exact HOa.out)
              have hol8 : ob_ < w8.heap.size := Nat.lt_of_lt_of_le HOl.out hbl.size
              have HMo := hid (mod_any z ((n : Int) + 1) w8 (by omega) (by omega))
              have hmo := modE_in (n := z) (k := (n : Int) + 1) (by omega)
              obtain ⟨r, hr⟩ : ∃ r, r = modE z ((n : Int) + 1) := ⟨_, rfl⟩
              rw [← hr] at HMo hmo
              clear hr hz hbl
              go_wp2_with fail
              refine HMo.out.mono ?_
              rintro e w9 ⟨rfl, hw9⟩
              subst w9
              clear co hol8 HMo
              obtain ⟨hr0, hr1⟩ := hmo
              by_cases hrn : r < (n : Int)
              case neg =>
                have HDl := hid (HS8.out.deliver_no r (by unfold inA; rw [← HNn.out]; omega))
                clear HS8
                go_wp2_with fail
                refine HDl.out.mono ?_
                rintro e w10 ⟨rfl, hS10⟩
                have HS10 : Hid (∀ wx, Below w10.heap.size w10 wx → SS W wx eb kb A A u (257 * (i : Int) + (n : Int))) := fun wx h => hS10.below h
                obtain ⟨V10, hV10⟩ : ∃ V, V = w10.alloc (.cells #[.int .i64 0, .int .i64 0, .slice none 0 0] 53) := ⟨_, rfl⟩
                have hb10 : Below w10.heap.size w10 V10 := by rw [hV10]; exact (Below.refl _ _).alloc (Nat.le_refl _) _
                have HH := hid (HS10.out V10 hb10).hold
                have HV10 := hid hV10
                clear hS10 HDl hV10 hb10
                go_upto_region 27 with fail
                rw [← HV10.out]
                go_wp2_with fail
                refine HH.out.mono ?_
                rintro e w11 ⟨rfl, _, hS11⟩
                have HS11 := hid hS11
                clear hS11 HH HS10
                go_wp2
                go_roundw
                case rel => exact ⟨i + 1, A, u, by omega, by omega, by go_num, by first | rfl | rw [HS11.out.wn, ← HNn.out], HS11.out.more (by omega)⟩
                case measure => simp [intOf]; omega
              case pos =>
                have HDl := hid (HS8.out.deliver r (by unfold inA; rw [← HNn.out]; omega))
                clear HS8
                go_wp2_with fail
                refine HDl.out.mono ?_
                rintro e w10 ⟨a, d, ha, rfl, hD10⟩
                obtain ⟨Z, hZ⟩ : ∃ Z, Z = a.zs.length := ⟨_, rfl⟩
                rw [← hZ]
                have HZn := hid hZ
                obtain ⟨V10, hV10⟩ : ∃ V, V = w10.alloc (.cells #[.int .i64 a.fr, .int .i64 a.tt, .slice (some ⟨d, 0, none⟩) Z Z] 53) := ⟨_, rfl⟩
                have hb10 : Below w10.heap.size w10 V10 := by rw [hV10]; exact (Below.refl _ _).alloc (Nat.le_refl _) _
                have hX10 : Box V10 w10.heap.size #[.int .i64 a.fr, .int .i64 a.tt, .slice (some ⟨d, 0, none⟩) Z Z] 53 := by rw [hV10]; exact Box.new _ _ _
                obtain ⟨fb, hfb⟩ : ∃ fb, fb = w10.heap.size := ⟨_, rfl⟩
                rw [← hfb] at hX10
                have HX10 := hid hX10
                have HD10 := hid (hD10.below hb10)
                have HV10 := hid hV10
                have HFb := hid hfb
                have HAa := hid ha
                have hrn' : r.toNat < n := by omega
                clear hD10 HDl hV10 hb10 hZ hX10 hfb ha
                go_upto_region 27 with fail
                rw [← HV10.out, ← HFb.out]
                go_upto_region 30 with fail
                have x0 : V10.cell? ⟨fb, 0, none⟩ = some (.int .i64 a.fr) := HX10.out.cell 0
                have x1 : V10.cell? ⟨fb, 1, none⟩ = some (.int .i64 a.tt) := HX10.out.cell 1
                have x2 : V10.cell? ⟨fb, 2, none⟩ = some (.slice (some ⟨d, 0, none⟩) Z Z) := HX10.out.cell 2
                have hfl := HX10.out.lt
                obtain ⟨bb, bo, hup, hbb, hbat⟩ := HD10.out.ss.was.at_ (by rw [← HNn.out]; omega)
                obtain ⟨q, cq, y0, y1, y2, hsq⟩ := hbat r.toNat a HAa.out
                rw [← HZn.out] at y2
                obtain ⟨R, hR⟩ : ∃ R : Nat, (R : Int) = r := ⟨r.toNat, by omega⟩
                have hR2 : r.toNat = R := by omega
                rw [hR2] at y0 y1 y2 hrn'
                subst hR
                have hZsrc : Src V10 (some ⟨d, 0, none⟩) a.zs.length Z 1 (a.zs.map (.int .u8)) := .inr ⟨_, rfl, by simp, fun j u hu => by
                  rw [Go.WideShapes.add_plain, Nat.zero_add, HD10.out.box.cell, ← hu]
                  simp [bys]⟩
                have HBt : Hid (∀ u : BW V10, Calls Try.prog 14 #[.agg #[.int .i64 a.fr, .int .i64 a.tt, .slice (some ⟨d, 0, none⟩) Z Z], .agg #[.int .i64 a.fr, .int .i64 a.tt, .slice q Z cq]] u.val fun e w' => e = .returned (.bool true) ∧ ∃ u' : BW V10, w' = u'.val) := by
                  intro u
                  have h := sameF_yes u.val a.fr a.tt a.zs (some ⟨d, 0, none⟩) q Z cq (hZsrc.below u.prop) (hsq.below u.prop)
                  rw [← HZn.out] at h
                  exact h.mono fun e w' hq => ⟨hq.1, u.ret hq.2⟩
                rw [hup]
                clear hbat hsq hZsrc
                have E0 := fun u : BW V10 => u.fact x0 hfl
                have E1 := fun u : BW V10 => u.fact x1 hfl
                have E2 := fun u : BW V10 => u.fact x2 hfl
                have E3 := fun u : BW V10 => u.fact y0 hbb
                have E4 := fun u : BW V10 => u.fact y1 hbb
                have E5 := fun u : BW V10 => u.fact y2 hbb
                refine wp_region_bw V10 (Below.refl _ _).drew (by kernel_rfl) (by kernel_rfl) ?_
                repeat (go_big_quiet_step (fail))
                go_big_quiet_step (exact HBt.out _)
                repeat (go_big_quiet_step (fail))
                refine wpQuiet_nil ?_
                rintro w11 ⟨u0, hw0⟩
                have hb11 : Below V10.heap.size V10 w11 := by rw [hw0]; exact u0.prop
                have hD11 := HD10.out.below hb11
                have z2 : w11.cell? ⟨fb, 2, none⟩ = some (.slice (some ⟨d, 0, none⟩) Z Z) := (World.cell?_of_block (hb11.block fb hfl)).trans x2
                have hfl1 : fb < w11.heap.size := Nat.lt_of_lt_of_le hfl hb11.size
                obtain ⟨mk, hmk⟩ : ∃ mk : Int, mk = 7 * (i : Int) + 1 := ⟨_, rfl⟩
                have HBy := hid (hD11.bytes mk (by omega) (by omega))
                rw [← HZn.out, hmk] at HBy
                clear hw0 u0 E0 E1 E2 E3 E4 E5 x0 x1 x2 y0 y1 y2 hb11 hD11 HD10 HBt hmk hfl hbb
                go_wp2_with fail
                refine HBy.out.mono ?_
                rintro e w12 ⟨rfl, hS12⟩
                have HS12 := hid hS12
                have HLi := hid hS12.list
                obtain ⟨A2, hA2⟩ : ∃ A2, A2 = A.eraseIdx ((R : Int)).toNat := ⟨_, rfl⟩
                rw [← hA2] at HS12 HLi
                clear hS12 HBy z2 hfl1 hA2
                go_wp2_with fail
                refine HLi.out.mono ?_
                rintro e w13 ⟨g3, U3, rfl, _, _, _, hf1, _, hb13⟩
                have HCp := hid (HS12.out.copies w13 hb13 (some ⟨g3, 0, none⟩) A2.length hf1)
                clear hf1 hb13 HLi HS12
                go_wp2_with fail
                refine HCp.out.mono ?_
                rintro e w14 ⟨u3, rfl, hS14⟩
                have HH := hid hS14.hold
                clear hS14 HCp
                go_wp2_with fail
                refine HH.out.mono ?_
                rintro e w15 ⟨rfl, _, hS15⟩
                have HS15 := hid hS15
                clear hS15 HH
                go_wp2
                go_roundw
                case rel => exact ⟨i + 1, A2, u3, by omega, by omega, by go_num, rfl, HS15.out.more (by omega)⟩
                case measure => simp [intOf]; omega
    
  · clear HXb
    go_upto_region 11 with (first | refine wpList_kb rfl rfl ?_ | refine wpList_kx rfl (.tmp 32) rfl rfl ?_)
    rw [← HV.out, ← HKb.out]
    clear HXX
    go_wp2_with fail
    go_loopw [7, 9] (fun v x wr => ∃ (i : Nat) (A : List FA) (u : LT YF), i ≤ 30 ∧ i ≤ ord.n ∧ x = .int .i64 (i : Int) ∧ v = .slice u.p u.n u.c ∧ SS W wr eb kb A A u (257 * i)) (fun _ x _ => 30 - (intOf x).toNat)
    case atStart => exact ⟨0, A, u, by omega, Nat.zero_le _, rfl, rfl, HS.out⟩
    case round =>
      obtain ⟨i, A, u, hi, hin, rfl, rfl, hS⟩ := hrel
      have HR := hid hS
      obtain ⟨n, hn⟩ : ∃ n, n = A.length := ⟨_, rfl⟩
      have hun : u.n = n := by rw [hn]; exact hS.wn
      have hn256 : n ≤ 256 := by rw [hn]; exact hS.facts.1
      have HFa := hid hS.facts.2
      have HNn := hid hn
      rw [hun]
      clear hS HS hn hun HUn hx1 hx2
      by_cases hlo : i < ord.n
      case neg =>
        obtain rfl : i = ord.n := by omega
        have hlo' : ¬ (ord.n : Int) < (ord.n : Int) := by omega
        clear hlo hin
        as_aux_lemma =>
        have HH := hid HR.out.hold
        go_wp2_with fail
        refine HH.out.mono ?_
        rintro e w1 ⟨rfl, hb1, hS1⟩
        have HS1 := hid hS1
        have HLi := hid hS1.list
        rw [← HNn.out] at HLi
        clear hS1 HH HR hb1
        go_wp2_with fail
        refine HLi.out.mono ?_
        rintro e w2 ⟨g2, U2, rfl, _, _, hS2, hf1, hf2, _⟩
        have HS2 := hid hS2
        have HSm := hid (sameFs_yes w2 A (some ⟨g2, 0, none⟩) u.p n u.c hf1 hf2 (by rw [← HNn.out]; omega))
        rw [← HNn.out] at HSm
        clear hS2 hf1 hf2 HLi HS1
        go_wp2_with fail
        refine HSm.out.mono ?_
        rintro e w3 ⟨rfl, hb3⟩
        have HB3 := hid (HS2.out.below hb3).bel
        clear hb3 HSm HS2
        go_wp2
        exact bodyPost_ret (v := .bool true) (by simp [results, Try.results3, go_sem]) rfl ⟨rfl, HB3.out⟩
      case pos =>
        have hlo' : (i : Int) < (ord.n : Int) := by omega
        by_cases hl30 : i < 30
        case neg =>
          obtain rfl : i = 30 := by omega
          have hl30' : ¬ ((30 : Nat) : Int) < 30 := by omega
          clear hl30
          as_aux_lemma =>
          have HH := hid HR.out.hold
          go_wp2_with fail
          refine HH.out.mono ?_
          rintro e w1 ⟨rfl, hb1, hS1⟩
          have HS1 := hid hS1
          have HLi := hid hS1.list
          rw [← HNn.out] at HLi
          clear hS1 HH HR hb1
          go_wp2_with fail
          refine HLi.out.mono ?_
          rintro e w2 ⟨g2, U2, rfl, _, _, hS2, hf1, hf2, _⟩
          have HS2 := hid hS2
          have HSm := hid (sameFs_yes w2 A (some ⟨g2, 0, none⟩) u.p n u.c hf1 hf2 (by rw [← HNn.out]; omega))
          rw [← HNn.out] at HSm
          clear hS2 hf1 hf2 HLi HS1
          go_wp2_with fail
          refine HSm.out.mono ?_
          rintro e w3 ⟨rfl, hb3⟩
          have HB3 := hid (HS2.out.below hb3).bel
          clear hb3 HSm HS2
          go_wp2
          exact bodyPost_ret (v := .bool true) (by simp [results, Try.results3, go_sem]) rfl ⟨rfl, HB3.out⟩
        case pos =>
          have hl30' : (i : Int) < 30 := by omega
          obtain ⟨ob_, oo, hop, _, hol, hoat⟩ := HO.out.at_ (by omega)
          have HOl := hid hol
          have HOa : Hid (W.cell? ⟨ob_, oo + i, none⟩ = some (.int .i64 (ord.item i))) := by have h := hoat i hlo 0 _ rfl; rw [show oo + i * elIn.size + 0 = oo + i from by show oo + i * 1 + 0 = oo + i; omega] at h; exact h
          rw [hop]
          clear hol hoat hop
          have HLi := hid HR.out.list
          rw [← HNn.out] at HLi
          go_wp2_with fail
          refine HLi.out.mono ?_
          rintro e w1 ⟨g, U, rfl, hU, hL, _, hf1, hf2, _⟩
          have HL := hid hL
          have HU := hid hU
          have HUl : Hid (U.length = n) := by show _ = _; rw [HNn.out, ← hU]; simp
          have HSm := hid (sameFs_yes w1 A (some ⟨g, 0, none⟩) u.p n u.c hf1 hf2 (by rw [← HNn.out]; omega))
          rw [← HNn.out] at HSm
          clear hL hU hf1 hf2 HLi HR
          go_wp2_with fail
          refine HSm.out.mono ?_
          rintro e w2 ⟨rfl, hb2⟩
          have HL2 := hid (HL.out.below hb2)
          have HH := hid HL2.out.hold
          clear hb2 HSm HL
          go_wp2_with fail
          refine HH.out.mono ?_
          rintro e w3 ⟨rfl, _, hL3⟩
          have HL3 := hid hL3
          clear hL3 HL2 HH
          go_wp2_with fail
          go_loopw [11] (fun x wr => ∃ j : Nat, j ≤ n ∧ x = .int .i64 (j : Int) ∧ LS W wr eb kb A A u (257 * i + j) g U j) (fun x _ => n - (intOf x).toNat)
          case atStart => exact ⟨0, Nat.zero_le _, rfl, by have h := HL3.out; rw [show (257 * (i : Int) + ((0 : Nat) : Int)) = 257 * (i : Int) by omega]; exact h⟩
          case round =>
            obtain ⟨j, hj, rfl, hL⟩ := hrel
            have HL := hid hL
            clear hL HL3
            by_cases hlt : j < n
            case pos =>
              as_aux_lemma =>
              have hlt' : (j : Int) < (n : Int) := by omega
              obtain ⟨x, hx⟩ : ∃ x, U[j]? = some x := ⟨_, List.getElem?_eq_getElem (by rw [HUl.out]; exact hlt)⟩
              have c2 := HL.out.cell hx
              have hgl := HL.out.spot.1
              obtain ⟨m, hm⟩ : ∃ m : Int, m = 3 * (i : Int) + 5 * (j : Int) := ⟨_, rfl⟩
              have HBy := hid (HL.out.bytes HU.out hx m (by omega) (by omega))
              rw [hm] at HBy
              clear hm hx
              go_wp2_with fail
              refine HBy.out.mono ?_
              rintro e w4 ⟨rfl, hL4⟩
              have HL4 := hid hL4
              have hgl4 := hL4.spot.1
              have hfz := hL4.spot.2 (j * 3 + 1)
              obtain ⟨v1, c1⟩ := hL4.cell1 (i := j) (by rw [HUl.out]; exact hlt)
              clear hL4 HBy c2 hgl
              go_wp2
              go_roundw
              case rel => exact ⟨j + 1, by omega, by go_num, by have h := HL4.out.store (i := j) (.int .i64 99) rfl; rw [show (257 * (i : Int) + ((j + 1 : Nat) : Int)) = 257 * (i : Int) + (j : Int) + 1 by omega]; exact h⟩
              case measure => simp [intOf]; omega
            case neg =>
              obtain rfl : n = j := by omega
              have hlt' : ¬ (n : Int) < (n : Int) := by omega
              clear hlt hj
              obtain ⟨V, hV⟩ : ∃ V, V = wr.alloc (.cells #[.int .i64 98, .int .i64 0, .slice none 0 0, .int .i64 98, .int .i64 0, .slice none 0 0] 53) := ⟨_, rfl⟩
              have hbV : Below wr.heap.size wr V := by rw [hV]; exact (Below.refl _ _).alloc (Nat.le_refl _) _
              have hXV : Box V wr.heap.size #[.int .i64 98, .int .i64 0, .slice none 0 0, .int .i64 98, .int .i64 0, .slice none 0 0] 53 := by rw [hV]; exact Box.new _ _ _
              have HLV := hid (HL.out.below hbV)
              obtain ⟨xs, hrx⟩ := HLV.out.rowx HU.out
              rw [← HNn.out] at hrx
              have HRx := hid hrx
              have HNw : Hid (∀ (q : Nat) v, [Value.int .i64 98, .int .i64 0, .slice none 0 0, .int .i64 98, .int .i64 0, .slice none 0 0][q]? = some v → V.cell? ((⟨wr.heap.size, 0, none⟩ : Addr).add q) = some v) := fun q v hv => by
                rw [Go.WideShapes.add_plain, hXV.cell, Nat.zero_add]
                simpa using hv
              have HV2 := hid hV
              clear hrx hbV hXV hV HL
              go_upto_region 22 with fail
              go_wp2_with (at_builtin; rw [← HV2.out]; refine wpList_step (fun K hK => step_appX rfl (.tmp 77) (.tmp 80) rfl _ n xs rfl HRx.out ⟨wr.heap.size, 0, none⟩ 2 2 [.int .i64 98, .int .i64 0, .slice none 0 0, .int .i64 98, .int .i64 0, .slice none 0 0] rfl rfl HNw.out (by decide) (by omega) (fun v' w' ho hg _ => hK _ _ ?_)))
              obtain ⟨p5, c5, hv5⟩ := ho.slice
              subst hv5
              obtain ⟨n2, hn2⟩ : ∃ n2, n2 = n + 2 := ⟨_, rfl⟩
              have hn2q : (n2 : Int) = (n : Int) + 2 := by rw [hn2]; simp
              have hn2l : n2 ≤ 300 := by omega
              rw [← hn2]
              clear hn2
              have HS5 := hid (HLV.out.grown hg)
              have HH5 := hid HS5.out.hold
              clear ho hg HLV HRx HNw HV2
              go_wp2_with fail
              go_simp
              go_wp2_with fail
              refine HH5.out.mono ?_
              rintro e w6 ⟨rfl, _, hS6⟩
              have HLi := hid hS6.list
              rw [← HNn.out] at HLi
              clear hS6 HH5 HS5
              go_wp2_with fail
              refine HLi.out.mono ?_
              rintro e w7 ⟨g7, U7, rfl, _, _, hS7, hf1, hf2, _⟩
              have HS7 := hid hS7
              have HSm := hid (sameFs_yes w7 A (some ⟨g7, 0, none⟩) u.p n u.c hf1 hf2 (by rw [← HNn.out]; omega))
              rw [← HNn.out] at HSm
              clear hS7 hf1 hf2 HLi
              go_wp2_with fail
              refine HSm.out.mono ?_
              rintro e w8 ⟨rfl, hb8⟩
              have HS8 := hid (HS7.out.below hb8)
              clear hb8 HSm HS7
              have hbl := HS8.out.bel
              obtain ⟨z, hz⟩ : ∃ z, z = ord.item i := ⟨_, rfl⟩
              have co : w8.cell? ⟨ob_, oo + i, none⟩ = some (.int .i64 z) := (World.cell?_of_block (a := ⟨ob_, oo + i, none⟩) (hbl.block ob_ HOl.out)).trans (by rw [hz]; exact HOa.out)
              have hol8 : ob_ < w8.heap.size := Nat.lt_of_lt_of_le HOl.out hbl.size
              have HMo := hid (mod_any z ((n : Int) + 1) w8 (by omega) (by omega))
              have hmo := modE_in (n := z) (k := (n : Int) + 1) (by omega)
              obtain ⟨r, hr⟩ : ∃ r, r = modE z ((n : Int) + 1) := ⟨_, rfl⟩
              rw [← hr] at HMo hmo
              clear hr hz hbl
              go_wp2_with fail
              refine HMo.out.mono ?_
              rintro e w9 ⟨rfl, hw9⟩
              subst w9
              clear co hol8 HMo
              obtain ⟨hr0, hr1⟩ := hmo
              by_cases hrn : r < (n : Int)
              case neg =>
                have HDl := hid (HS8.out.deliver_no r (by unfold inA; rw [← HNn.out]; omega))
                clear HS8
                go_wp2_with fail
                refine HDl.out.mono ?_
                rintro e w10 ⟨rfl, hS10⟩
                have HS10 : Hid (∀ wx, Below w10.heap.size w10 wx → SS W wx eb kb A A u (257 * (i : Int) + (n : Int))) := fun wx h => hS10.below h
                obtain ⟨V10, hV10⟩ : ∃ V, V = w10.alloc (.cells #[.int .i64 0, .int .i64 0, .slice none 0 0] 53) := ⟨_, rfl⟩
                have hb10 : Below w10.heap.size w10 V10 := by rw [hV10]; exact (Below.refl _ _).alloc (Nat.le_refl _) _
                have HH := hid (HS10.out V10 hb10).hold
                have HV10 := hid hV10
                clear hS10 HDl hV10 hb10
                go_upto_region 27 with fail
                rw [← HV10.out]
                go_wp2_with fail
                refine HH.out.mono ?_
                rintro e w11 ⟨rfl, _, hS11⟩
                have HS11 := hid hS11
                clear hS11 HH HS10
                go_wp2
                go_roundw
                case rel => exact ⟨i + 1, A, u, by omega, by omega, by go_num, by first | rfl | rw [HS11.out.wn, ← HNn.out], HS11.out.more (by omega)⟩
                case measure => simp [intOf]; omega
              case pos =>
                have HDl := hid (HS8.out.deliver r (by unfold inA; rw [← HNn.out]; omega))
                clear HS8
                go_wp2_with fail
                refine HDl.out.mono ?_
                rintro e w10 ⟨a, d, ha, rfl, hD10⟩
                obtain ⟨Z, hZ⟩ : ∃ Z, Z = a.zs.length := ⟨_, rfl⟩
                rw [← hZ]
                have HZn := hid hZ
                obtain ⟨V10, hV10⟩ : ∃ V, V = w10.alloc (.cells #[.int .i64 a.fr, .int .i64 a.tt, .slice (some ⟨d, 0, none⟩) Z Z] 53) := ⟨_, rfl⟩
                have hb10 : Below w10.heap.size w10 V10 := by rw [hV10]; exact (Below.refl _ _).alloc (Nat.le_refl _) _
                have hX10 : Box V10 w10.heap.size #[.int .i64 a.fr, .int .i64 a.tt, .slice (some ⟨d, 0, none⟩) Z Z] 53 := by rw [hV10]; exact Box.new _ _ _
                obtain ⟨fb, hfb⟩ : ∃ fb, fb = w10.heap.size := ⟨_, rfl⟩
                rw [← hfb] at hX10
                have HX10 := hid hX10
                have HD10 := hid (hD10.below hb10)
                have HV10 := hid hV10
                have HFb := hid hfb
                have HAa := hid ha
                have hrn' : r.toNat < n := by omega
                clear hD10 HDl hV10 hb10 hZ hX10 hfb ha
                go_upto_region 27 with fail
                rw [← HV10.out, ← HFb.out]
                go_upto_region 30 with fail
                have x0 : V10.cell? ⟨fb, 0, none⟩ = some (.int .i64 a.fr) := HX10.out.cell 0
                have x1 : V10.cell? ⟨fb, 1, none⟩ = some (.int .i64 a.tt) := HX10.out.cell 1
                have x2 : V10.cell? ⟨fb, 2, none⟩ = some (.slice (some ⟨d, 0, none⟩) Z Z) := HX10.out.cell 2
                have hfl := HX10.out.lt
                obtain ⟨bb, bo, hup, hbb, hbat⟩ := HD10.out.ss.was.at_ (by rw [← HNn.out]; omega)
                obtain ⟨q, cq, y0, y1, y2, hsq⟩ := hbat r.toNat a HAa.out
                rw [← HZn.out] at y2
                obtain ⟨R, hR⟩ : ∃ R : Nat, (R : Int) = r := ⟨r.toNat, by omega⟩
                have hR2 : r.toNat = R := by omega
                rw [hR2] at y0 y1 y2 hrn'
                subst hR
                have hZsrc : Src V10 (some ⟨d, 0, none⟩) a.zs.length Z 1 (a.zs.map (.int .u8)) := .inr ⟨_, rfl, by simp, fun j u hu => by
                  rw [Go.WideShapes.add_plain, Nat.zero_add, HD10.out.box.cell, ← hu]
                  simp [bys]⟩
                have HBt : Hid (∀ u : BW V10, Calls Try.prog 14 #[.agg #[.int .i64 a.fr, .int .i64 a.tt, .slice (some ⟨d, 0, none⟩) Z Z], .agg #[.int .i64 a.fr, .int .i64 a.tt, .slice q Z cq]] u.val fun e w' => e = .returned (.bool true) ∧ ∃ u' : BW V10, w' = u'.val) := by
                  intro u
                  have h := sameF_yes u.val a.fr a.tt a.zs (some ⟨d, 0, none⟩) q Z cq (hZsrc.below u.prop) (hsq.below u.prop)
                  rw [← HZn.out] at h
                  exact h.mono fun e w' hq => ⟨hq.1, u.ret hq.2⟩
                rw [hup]
                clear hbat hsq hZsrc
                have E0 := fun u : BW V10 => u.fact x0 hfl
                have E1 := fun u : BW V10 => u.fact x1 hfl
                have E2 := fun u : BW V10 => u.fact x2 hfl
                have E3 := fun u : BW V10 => u.fact y0 hbb
                have E4 := fun u : BW V10 => u.fact y1 hbb
                have E5 := fun u : BW V10 => u.fact y2 hbb
                refine wp_region_bw V10 (Below.refl _ _).drew (by kernel_rfl) (by kernel_rfl) ?_
                repeat (go_big_quiet_step (fail))
                go_big_quiet_step (exact HBt.out _)
                repeat (go_big_quiet_step (fail))
                refine wpQuiet_nil ?_
                rintro w11 ⟨u0, hw0⟩
                have hb11 : Below V10.heap.size V10 w11 := by rw [hw0]; exact u0.prop
                have hD11 := HD10.out.below hb11
                have z2 : w11.cell? ⟨fb, 2, none⟩ = some (.slice (some ⟨d, 0, none⟩) Z Z) := (World.cell?_of_block (hb11.block fb hfl)).trans x2
                have hfl1 : fb < w11.heap.size := Nat.lt_of_lt_of_le hfl hb11.size
                obtain ⟨mk, hmk⟩ : ∃ mk : Int, mk = 7 * (i : Int) + 1 := ⟨_, rfl⟩
                have HBy := hid (hD11.bytes mk (by omega) (by omega))
                rw [← HZn.out, hmk] at HBy
                clear hw0 u0 E0 E1 E2 E3 E4 E5 x0 x1 x2 y0 y1 y2 hb11 hD11 HD10 HBt hmk hfl hbb
                go_wp2_with fail
                refine HBy.out.mono ?_
                rintro e w12 ⟨rfl, hS12⟩
                have HS12 := hid hS12
                have HLi := hid hS12.list
                obtain ⟨A2, hA2⟩ : ∃ A2, A2 = A.eraseIdx ((R : Int)).toNat := ⟨_, rfl⟩
                rw [← hA2] at HS12 HLi
                clear hS12 HBy z2 hfl1 hA2
                go_wp2_with fail
                refine HLi.out.mono ?_
                rintro e w13 ⟨g3, U3, rfl, _, _, _, hf1, _, hb13⟩
                have HCp := hid (HS12.out.copies w13 hb13 (some ⟨g3, 0, none⟩) A2.length hf1)
                clear hf1 hb13 HLi HS12
                go_wp2_with fail
                refine HCp.out.mono ?_
                rintro e w14 ⟨u3, rfl, hS14⟩
                have HH := hid hS14.hold
                clear hS14 HCp
                go_wp2_with fail
                refine HH.out.mono ?_
                rintro e w15 ⟨rfl, _, hS15⟩
                have HS15 := hid hS15
                clear hS15 HH
                go_wp2
                go_roundw
                case rel => exact ⟨i + 1, A2, u3, by omega, by omega, by go_num, rfl, HS15.out.more (by omega)⟩
                case measure => simp [intOf]; omega
    
end Go.Proofs.Ytbeibhmbaofjhaa
