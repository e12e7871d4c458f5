import Derived.Test.YtoefbcagokgfcaaUfC
namespace Go.Proofs.Ytoefbcagokgfcaa
open Go.RowKit
set_option maxRecDepth 8000
set_option maxHeartbeats 16000000 in
theorem turns_low (data : LT BY) (i bit : Int) (W : World) (hD : LT.In elBy W (fun b => b < W.heap.size) data) (hbit : bit ≤ 9223372036854775807) (D : List FA) (hDe : D = mdA data (min data.n 40)) (hDl : D.length ≤ 40) (hin : ¬ inA i D.length) (h0 : ¬ 0 ≤ i) :
    Calls Try.prog 6 #[.slice data.p data.n data.c, .int .i64 i, .int .i64 bit] W fun e w' => e = .returned (.bool true) ∧ Below W.heap.size W w' := by
  have HWk := hid (works_any W)
  have HDe := hid hDe
  have HD0 := hid hD
  clear hD hDe
  go_enter Try.func6, Try.ntmps6
  go_wp2_with fail
  refine HWk.out.mono ?_
  rintro e w1 ⟨rfl, hb1⟩
  have HM1 := hid (made_any data w1 _ (HD0.out.below hb1))
  have HB1 := hid hb1
  clear hb1 HWk
  go_wp2_with fail
  refine HM1.out.mono ?_
  rintro e w2 ⟨a, rfl, hEa⟩
  have HM2 := hid (made_any data w2 _ (HD0.out.below (HB1.out.trans (hEa.bel.mono HB1.out.size))))
  have HEa := hid hEa
  clear hEa HM1
  go_wp2_with fail
  refine HM2.out.mono ?_
  rintro e w3 ⟨b, rfl, hEb⟩
  obtain ⟨K0, HS0⟩ : ∃ K0, Hid (St W w3 K0 a b D D) := ⟨_, by
    show St _ _ _ _ _ _ _
    rw [HDe.out]
    exact st_start HB1.out HEa.out hEb⟩
  clear HEa hEb HM2 HD0 HB1 HDe
  have HL0 := hid (st_list HS0.out)
  go_wp2_with fail
  refine HL0.out.mono ?_
  rintro e w4 ⟨g, K, rfl, _, hF, hS, _⟩
  obtain ⟨n, hn⟩ : ∃ n, n = D.length := ⟨_, rfl⟩
  have HF0 := hid hF
  have HS1 := hid hS
  rw [← hn] at hDl hin ⊢
  have HNn := hid hn
  clear hF hS hn HL0 HS0
  have HNI : Hid (¬ inA i n) := hin
  have HFl := hid (st_flip_no HS1.out i bit hbit (by rw [← HNn.out]; exact HNI.out))
  have h0d : (decide (0 ≤ i)) = false := decide_eq_false (by omega)
  clear hin
  go_wp2_with fail
  refine HFl.out.mono ?_
  rintro e w5 ⟨rfl, hS5, hf5⟩
  have HF5 := hid (HF0.out.fr hf5)
  have HL5 := hid (st_list hS5)
  rw [← HNn.out] at HL5
  clear hS5 hf5 HFl HF0 HS1
  go_wp2_with fail
  refine HL5.out.mono ?_
  rintro e w6 ⟨g6, K6, rfl, hk6, hF6, hS6, hf6⟩
  have HF6 := hid ((HF5.out.fr hf6).mono hk6)
  have HS6 := hid hS6
  have HQ6 := hid (sameFs_yes w6 D (some ⟨g6, 0, none⟩) (some ⟨g, 0, none⟩) n n hF6.now HF6.out.now (by rw [← HNn.out]; omega))
  rw [← HNn.out] at HQ6
  clear hF6 hS6 hf6 hk6 HL5 HF5
  go_wp2_with fail
  refine HQ6.out.mono ?_
  rintro e w7 ⟨rfl, hb7⟩
  have HF7 := hid (HF6.out.below hb7)
  have HCp := hid (st_copy_no (HS6.out.below hb7) i (by rw [← HNn.out]; exact HNI.out))
  clear hb7 HQ6 HF6 HS6
  go_wp2_with fail
  refine HCp.out.mono ?_
  rintro e w8 ⟨rfl, hS8, hf8⟩
  have HF8 := hid (HF7.out.fr hf8)
  have HL8 := hid (st_list hS8)
  rw [← HNn.out] at HL8
  clear hS8 hf8 HCp HF7
  go_wp2_with fail
  refine HL8.out.mono ?_
  rintro e w9 ⟨g9, K9, rfl, hk9, hF9, hS9, hf9⟩
  have HF9 := hid ((HF8.out.fr hf9).mono hk9)
  have HS9 := hid hS9
  have HQ9 := hid (sameFs_yes w9 D (some ⟨g9, 0, none⟩) (some ⟨g, 0, none⟩) n n hF9.now HF9.out.now (by rw [← HNn.out]; omega))
  rw [← HNn.out] at HQ9
  clear hF9 hS9 hf9 hk9 HL8 HF8
  go_wp2_with fail
  refine HQ9.out.mono ?_
  rintro e w10 ⟨rfl, hb10⟩
  have HF10 := hid (HF9.out.below hb10)
  have HDv := hid (st_deliver_no (HS9.out.below hb10) i (by rw [← HNn.out]; exact HNI.out))
  clear hb10 HQ9 HF9 HS9
  go_wp2_with fail
  refine HDv.out.mono ?_
  rintro e w11 ⟨rfl, hS11, hf11⟩
  obtain ⟨V, hV⟩ : ∃ V, V = w11.alloc (.cells #[.int .i64 0, .int .i64 0, .slice none 0 0] 32) := ⟨_, rfl⟩
  have hBV : Below w11.heap.size w11 V := by rw [hV]; exact (Below.refl _ _).alloc (Nat.le_refl _) _
  have HS11 := hid (hS11.below hBV)
  have HF11 := hid ((HF10.out.fr hf11).below hBV)
  have HDr := hid (st_drop_no HS11.out.swap i (by rw [← HNn.out]; exact HNI.out))
  have HV := hid hV
  clear hS11 hf11 hV hBV HDv HF10
  go_upto_region 39 with fail
  rw [← HV.out]
  go_wp2_with fail
  refine HDr.out.mono ?_
  rintro e w12 ⟨rfl, hS12, hf12⟩
  have HS12 := hid hS12.swap
  have HF12 := hid (HF11.out.fr hf12)
  have HLa := hid (st_list HS12.out.drew)
  rw [← HNn.out] at HLa
  clear hS12 hf12 HDr HF11 HS11 HV
  go_upto_region 40 with fail
  refine wp_region_calmE 30 (fun wx => Below w12.heap.size w12 wx) [(0, true), (1, true), (2, true), (3, true), (4, true), (5, true), (6, true), (7, true), (8, true), (9, true), (10, true), (11, false), (12, true), (13, true), (14, true), (15, false)] (.one 16 false [(17, true), (18, true), (19, true), (20, true), (21, true), (23, true)] (.one 22 false [] (.one 24 false [] (.one 25 false [(26, true), (27, true)] .done)))) (by kernel_rfl) (by kernel_rfl) (Below.refl _ _).drew ?_
  refine wpPre_e rfl rfl (fun K1 hK1 => ?_)
  apply Exists.intro
  refine And.intro (fun wx hx => ?_) ?_
  · go_simp
    try rfl
  go_simp
  refine hK1 _ ?_
  clear hK1 K1
  refine wpPre_e rfl rfl (fun K1 hK1 => ?_)
  apply Exists.intro
  refine And.intro (fun wx hx => ?_) ?_
  · go_simp
    try rfl
  go_simp
  refine hK1 _ ?_
  clear hK1 K1
  refine wpPre_e rfl rfl (fun K1 hK1 => ?_)
  apply Exists.intro
  refine And.intro (fun wx hx => ?_) ?_
  · go_simp
    try rfl
  go_simp
  refine hK1 _ ?_
  clear hK1 K1
  refine wpPre_e rfl rfl (fun K1 hK1 => ?_)
  apply Exists.intro
  refine And.intro (fun wx hx => ?_) ?_
  · go_simp
    try rfl
  go_simp
  refine hK1 _ ?_
  clear hK1 K1
  refine wpPre_i rfl (fun K1 hK1 => ?_)
  rw [if_pos (by go_simp)]
  apply Exists.intro
  refine And.intro (fun wx hx => ?_) ?_
  · go_simp
    try rfl
  go_simp
  refine hK1 _ ?_
  clear hK1 K1
  refine wpPre_i rfl (fun K1 hK1 => ?_)
  rw [if_pos (by go_simp)]
  apply Exists.intro
  refine And.intro (fun wx hx => ?_) ?_
  · go_simp
    try rfl
  go_simp
  refine hK1 _ ?_
  clear hK1 K1
  refine wpPre_i rfl (fun K1 hK1 => ?_)
  rw [if_pos (by go_simp)]
  apply Exists.intro
  refine And.intro (fun wx hx => ?_) ?_
  · go_simp
    try rfl
  go_simp
  refine hK1 _ ?_
  clear hK1 K1
  refine wpPre_e rfl rfl (fun K1 hK1 => ?_)
  apply Exists.intro
  refine And.intro (fun wx hx => ?_) ?_
  · go_simp
    try rfl
  go_simp
  refine hK1 _ ?_
  clear hK1 K1
  refine wpPre_e rfl rfl (fun K1 hK1 => ?_)
  apply Exists.intro
  refine And.intro (fun wx hx => ?_) ?_
  · go_simp
    try rfl
  go_simp
  refine hK1 _ ?_
  clear hK1 K1
  refine wpPre_i rfl (fun K1 hK1 => ?_)
  rw [if_pos (by go_simp)]
  apply Exists.intro
  refine And.intro (fun wx hx => ?_) ?_
  · go_simp
    try rfl
  go_simp
  refine hK1 _ ?_
  clear hK1 K1
  refine wpPre_i rfl (fun K1 hK1 => ?_)
  rw [if_pos (by go_simp)]
  apply Exists.intro
  refine And.intro (fun wx hx => ?_) ?_
  · go_simp
    try rfl
  go_simp
  refine hK1 _ ?_
  clear hK1 K1
  refine wpPre_i rfl (fun K1 hK1 => ?_)
  rw [if_neg (by go_simp; all_goals (intro h; cases h))]
  go_simp
  refine hK1 _ ?_
  clear hK1 K1
  refine wpPre_i rfl (fun K1 hK1 => ?_)
  rw [if_neg (by go_simp; all_goals (intro h; cases h))]
  go_simp
  refine hK1 _ ?_
  clear hK1 K1
  refine wpPre_i rfl (fun K1 hK1 => ?_)
  rw [if_neg (by go_simp; all_goals (intro h; cases h))]
  go_simp
  refine hK1 _ ?_
  clear hK1 K1
  refine wpPre_i rfl (fun K1 hK1 => ?_)
  rw [if_neg (by go_simp; all_goals (intro h; cases h))]
  go_simp
  refine hK1 _ ?_
  clear hK1 K1
  refine wpPre_i rfl (fun K1 hK1 => ?_)
  rw [if_neg (by go_simp; all_goals (intro h; cases h))]
  go_simp
  refine hK1 _ ?_
  clear hK1 K1
  refine wpPre_nil ?_
  refine wpTr_e rfl (fun K1 hK1 => ?_)
  rw [if_neg (by go_simp; all_goals (intro h; cases h))]
  go_simp
  refine hK1 _ _ (fun h => by cases h) ?_
  clear hK1 K1
  refine wpPre_i rfl (fun K1 hK1 => ?_)
  rw [if_neg (by go_simp; all_goals (intro h; cases h))]
  go_simp
  refine hK1 _ ?_
  clear hK1 K1
  refine wpPre_i rfl (fun K1 hK1 => ?_)
  rw [if_pos (by go_simp)]
  apply Exists.intro
  refine And.intro (fun wx hx => ?_) ?_
  · go_simp
    try rfl
  go_simp
  refine hK1 _ ?_
  clear hK1 K1
  refine wpPre_e rfl rfl (fun K1 hK1 => ?_)
  apply Exists.intro
  refine And.intro (fun wx hx => ?_) ?_
  · go_simp
    try rfl
  go_simp
  refine hK1 _ ?_
  clear hK1 K1
  refine wpPre_e rfl rfl (fun K1 hK1 => ?_)
  apply Exists.intro
  refine And.intro (fun wx hx => ?_) ?_
  · go_simp
    try rfl
  go_simp
  refine hK1 _ ?_
  clear hK1 K1
  refine wpPre_i rfl (fun K1 hK1 => ?_)
  rw [if_pos (by go_simp)]
  apply Exists.intro
  refine And.intro (fun wx hx => ?_) ?_
  · go_simp
    try rfl
  go_simp
  refine hK1 _ ?_
  clear hK1 K1
  refine wpPre_i rfl (fun K1 hK1 => ?_)
  rw [if_pos (by go_simp)]
  apply Exists.intro
  refine And.intro (fun wx hx => ?_) ?_
  · go_simp
    try rfl
  go_simp
  refine hK1 _ ?_
  clear hK1 K1
  refine wpPre_nil ?_
  refine wpTr_e rfl (fun K1 hK1 => ?_)
  refine step_callG (by first | rfl | go_simp) 13 #[.tmp 247] _ rfl Try.f13 Try.func13 (by kernel_rfl) rfl #[.pointer (some ⟨a, 0, none⟩)] rfl _ (HLa.out) ?_
  rintro e_ w13 ⟨ga, Ka, rfl, hka, hFa, hSa, hfa⟩
  refine ⟨_, rfl, ?_⟩
  have HFa := hid hFa
  have HF13 := hid ((HF12.out.drew.fr hfa).mono hka)
  have HLb := hid (st_list hSa.swap)
  rw [← HNn.out] at HLb
  clear hFa hSa hka hfa
  go_simp
  refine hK1 _ _ (fun h => by cases h) ?_
  clear hK1 K1
  refine wpPre_nil ?_
  refine wpTr_e rfl (fun K1 hK1 => ?_)
  refine step_callG (by first | rfl | go_simp) 13 #[.tmp 249] _ rfl Try.f13 Try.func13 (by kernel_rfl) rfl #[.pointer (some ⟨b, 0, none⟩)] rfl _ (HLb.out) ?_
  rintro e_ w14 ⟨gb, Kb, rfl, hkb, hFb, hSb, hfb⟩
  refine ⟨_, rfl, ?_⟩
  have HFb := hid hFb
  have HF14 := hid ((HF13.out.fr hfb).mono hkb)
  have HSb := hid hSb.swap
  have HQb := hid (sameFs_yes w14 D (some ⟨ga, 0, none⟩) (some ⟨gb, 0, none⟩) n n (HFa.out.fr hfb).now HFb.out.now (by rw [← HNn.out]; omega))
  rw [← HNn.out] at HQb
  clear hFb hSb hkb hfb
  go_simp
  refine hK1 _ _ (fun h => by cases h) ?_
  clear hK1 K1
  refine wpPre_nil ?_
  refine wpTr_e rfl (fun K1 hK1 => ?_)
  refine step_callG (by first | rfl | go_simp) 21 #[.tmp 248, .tmp 250] _ rfl Try.f21 Try.func21 (by kernel_rfl) rfl #[.slice (some ⟨ga, 0, none⟩) n n, .slice (some ⟨gb, 0, none⟩) n n] rfl _ (HQb.out) ?_
  rintro e_ w15 ⟨rfl, hb15⟩
  refine ⟨_, rfl, ?_⟩
  have HF15 := hid (HF14.out.below hb15)
  have HS15 := hid (HSb.out.below hb15)
  clear hb15
  go_simp
  refine hK1 _ _ (fun h => by cases h) ?_
  clear hK1 K1
  refine wpPre_i rfl (fun K1 hK1 => ?_)
  rw [if_pos (by go_simp)]
  apply Exists.intro
  refine And.intro (fun wx hx => ?_) ?_
  · go_simp
    try rfl
  go_simp
  refine hK1 _ ?_
  clear hK1 K1
  refine wpPre_e rfl rfl (fun K1 hK1 => ?_)
  apply Exists.intro
  refine And.intro (fun wx hx => ?_) ?_
  · go_simp
    try rfl
  go_simp
  refine hK1 _ ?_
  clear hK1 K1
  refine wpPre_nil ?_
  refine wpTr_done ?_
  have HLc := hid (st_list HS15.out)
  rw [← HNn.out] at HLc
  clear HQb HFa HFb HLb HLa
  go_wp2_with fail
  refine HLc.out.mono ?_
  rintro e w16 ⟨gc, Kc, rfl, hkc, hFc, hSc, hfc⟩
  have HSc := hid hSc
  have HQc := hid (sameFs_yes w16 D (some ⟨gc, 0, none⟩) (some ⟨g, 0, none⟩) n n hFc.now ((HF15.out.fr hfc).mono hkc).now (by rw [← HNn.out]; omega))
  rw [← HNn.out] at HQc
  clear hFc hSc hkc hfc HLc
  go_wp2_with fail
  refine HQc.out.mono ?_
  rintro e w17 ⟨rfl, hb17⟩
  have HBe := hid (HSc.out.below hb17).bel
  clear hb17 HQc
  go_wp2
  exact bodyPost_ret (v := .bool true) (by simp [results, Try.results6, go_sem]) rfl ⟨rfl, HBe.out⟩
set_option maxHeartbeats 16000000 in
theorem turns_high (data : LT BY) (i bit : Int) (W : World) (hD : LT.In elBy W (fun b => b < W.heap.size) data) (hbit : bit ≤ 9223372036854775807) (D : List FA) (hDe : D = mdA data (min data.n 40)) (hDl : D.length ≤ 40) (hin : ¬ inA i D.length) (h0 : 0 ≤ i) :
    Calls Try.prog 6 #[.slice data.p data.n data.c, .int .i64 i, .int .i64 bit] W fun e w' => e = .returned (.bool true) ∧ Below W.heap.size W w' := by
  have HWk := hid (works_any W)
  have HDe := hid hDe
  have HD0 := hid hD
  clear hD hDe
  go_enter Try.func6, Try.ntmps6
  go_wp2_with fail
  refine HWk.out.mono ?_
  rintro e w1 ⟨rfl, hb1⟩
  have HM1 := hid (made_any data w1 _ (HD0.out.below hb1))
  have HB1 := hid hb1
  clear hb1 HWk
  go_wp2_with fail
  refine HM1.out.mono ?_
  rintro e w2 ⟨a, rfl, hEa⟩
  have HM2 := hid (made_any data w2 _ (HD0.out.below (HB1.out.trans (hEa.bel.mono HB1.out.size))))
  have HEa := hid hEa
  clear hEa HM1
  go_wp2_with fail
  refine HM2.out.mono ?_
  rintro e w3 ⟨b, rfl, hEb⟩
  obtain ⟨K0, HS0⟩ : ∃ K0, Hid (St W w3 K0 a b D D) := ⟨_, by
    show St _ _ _ _ _ _ _
    rw [HDe.out]
    exact st_start HB1.out HEa.out hEb⟩
  clear HEa hEb HM2 HD0 HB1 HDe
  have HL0 := hid (st_list HS0.out)
  go_wp2_with fail
  refine HL0.out.mono ?_
  rintro e w4 ⟨g, K, rfl, _, hF, hS, _⟩
  obtain ⟨n, hn⟩ : ∃ n, n = D.length := ⟨_, rfl⟩
  have HF0 := hid hF
  have HS1 := hid hS
  rw [← hn] at hDl hin ⊢
  have HNn := hid hn
  clear hF hS hn HL0 HS0
  have HNI : Hid (¬ inA i n) := hin
  have HFl := hid (st_flip_no HS1.out i bit hbit (by rw [← HNn.out]; exact HNI.out))
  have h1 : ¬ i < (n : Int) := fun h => HNI.out ⟨h0, h⟩
  have h0d : (decide (0 ≤ i)) = true := decide_eq_true (by omega)
  have h1d : (decide (i < (n : Int))) = false := decide_eq_false h1
  clear hin
  go_wp2_with fail
  refine HFl.out.mono ?_
  rintro e w5 ⟨rfl, hS5, hf5⟩
  have HF5 := hid (HF0.out.fr hf5)
  have HL5 := hid (st_list hS5)
  rw [← HNn.out] at HL5
  clear hS5 hf5 HFl HF0 HS1
  go_wp2_with fail
  refine HL5.out.mono ?_
  rintro e w6 ⟨g6, K6, rfl, hk6, hF6, hS6, hf6⟩
  have HF6 := hid ((HF5.out.fr hf6).mono hk6)
  have HS6 := hid hS6
  have HQ6 := hid (sameFs_yes w6 D (some ⟨g6, 0, none⟩) (some ⟨g, 0, none⟩) n n hF6.now HF6.out.now (by rw [← HNn.out]; omega))
  rw [← HNn.out] at HQ6
  clear hF6 hS6 hf6 hk6 HL5 HF5
  go_wp2_with fail
  refine HQ6.out.mono ?_
  rintro e w7 ⟨rfl, hb7⟩
  have HF7 := hid (HF6.out.below hb7)
  have HCp := hid (st_copy_no (HS6.out.below hb7) i (by rw [← HNn.out]; exact HNI.out))
  clear hb7 HQ6 HF6 HS6
  go_wp2_with fail
  refine HCp.out.mono ?_
  rintro e w8 ⟨rfl, hS8, hf8⟩
  have HF8 := hid (HF7.out.fr hf8)
  have HL8 := hid (st_list hS8)
  rw [← HNn.out] at HL8
  clear hS8 hf8 HCp HF7
  go_wp2_with fail
  refine HL8.out.mono ?_
  rintro e w9 ⟨g9, K9, rfl, hk9, hF9, hS9, hf9⟩
  have HF9 := hid ((HF8.out.fr hf9).mono hk9)
  have HS9 := hid hS9
  have HQ9 := hid (sameFs_yes w9 D (some ⟨g9, 0, none⟩) (some ⟨g, 0, none⟩) n n hF9.now HF9.out.now (by rw [← HNn.out]; omega))
  rw [← HNn.out] at HQ9
  clear hF9 hS9 hf9 hk9 HL8 HF8
  go_wp2_with fail
  refine HQ9.out.mono ?_
  rintro e w10 ⟨rfl, hb10⟩
  have HF10 := hid (HF9.out.below hb10)
  have HDv := hid (st_deliver_no (HS9.out.below hb10) i (by rw [← HNn.out]; exact HNI.out))
  clear hb10 HQ9 HF9 HS9
  go_wp2_with fail
  refine HDv.out.mono ?_
  rintro e w11 ⟨rfl, hS11, hf11⟩
  obtain ⟨V, hV⟩ : ∃ V, V = w11.alloc (.cells #[.int .i64 0, .int .i64 0, .slice none 0 0] 32) := ⟨_, rfl⟩
  have hBV : Below w11.heap.size w11 V := by rw [hV]; exact (Below.refl _ _).alloc (Nat.le_refl _) _
  have HS11 := hid (hS11.below hBV)
  have HF11 := hid ((HF10.out.fr hf11).below hBV)
  have HDr := hid (st_drop_no HS11.out.swap i (by rw [← HNn.out]; exact HNI.out))
  have HV := hid hV
  clear hS11 hf11 hV hBV HDv HF10
  go_upto_region 39 with fail
  rw [← HV.out]
  go_wp2_with fail
  refine HDr.out.mono ?_
  rintro e w12 ⟨rfl, hS12, hf12⟩
  have HS12 := hid hS12.swap
  have HF12 := hid (HF11.out.fr hf12)
  have HLa := hid (st_list HS12.out.drew)
  rw [← HNn.out] at HLa
  clear hS12 hf12 HDr HF11 HS11 HV
  go_upto_region 40 with fail
  refine wp_region_calmE 30 (fun wx => Below w12.heap.size w12 wx) [(0, true), (1, true), (2, true), (3, true), (4, true), (5, true), (6, true), (7, true), (8, true), (9, true), (10, true), (11, false), (12, true), (13, true), (14, true), (15, false)] (.one 16 false [(17, true), (18, true), (19, true), (20, true), (21, true), (23, true)] (.one 22 false [] (.one 24 false [] (.one 25 false [(26, true), (27, true)] .done)))) (by kernel_rfl) (by kernel_rfl) (Below.refl _ _).drew ?_
  refine wpPre_e rfl rfl (fun K1 hK1 => ?_)
  apply Exists.intro
  refine And.intro (fun wx hx => ?_) ?_
  · go_simp
    try rfl
  go_simp
  refine hK1 _ ?_
  clear hK1 K1
  refine wpPre_e rfl rfl (fun K1 hK1 => ?_)
  apply Exists.intro
  refine And.intro (fun wx hx => ?_) ?_
  · go_simp
    try rfl
  go_simp
  refine hK1 _ ?_
  clear hK1 K1
  refine wpPre_e rfl rfl (fun K1 hK1 => ?_)
  apply Exists.intro
  refine And.intro (fun wx hx => ?_) ?_
  · go_simp
    try rfl
  go_simp
  refine hK1 _ ?_
  clear hK1 K1
  refine wpPre_e rfl rfl (fun K1 hK1 => ?_)
  apply Exists.intro
  refine And.intro (fun wx hx => ?_) ?_
  · go_simp
    try rfl
  go_simp
  refine hK1 _ ?_
  clear hK1 K1
  refine wpPre_i rfl (fun K1 hK1 => ?_)
  rw [if_pos (by go_simp)]
  apply Exists.intro
  refine And.intro (fun wx hx => ?_) ?_
  · go_simp
    try rfl
  go_simp
  refine hK1 _ ?_
  clear hK1 K1
  refine wpPre_i rfl (fun K1 hK1 => ?_)
  rw [if_pos (by go_simp)]
  apply Exists.intro
  refine And.intro (fun wx hx => ?_) ?_
  · go_simp
    try rfl
  go_simp
  refine hK1 _ ?_
  clear hK1 K1
  refine wpPre_i rfl (fun K1 hK1 => ?_)
  rw [if_pos (by go_simp)]
  apply Exists.intro
  refine And.intro (fun wx hx => ?_) ?_
  · go_simp
    try rfl
  go_simp
  refine hK1 _ ?_
  clear hK1 K1
  refine wpPre_e rfl rfl (fun K1 hK1 => ?_)
  apply Exists.intro
  refine And.intro (fun wx hx => ?_) ?_
  · go_simp
    try rfl
  go_simp
  refine hK1 _ ?_
  clear hK1 K1
  refine wpPre_e rfl rfl (fun K1 hK1 => ?_)
  apply Exists.intro
  refine And.intro (fun wx hx => ?_) ?_
  · go_simp
    try rfl
  go_simp
  refine hK1 _ ?_
  clear hK1 K1
  refine wpPre_i rfl (fun K1 hK1 => ?_)
  rw [if_pos (by go_simp)]
  apply Exists.intro
  refine And.intro (fun wx hx => ?_) ?_
  · go_simp
    try rfl
  go_simp
  refine hK1 _ ?_
  clear hK1 K1
  refine wpPre_i rfl (fun K1 hK1 => ?_)
  rw [if_pos (by go_simp)]
  apply Exists.intro
  refine And.intro (fun wx hx => ?_) ?_
  · go_simp
    try rfl
  go_simp
  refine hK1 _ ?_
  clear hK1 K1
  refine wpPre_i rfl (fun K1 hK1 => ?_)
  rw [if_neg (by go_simp; all_goals (intro h; cases h))]
  go_simp
  refine hK1 _ ?_
  clear hK1 K1
  refine wpPre_i rfl (fun K1 hK1 => ?_)
  rw [if_neg (by go_simp; all_goals (intro h; cases h))]
  go_simp
  refine hK1 _ ?_
  clear hK1 K1
  refine wpPre_i rfl (fun K1 hK1 => ?_)
  rw [if_neg (by go_simp; all_goals (intro h; cases h))]
  go_simp
  refine hK1 _ ?_
  clear hK1 K1
  refine wpPre_i rfl (fun K1 hK1 => ?_)
  rw [if_neg (by go_simp; all_goals (intro h; cases h))]
  go_simp
  refine hK1 _ ?_
  clear hK1 K1
  refine wpPre_i rfl (fun K1 hK1 => ?_)
  rw [if_neg (by go_simp; all_goals (intro h; cases h))]
  go_simp
  refine hK1 _ ?_
  clear hK1 K1
  refine wpPre_nil ?_
  refine wpTr_e rfl (fun K1 hK1 => ?_)
  rw [if_neg (by go_simp; all_goals (intro h; cases h))]
  go_simp
  refine hK1 _ _ (fun h => by cases h) ?_
  clear hK1 K1
  refine wpPre_i rfl (fun K1 hK1 => ?_)
  rw [if_neg (by go_simp; all_goals (intro h; cases h))]
  go_simp
  refine hK1 _ ?_
  clear hK1 K1
  refine wpPre_i rfl (fun K1 hK1 => ?_)
  rw [if_pos (by go_simp)]
  apply Exists.intro
  refine And.intro (fun wx hx => ?_) ?_
  · go_simp
    try rfl
  go_simp
  refine hK1 _ ?_
  clear hK1 K1
  refine wpPre_e rfl rfl (fun K1 hK1 => ?_)
  apply Exists.intro
  refine And.intro (fun wx hx => ?_) ?_
  · go_simp
    try rfl
  go_simp
  refine hK1 _ ?_
  clear hK1 K1
  refine wpPre_e rfl rfl (fun K1 hK1 => ?_)
  apply Exists.intro
  refine And.intro (fun wx hx => ?_) ?_
  · go_simp
    try rfl
  go_simp
  refine hK1 _ ?_
  clear hK1 K1
  refine wpPre_i rfl (fun K1 hK1 => ?_)
  rw [if_pos (by go_simp)]
  apply Exists.intro
  refine And.intro (fun wx hx => ?_) ?_
  · go_simp
    try rfl
  go_simp
  refine hK1 _ ?_
  clear hK1 K1
  refine wpPre_i rfl (fun K1 hK1 => ?_)
  rw [if_pos (by go_simp)]
  apply Exists.intro
  refine And.intro (fun wx hx => ?_) ?_
  · go_simp
    try rfl
  go_simp
  refine hK1 _ ?_
  clear hK1 K1
  refine wpPre_nil ?_
  refine wpTr_e rfl (fun K1 hK1 => ?_)
  refine step_callG (by first | rfl | go_simp) 13 #[.tmp 247] _ rfl Try.f13 Try.func13 (by kernel_rfl) rfl #[.pointer (some ⟨a, 0, none⟩)] rfl _ (HLa.out) ?_
  rintro e_ w13 ⟨ga, Ka, rfl, hka, hFa, hSa, hfa⟩
  refine ⟨_, rfl, ?_⟩
  have HFa := hid hFa
  have HF13 := hid ((HF12.out.drew.fr hfa).mono hka)
  have HLb := hid (st_list hSa.swap)
  rw [← HNn.out] at HLb
  clear hFa hSa hka hfa
  go_simp
  refine hK1 _ _ (fun h => by cases h) ?_
  clear hK1 K1
  refine wpPre_nil ?_
  refine wpTr_e rfl (fun K1 hK1 => ?_)
  refine step_callG (by first | rfl | go_simp) 13 #[.tmp 249] _ rfl Try.f13 Try.func13 (by kernel_rfl) rfl #[.pointer (some ⟨b, 0, none⟩)] rfl _ (HLb.out) ?_
  rintro e_ w14 ⟨gb, Kb, rfl, hkb, hFb, hSb, hfb⟩
  refine ⟨_, rfl, ?_⟩
  have HFb := hid hFb
  have HF14 := hid ((HF13.out.fr hfb).mono hkb)
  have HSb := hid hSb.swap
  have HQb := hid (sameFs_yes w14 D (some ⟨ga, 0, none⟩) (some ⟨gb, 0, none⟩) n n (HFa.out.fr hfb).now HFb.out.now (by rw [← HNn.out]; omega))
  rw [← HNn.out] at HQb
  clear hFb hSb hkb hfb
  go_simp
  refine hK1 _ _ (fun h => by cases h) ?_
  clear hK1 K1
  refine wpPre_nil ?_
  refine wpTr_e rfl (fun K1 hK1 => ?_)
  refine step_callG (by first | rfl | go_simp) 21 #[.tmp 248, .tmp 250] _ rfl Try.f21 Try.func21 (by kernel_rfl) rfl #[.slice (some ⟨ga, 0, none⟩) n n, .slice (some ⟨gb, 0, none⟩) n n] rfl _ (HQb.out) ?_
  rintro e_ w15 ⟨rfl, hb15⟩
  refine ⟨_, rfl, ?_⟩
  have HF15 := hid (HF14.out.below hb15)
  have HS15 := hid (HSb.out.below hb15)
  clear hb15
  go_simp
  refine hK1 _ _ (fun h => by cases h) ?_
  clear hK1 K1
  refine wpPre_i rfl (fun K1 hK1 => ?_)
  rw [if_pos (by go_simp)]
  apply Exists.intro
  refine And.intro (fun wx hx => ?_) ?_
  · go_simp
    try rfl
  go_simp
  refine hK1 _ ?_
  clear hK1 K1
  refine wpPre_e rfl rfl (fun K1 hK1 => ?_)
  apply Exists.intro
  refine And.intro (fun wx hx => ?_) ?_
  · go_simp
    try rfl
  go_simp
  refine hK1 _ ?_
  clear hK1 K1
  refine wpPre_nil ?_
  refine wpTr_done ?_
  have HLc := hid (st_list HS15.out)
  rw [← HNn.out] at HLc
  clear HQb HFa HFb HLb HLa
  go_wp2_with fail
  refine HLc.out.mono ?_
  rintro e w16 ⟨gc, Kc, rfl, hkc, hFc, hSc, hfc⟩
  have HSc := hid hSc
  have HQc := hid (sameFs_yes w16 D (some ⟨gc, 0, none⟩) (some ⟨g, 0, none⟩) n n hFc.now ((HF15.out.fr hfc).mono hkc).now (by rw [← HNn.out]; omega))
  rw [← HNn.out] at HQc
  clear hFc hSc hkc hfc HLc
  go_wp2_with fail
  refine HQc.out.mono ?_
  rintro e w17 ⟨rfl, hb17⟩
  have HBe := hid (HSc.out.below hb17).bel
  clear hb17 HQc
  go_wp2
  exact bodyPost_ret (v := .bool true) (by simp [results, Try.results6, go_sem]) rfl ⟨rfl, HBe.out⟩
end Go.Proofs.Ytoefbcagokgfcaa
