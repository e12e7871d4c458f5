import Derived.Test.YtikfpoabaaiegaaPack21
import Derived.Test.YtikfpoabaaiegaaPack9
import Derived.Test.YtikfpoabaaiegaaPack7
namespace Go.Proofs.Ytikfpoabaaiegaa
open Go.RowKit
set_option maxRecDepth 8000
theorem cells_at {w0 : World} {rb : Nat} {S : Nat → Prop} {gb go bc : Nat} {B : List Int} (h : GB w0 rb S (some ⟨gb, go, none⟩) bc B) {w : World} (hb : Below rb w0 w) {p n : Nat} (hn : p + n ≤ B.length) : ∀ j u, ((((B.drop p).take n)).map (Value.int .u8))[j]? = some u → w.cell? ((⟨gb, go + p, none⟩ : Addr).add j) = some u := by
  intro j u hu
  have hj : j < n := by
    rcases Nat.lt_or_ge j n with h1 | h1
    · exact h1
    · rw [List.getElem?_eq_none (by simp; omega)] at hu; cases hu
  obtain ⟨b, o, e, hc, _⟩ := h.cell hb (show p + j < B.length by omega)
  cases e
  rw [Go.WideShapes.add_plain, Nat.add_assoc]
  rw [hc]
  rw [← hu]
  simp [List.getD_eq_getElem?_getD, hj, List.getElem?_eq_getElem (show p + j < B.length by omega)]
set_option maxHeartbeats 8000000 in
theorem refPiece_key {w0 : World} {rb : Nat} {w : World} {bp : Option Addr} {bc : Nat} {S : Nat → Prop} {B : List Int} {p : Nat} {g : Bg} (hB : GB w0 rb S bp bc B) (h : GMv w0 rb w (.slice bp B.length bc) (p : Int) 0 g) (hp : p ≤ B.length) (hf : Few_ g p)  : Calls Try.prog 116 #[.pointer (some ⟨rb, 0, none⟩), .int .u8 (107 : Int)] w fun x w' => PcP (pieceR 107 g) w0 rb (.slice bp B.length bc) B p x w' := by
  obtain ⟨a, b, cc, V', h, hv⟩ := h
  have hlen := hB.len
  have HBB := hid hB
  have HM := hid h
  have HV := hid hv
  have HP := hid (And.intro hp hf)
  have hws := h.box.lt
  have d0 := h.box.cell 0
  have d1 := h.box.cell 1
  have d2 := h.box.cell 2
  have g1 := h.box.frozen 1
  have g2 := h.box.frozen 2
  simp at d0 d1 d2
  have hpb : (p : Int) ≤ 1000000 := by omega
  have hsub : IntKind.i64.wrap ((B.length : Int) - (p : Int)) = (B.length : Int) - (p : Int) := by rw [IntKind.wrap_i64]; omega
  obtain ⟨iS, KdS⟩ := kindSt
  have HKS := hid KdS
  have HPc : Hid (pieceR 107 g (B.drop p) = bindS keyS (fun k => retS ⟨g.N, g.K ++ [k], g.V⟩) (B.drop p)) := rfl
  have HNm := hid (refNumber_any hB h.drew hp 12)
  have hlK := hf.K
  clear h hv hp hf KdS
  go_enter Try.func116, Try.ntmps116
  go_wp2_with fail
  refine wp_region_calmD 30 (fun wx => Below w.heap.size w wx) [(0, true), (1, true), (2, true), (3, false), (4, true), (5, true), (6, true), (7, true), (8, false), (9, true), (10, true)] [] (by kernel_rfl) (by kernel_rfl) (Below.refl _ _).drew ?_
  refine wpPre_e rfl rfl (fun K1 hK1 => ?_)
  apply Exists.intro
  refine And.intro (fun wx hx => ?_) ?_
  · go_simp
    try rfl
  go_simp
  refine hK1 _ ?_
  clear hK1 K1
  refine wpPre_e rfl rfl (fun K1 hK1 => ?_)
  apply Exists.intro
  refine And.intro (fun wx hx => ?_) ?_
  · go_simp
    try rfl
  go_simp
  refine hK1 _ ?_
  clear hK1 K1
  refine wpPre_e rfl rfl (fun K1 hK1 => ?_)
  apply Exists.intro
  refine And.intro (fun wx hx => ?_) ?_
  · go_simp
    try rfl
  go_simp
  refine hK1 _ ?_
  clear hK1 K1
  refine wpPre_e rfl rfl (fun K1 hK1 => ?_)
  apply Exists.intro
  refine And.intro (fun wx hx => ?_) ?_
  · have e0 := below_fact hx rfl d0
    have e1 := below_fact hx rfl d1
    go_simp
    try rfl
  go_simp
  refine hK1 _ ?_
  clear hK1 K1
  refine wpPre_e rfl rfl (fun K1 hK1 => ?_)
  apply Exists.intro
  refine And.intro (fun wx hx => ?_) ?_
  · go_simp
    try rfl
  go_simp
  refine hK1 _ ?_
  clear hK1 K1
  refine wpPre_e rfl rfl (fun K1 hK1 => ?_)
  apply Exists.intro
  refine And.intro (fun wx hx => ?_) ?_
  · go_simp
    try rfl
  go_simp
  refine hK1 _ ?_
  clear hK1 K1
  refine wpPre_e rfl rfl (fun K1 hK1 => ?_)
  apply Exists.intro
  refine And.intro (fun wx hx => ?_) ?_
  · go_simp
    try rfl
  go_simp
  refine hK1 _ ?_
  clear hK1 K1
  refine wpPre_e rfl rfl (fun K1 hK1 => ?_)
  apply Exists.intro
  refine And.intro (fun wx hx => ?_) ?_
  · go_simp
    try rfl
  go_simp
  refine hK1 _ ?_
  clear hK1 K1
  refine wpPre_e rfl rfl (fun K1 hK1 => ?_)
  apply Exists.intro
  refine And.intro (fun wx hx => ?_) ?_
  · have e0 := below_fact hx rfl d0
    have e1 := below_fact hx rfl d1
    go_simp
    try rfl
  go_simp
  refine hK1 _ ?_
  clear hK1 K1
  refine wpPre_e rfl rfl (fun K1 hK1 => ?_)
  apply Exists.intro
  refine And.intro (fun wx hx => ?_) ?_
  · go_simp
    try rfl
  go_simp
  refine hK1 _ ?_
  clear hK1 K1
  refine wpPre_e rfl rfl (fun K1 hK1 => ?_)
  apply Exists.intro
  refine And.intro (fun wx hx => ?_) ?_
  · go_simp
    try rfl
  go_simp
  refine hK1 _ ?_
  clear hK1 K1
  refine wpPre_nil ?_
  refine wpStg_nil ?_
  go_wp2_with fail
  refine HNm.out.mono ?_
  rintro x w2 hn
  clear d0 d1 d2 g1 g2 HM HNm hws
  cases hZ : numS 12 (B.drop p) with
  | error k =>
    obtain ⟨hk0, n, pa, hn1, hpa1, hpa2, rfl, hM2⟩ := hn.2 k hZ
    have HS : Hid (pieceR 107 g (B.drop p) = .error k) := by unfold Hid; rw [HPc.out]; unfold bindS keyS bindS; rw [hZ]
    have HK0 := hid hk0
    have HF := hid hM2.drew
    have hke : ((k : Int) == 0) = false := by simpa using hk0
    have hws := hM2.box.lt
    have d0 := hM2.box.cell 0
    have d1 := hM2.box.cell 1
    have d2 := hM2.box.cell 2
    simp at d0 d1 d2
    clear hn hZ hM2 hB HPc hk0
    go_wp2_with fail
    refine wp_region_calmD 30 (fun wx => Below w2.heap.size w2 wx) [(0, true), (1, true), (2, true), (3, false), (4, true), (5, true), (6, true), (7, true), (8, true), (9, true), (10, false), (11, true), (12, true), (13, true), (14, true), (15, false), (16, true), (17, true), (18, true)] [] (by kernel_rfl) (by kernel_rfl) (Below.refl _ _).drew ?_
    refine wpPre_e rfl rfl (fun K1 hK1 => ?_)
    apply Exists.intro
    refine And.intro (fun wx hx => ?_) ?_
    · go_simp
      try rfl
    go_simp
    refine hK1 _ ?_
    clear hK1 K1
    refine wpPre_e rfl rfl (fun K1 hK1 => ?_)
    apply Exists.intro
    refine And.intro (fun wx hx => ?_) ?_
    · go_simp
      try rfl
    go_simp
    refine hK1 _ ?_
    clear hK1 K1
    refine wpPre_e rfl rfl (fun K1 hK1 => ?_)
    apply Exists.intro
    refine And.intro (fun wx hx => ?_) ?_
    · go_simp
      try rfl
    go_simp
    refine hK1 _ ?_
    clear hK1 K1
    refine wpPre_e rfl rfl (fun K1 hK1 => ?_)
    apply Exists.intro
    refine And.intro (fun wx hx => ?_) ?_
    · have e0 := below_fact hx rfl d0
      have e1 := below_fact hx rfl d1
      have e2 := below_fact hx rfl d2
      go_simp
      try rfl
    go_simp
    refine hK1 _ ?_
    clear hK1 K1
    refine wpPre_e rfl rfl (fun K1 hK1 => ?_)
    apply Exists.intro
    refine And.intro (fun wx hx => ?_) ?_
    · go_simp
      try rfl
    go_simp
    refine hK1 _ ?_
    clear hK1 K1
    refine wpPre_e rfl rfl (fun K1 hK1 => ?_)
    apply Exists.intro
    refine And.intro (fun wx hx => ?_) ?_
    · go_simp
      try rfl
    go_simp
    refine hK1 _ ?_
    clear hK1 K1
    refine wpPre_i rfl (fun K1 hK1 => ?_)
    rw [if_neg (by go_simp)]
    go_simp
    refine hK1 _ ?_
    clear hK1 K1
    refine wpPre_i rfl (fun K1 hK1 => ?_)
    rw [if_neg (by go_simp)]
    go_simp
    refine hK1 _ ?_
    clear hK1 K1
    refine wpPre_i rfl (fun K1 hK1 => ?_)
    rw [if_neg (by go_simp)]
    go_simp
    refine hK1 _ ?_
    clear hK1 K1
    refine wpPre_i rfl (fun K1 hK1 => ?_)
    rw [if_neg (by go_simp)]
    go_simp
    refine hK1 _ ?_
    clear hK1 K1
    refine wpPre_i rfl (fun K1 hK1 => ?_)
    rw [if_neg (by go_simp)]
    go_simp
    refine hK1 _ ?_
    clear hK1 K1
    refine wpPre_i rfl (fun K1 hK1 => ?_)
    rw [if_neg (by go_simp)]
    go_simp
    refine hK1 _ ?_
    clear hK1 K1
    refine wpPre_i rfl (fun K1 hK1 => ?_)
    rw [if_neg (by go_simp)]
    go_simp
    refine hK1 _ ?_
    clear hK1 K1
    refine wpPre_i rfl (fun K1 hK1 => ?_)
    rw [if_neg (by go_simp)]
    go_simp
    refine hK1 _ ?_
    clear hK1 K1
    refine wpPre_i rfl (fun K1 hK1 => ?_)
    rw [if_neg (by go_simp)]
    go_simp
    refine hK1 _ ?_
    clear hK1 K1
    refine wpPre_i rfl (fun K1 hK1 => ?_)
    rw [if_neg (by go_simp)]
    go_simp
    refine hK1 _ ?_
    clear hK1 K1
    refine wpPre_i rfl (fun K1 hK1 => ?_)
    rw [if_neg (by go_simp)]
    go_simp
    refine hK1 _ ?_
    clear hK1 K1
    refine wpPre_i rfl (fun K1 hK1 => ?_)
    rw [if_neg (by go_simp)]
    go_simp
    refine hK1 _ ?_
    clear hK1 K1
    refine wpPre_e rfl rfl (fun K1 hK1 => ?_)
    apply Exists.intro
    refine And.intro (fun wx hx => ?_) ?_
    · go_simp
      try rfl
    go_simp
    refine hK1 _ ?_
    clear hK1 K1
    refine wpPre_nil ?_
    refine wpStg_nil ?_
    go_wp2
    refine bodyPost_end (results_none rfl _ _ _) rfl ?_
    refine ⟨rfl, fun y R hy => (by rw [HS.out] at hy; cases hy), fun e he => (by rw [HS.out] at he; cases he; exact ⟨HK0.out, _, g, _, _, _, V', HF.out, HV.out⟩)⟩
  | ok z =>
    obtain ⟨n, R⟩ := z
    obtain ⟨p', hp', hR, hpp, hnb, rfl, hM2⟩ := hn.1 n R hZ
    subst hR
    have hws := hM2.box.lt
    have d0 := hM2.box.cell 0
    have d1 := hM2.box.cell 1
    have d2 := hM2.box.cell 2
    have g2 := hM2.box.frozen 2
    simp at d0 d1 d2
    have HM2 := hid hM2
    have hpb2 : (p' : Int) ≤ 1000000 := by omega
    have hsub2 : IntKind.i64.wrap ((B.length : Int) - (p' : Int)) = (B.length : Int) - (p' : Int) := by rw [IntKind.wrap_i64]; omega
    by_cases hgt : B.length < p' + n
    · have hgt' : (B.length : Int) - (p' : Int) < (n : Int) := by omega
      have HS : Hid (pieceR 107 g (B.drop p) = .error 40) := by
        unfold Hid
        rw [HPc.out]
        unfold bindS keyS bindS
        rw [hZ]
        simp only
        unfold takeS
        rw [if_neg (by rw [List.length_drop]; omega)]
      have HF := hid ((HM2.out.setE 40).drew)
      have c2 := (HM2.out.setE 40).box.cell 2
      simp at c2
      clear hn hZ hM2 hB HPc HM2
      go_wp2_with fail
      refine wp_region_calmD 30 (fun wx => Below w2.heap.size w2 wx) [(0, true), (1, true), (2, true), (3, false), (4, true), (5, true), (6, true), (7, true), (8, true), (9, true), (10, false), (11, true), (12, true), (13, true), (14, true), (15, false), (16, true), (17, true), (18, true)] [] (by kernel_rfl) (by kernel_rfl) (Below.refl _ _).drew ?_
      refine wpPre_e rfl rfl (fun K1 hK1 => ?_)
      apply Exists.intro
      refine And.intro (fun wx hx => ?_) ?_
      · go_simp
        try rfl
      go_simp
      refine hK1 _ ?_
      clear hK1 K1
      refine wpPre_e rfl rfl (fun K1 hK1 => ?_)
      apply Exists.intro
      refine And.intro (fun wx hx => ?_) ?_
      · go_simp
        try rfl
      go_simp
      refine hK1 _ ?_
      clear hK1 K1
      refine wpPre_e rfl rfl (fun K1 hK1 => ?_)
      apply Exists.intro
      refine And.intro (fun wx hx => ?_) ?_
      · go_simp
        try rfl
      go_simp
      refine hK1 _ ?_
      clear hK1 K1
      refine wpPre_e rfl rfl (fun K1 hK1 => ?_)
      apply Exists.intro
      refine And.intro (fun wx hx => ?_) ?_
      · have e0 := below_fact hx rfl d0
        have e1 := below_fact hx rfl d1
        have e2 := below_fact hx rfl d2
        go_simp
        try rfl
      go_simp
      refine hK1 _ ?_
      clear hK1 K1
      refine wpPre_e rfl rfl (fun K1 hK1 => ?_)
      apply Exists.intro
      refine And.intro (fun wx hx => ?_) ?_
      · go_simp
        try rfl
      go_simp
      refine hK1 _ ?_
      clear hK1 K1
      refine wpPre_e rfl rfl (fun K1 hK1 => ?_)
      apply Exists.intro
      refine And.intro (fun wx hx => ?_) ?_
      · go_simp
        try rfl
      go_simp
      refine hK1 _ ?_
      clear hK1 K1
      refine wpPre_i rfl (fun K1 hK1 => ?_)
      rw [if_pos (by go_simp)]
      apply Exists.intro
      refine And.intro (fun wx hx => ?_) ?_
      · go_simp
        try rfl
      go_simp
      refine hK1 _ ?_
      clear hK1 K1
      refine wpPre_i rfl (fun K1 hK1 => ?_)
      rw [if_pos (by go_simp)]
      apply Exists.intro
      refine And.intro (fun wx hx => ?_) ?_
      · go_simp
        try rfl
      go_simp
      refine hK1 _ ?_
      clear hK1 K1
      refine wpPre_i rfl (fun K1 hK1 => ?_)
      rw [if_pos (by go_simp)]
      apply Exists.intro
      refine And.intro (fun wx hx => ?_) ?_
      · go_simp
        try rfl
      go_simp
      refine hK1 _ ?_
      clear hK1 K1
      refine wpPre_i rfl (fun K1 hK1 => ?_)
      rw [if_pos (by go_simp)]
      apply Exists.intro
      refine And.intro (fun wx hx => ?_) ?_
      · go_simp
        try rfl
      go_simp
      refine hK1 _ ?_
      clear hK1 K1
      refine wpPre_i rfl (fun K1 hK1 => ?_)
      rw [if_pos (by go_simp)]
      apply Exists.intro
      refine And.intro (fun wx hx => ?_) ?_
      · have e0 := below_fact hx rfl d0
        have e1 := below_fact hx rfl d1
        have e2 := below_fact hx rfl d2
        go_simp
        try rfl
      go_simp
      refine hK1 _ ?_
      clear hK1 K1
      refine wpPre_i rfl (fun K1 hK1 => ?_)
      rw [if_pos (by go_simp)]
      apply Exists.intro
      refine And.intro (fun wx hx => ?_) ?_
      · go_simp
        try rfl
      go_simp
      refine hK1 _ ?_
      clear hK1 K1
      refine wpPre_i rfl (fun K1 hK1 => ?_)
      rw [if_pos (by go_simp)]
      apply Exists.intro
      refine And.intro (fun wx hx => ?_) ?_
      · go_simp
        try rfl
      go_simp
      refine hK1 _ ?_
      clear hK1 K1
      refine wpPre_i rfl (fun K1 hK1 => ?_)
      rw [if_pos (by go_simp)]
      apply Exists.intro
      refine And.intro (fun wx hx => ?_) ?_
      · go_simp
        try rfl
      go_simp
      refine hK1 _ ?_
      clear hK1 K1
      refine wpPre_i rfl (fun K1 hK1 => ?_)
      rw [if_pos (by go_simp)]
      apply Exists.intro
      refine And.intro (fun wx hx => ?_) ?_
      · go_simp
        try rfl
      go_simp
      refine hK1 _ ?_
      clear hK1 K1
      refine wpPre_i rfl (fun K1 hK1 => ?_)
      rw [if_pos (by go_simp)]
      apply Exists.intro
      refine And.intro (fun wx hx => ?_) ?_
      · have e0 := below_fact hx rfl d0
        have e1 := below_fact hx rfl d1
        have e2 := below_fact hx rfl d2
        go_simp
        try rfl
      go_simp
      refine hK1 _ ?_
      clear hK1 K1
      refine wpPre_i rfl (fun K1 hK1 => ?_)
      rw [if_pos (by go_simp)]
      apply Exists.intro
      refine And.intro (fun wx hx => ?_) ?_
      · go_simp
        try rfl
      go_simp
      refine hK1 _ ?_
      clear hK1 K1
      refine wpPre_i rfl (fun K1 hK1 => ?_)
      rw [if_pos (by go_simp)]
      apply Exists.intro
      refine And.intro (fun wx hx => ?_) ?_
      · go_simp
        try rfl
      go_simp
      refine hK1 _ ?_
      clear hK1 K1
      refine wpPre_e rfl rfl (fun K1 hK1 => ?_)
      apply Exists.intro
      refine And.intro (fun wx hx => ?_) ?_
      · go_simp
        try rfl
      go_simp
      refine hK1 _ ?_
      clear hK1 K1
      refine wpPre_nil ?_
      refine wpStg_nil ?_
      go_wp2
      refine bodyPost_end (results_none rfl _ _ _) rfl ?_
      refine ⟨rfl, fun y R hy => (by rw [HS.out] at hy; cases hy), fun e he => (by rw [HS.out] at he; cases he; exact ⟨by decide, _, g, _, _, _, V', HF.out, HV.out⟩)⟩
    · have hgt' : ¬ (B.length : Int) - (p' : Int) < (n : Int) := by omega
      have HS : Hid (pieceR 107 g (B.drop p) = .ok (⟨g.N, g.K ++ [strOf ((B.drop p').take n)], g.V⟩, B.drop (p' + n))) := by
        unfold Hid
        rw [HPc.out]
        unfold bindS keyS bindS
        rw [hZ]
        simp only
        unfold takeS
        rw [if_pos (by rw [List.length_drop]; omega)]
        simp only [retS, List.drop_drop]
      obtain ⟨gb, go, hbp⟩ : ∃ gb go, bp = some ⟨gb, go, none⟩ := by
        obtain ⟨b1, o1, hp1, _⟩ := hB.byts.at_ (by omega)
        exact ⟨b1, o1, hp1⟩
      subst hbp
      have hcap := hB.byts.nc
      have hcc := hB.byts.cc
      have hTl : ((B.drop p').take n).length = n := by simp; omega
      have HCv : Hid (∀ wx, Below w2.heap.size w2 wx → (convert 47 9 (.slice (if bc = p' then some ⟨gb, go, none⟩ else some ⟨gb, go + p', none⟩) n (bc - p'))).run Try.prog wx = .ok (.string (strOf ((B.drop p').take n))) wx) := by
        intro wx hx
        by_cases hbe : bc = p'
        · have hn0 : n = 0 := by omega
          have h1 := conv_at (w := wx) (ad := ⟨gb, go, none⟩) (c := bc - p') (zs := (B.drop p').take n) (fun j u hu => by rw [hn0] at hu; simp at hu)
          rw [hTl] at h1
          rw [if_pos hbe]
          exact h1
        · have h1 := conv_at (w := wx) (ad := ⟨gb, go + p', none⟩) (c := bc - p') (zs := (B.drop p').take n) (cells_at hB (hM2.below.trans (hx.mono (by omega))) (by omega))
          rw [hTl] at h1
          rw [if_neg hbe]
          exact h1
      obtain ⟨ks, hks⟩ : ∃ ks, ks = strOf ((B.drop p').take n) := ⟨_, rfl⟩
      rw [← hks] at HS HCv
      have x4 := hM2.box.cell 4
      simp at x4
      have hadd : IntKind.i64.wrap ((p' : Int) + (n : Int)) = (p' : Int) + (n : Int) := by rw [IntKind.wrap_i64]; omega
      have hs1 : (p' : Int) + (n : Int) ≤ (bc : Int) := by omega
      have hs2 : (p' : Int) ≤ (p' : Int) + (n : Int) := by omega
      have htn : ((p' : Int) + (n : Int)).toNat = p' + n := by omega
      obtain ⟨pk, ck, hbk⟩ := ownsRow_slice hM2.oK
      subst hbk
      clear hn hZ hB HPc hks hTl
      go_wp2_with fail
      refine wp_region_calmD 30 (fun wx => Below w2.heap.size w2 wx) [(0, true), (1, true), (2, true), (3, false), (4, true), (5, true), (6, true), (7, true), (8, true), (9, true), (10, false), (11, true), (12, true), (13, true), (14, true), (15, false), (16, true), (17, true), (18, true)] [] (by kernel_rfl) (by kernel_rfl) (Below.refl _ _).drew ?_
      refine wpPre_e rfl rfl (fun K1 hK1 => ?_)
      apply Exists.intro
      refine And.intro (fun wx hx => ?_) ?_
      · go_simp
        try rfl
      go_simp
      refine hK1 _ ?_
      clear hK1 K1
      refine wpPre_e rfl rfl (fun K1 hK1 => ?_)
      apply Exists.intro
      refine And.intro (fun wx hx => ?_) ?_
      · go_simp
        try rfl
      go_simp
      refine hK1 _ ?_
      clear hK1 K1
      refine wpPre_e rfl rfl (fun K1 hK1 => ?_)
      apply Exists.intro
      refine And.intro (fun wx hx => ?_) ?_
      · go_simp
        try rfl
      go_simp
      refine hK1 _ ?_
      clear hK1 K1
      refine wpPre_e rfl rfl (fun K1 hK1 => ?_)
      apply Exists.intro
      refine And.intro (fun wx hx => ?_) ?_
      · have e0 := below_fact hx rfl d0
        have e1 := below_fact hx rfl d1
        have e2 := below_fact hx rfl d2
        go_simp
        try rfl
      go_simp
      refine hK1 _ ?_
      clear hK1 K1
      refine wpPre_e rfl rfl (fun K1 hK1 => ?_)
      apply Exists.intro
      refine And.intro (fun wx hx => ?_) ?_
      · go_simp
        try rfl
      go_simp
      refine hK1 _ ?_
      clear hK1 K1
      refine wpPre_e rfl rfl (fun K1 hK1 => ?_)
      apply Exists.intro
      refine And.intro (fun wx hx => ?_) ?_
      · go_simp
        try rfl
      go_simp
      refine hK1 _ ?_
      clear hK1 K1
      refine wpPre_i rfl (fun K1 hK1 => ?_)
      rw [if_pos (by go_simp)]
      apply Exists.intro
      refine And.intro (fun wx hx => ?_) ?_
      · go_simp
        try rfl
      go_simp
      refine hK1 _ ?_
      clear hK1 K1
      refine wpPre_i rfl (fun K1 hK1 => ?_)
      rw [if_pos (by go_simp)]
      apply Exists.intro
      refine And.intro (fun wx hx => ?_) ?_
      · go_simp
        try rfl
      go_simp
      refine hK1 _ ?_
      clear hK1 K1
      refine wpPre_i rfl (fun K1 hK1 => ?_)
      rw [if_pos (by go_simp)]
      apply Exists.intro
      refine And.intro (fun wx hx => ?_) ?_
      · go_simp
        try rfl
      go_simp
      refine hK1 _ ?_
      clear hK1 K1
      refine wpPre_i rfl (fun K1 hK1 => ?_)
      rw [if_pos (by go_simp)]
      apply Exists.intro
      refine And.intro (fun wx hx => ?_) ?_
      · go_simp
        try rfl
      go_simp
      refine hK1 _ ?_
      clear hK1 K1
      refine wpPre_i rfl (fun K1 hK1 => ?_)
      rw [if_pos (by go_simp)]
      apply Exists.intro
      refine And.intro (fun wx hx => ?_) ?_
      · have e0 := below_fact hx rfl d0
        have e1 := below_fact hx rfl d1
        have e2 := below_fact hx rfl d2
        go_simp
        try rfl
      go_simp
      refine hK1 _ ?_
      clear hK1 K1
      refine wpPre_i rfl (fun K1 hK1 => ?_)
      rw [if_pos (by go_simp)]
      apply Exists.intro
      refine And.intro (fun wx hx => ?_) ?_
      · go_simp
        try rfl
      go_simp
      refine hK1 _ ?_
      clear hK1 K1
      refine wpPre_i rfl (fun K1 hK1 => ?_)
      rw [if_pos (by go_simp)]
      apply Exists.intro
      refine And.intro (fun wx hx => ?_) ?_
      · go_simp
        try rfl
      go_simp
      refine hK1 _ ?_
      clear hK1 K1
      refine wpPre_i rfl (fun K1 hK1 => ?_)
      rw [if_pos (by go_simp)]
      apply Exists.intro
      refine And.intro (fun wx hx => ?_) ?_
      · go_simp
        try rfl
      go_simp
      refine hK1 _ ?_
      clear hK1 K1
      refine wpPre_i rfl (fun K1 hK1 => ?_)
      rw [if_pos (by go_simp)]
      apply Exists.intro
      refine And.intro (fun wx hx => ?_) ?_
      · go_simp
        try rfl
      go_simp
      refine hK1 _ ?_
      clear hK1 K1
      refine wpPre_i rfl (fun K1 hK1 => ?_)
      rw [if_pos (by go_simp)]
      apply Exists.intro
      refine And.intro (fun wx hx => ?_) ?_
      · have e0 := below_fact hx rfl d0
        have e1 := below_fact hx rfl d1
        have e2 := below_fact hx rfl d2
        go_simp
        try rfl
      go_simp
      refine hK1 _ ?_
      clear hK1 K1
      refine wpPre_i rfl (fun K1 hK1 => ?_)
      rw [if_pos (by go_simp)]
      apply Exists.intro
      refine And.intro (fun wx hx => ?_) ?_
      · go_simp
        try rfl
      go_simp
      refine hK1 _ ?_
      clear hK1 K1
      refine wpPre_i rfl (fun K1 hK1 => ?_)
      rw [if_pos (by go_simp)]
      apply Exists.intro
      refine And.intro (fun wx hx => ?_) ?_
      · go_simp
        try rfl
      go_simp
      refine hK1 _ ?_
      clear hK1 K1
      refine wpPre_e rfl rfl (fun K1 hK1 => ?_)
      apply Exists.intro
      refine And.intro (fun wx hx => ?_) ?_
      · go_simp
        try rfl
      go_simp
      refine hK1 _ ?_
      clear hK1 K1
      refine wpPre_nil ?_
      refine wpStg_nil ?_
      go_wp2_with fail
      refine wp_region_calmD 30 (fun wx => Below w2.heap.size w2 wx) [(0, true), (1, true), (2, true), (3, true), (4, true), (5, false), (6, true), (7, true), (8, true), (9, false), (10, true), (11, true), (12, true), (13, false), (14, true), (15, true), (16, true), (17, false), (18, true), (19, true), (20, true), (21, false)] [(22, true, []), (23, false, [(24, true), (25, true), (26, true)]), (27, false, [])] (by kernel_rfl) (by kernel_rfl) (Below.refl _ _).drew.drew ?_
      refine wpPre_e rfl rfl (fun K1 hK1 => ?_)
      apply Exists.intro
      refine And.intro (fun wx hx => ?_) ?_
      · go_simp
        try rfl
      go_simp
      refine hK1 _ ?_
      clear hK1 K1
      refine wpPre_e rfl rfl (fun K1 hK1 => ?_)
      apply Exists.intro
      refine And.intro (fun wx hx => ?_) ?_
      · go_simp
        try rfl
      go_simp
      refine hK1 _ ?_
      clear hK1 K1
      refine wpPre_e rfl rfl (fun K1 hK1 => ?_)
      apply Exists.intro
      refine And.intro (fun wx hx => ?_) ?_
      · go_simp
        try rfl
      go_simp
      refine hK1 _ ?_
      clear hK1 K1
      refine wpPre_e rfl rfl (fun K1 hK1 => ?_)
      apply Exists.intro
      refine And.intro (fun wx hx => ?_) ?_
      · go_simp
        try rfl
      go_simp
      refine hK1 _ ?_
      clear hK1 K1
      refine wpPre_e rfl rfl (fun K1 hK1 => ?_)
      apply Exists.intro
      refine And.intro (fun wx hx => ?_) ?_
      · go_simp
        try rfl
      go_simp
      refine hK1 _ ?_
      clear hK1 K1
      refine wpPre_e rfl rfl (fun K1 hK1 => ?_)
      apply Exists.intro
      refine And.intro (fun wx hx => ?_) ?_
      · have e0 := below_fact hx rfl d0
        have e1 := below_fact hx rfl d1
        have e2 := below_fact hx rfl x4
        go_simp
        try rfl
      go_simp
      refine hK1 _ ?_
      clear hK1 K1
      refine wpPre_e rfl rfl (fun K1 hK1 => ?_)
      apply Exists.intro
      refine And.intro (fun wx hx => ?_) ?_
      · go_simp
        try rfl
      go_simp
      refine hK1 _ ?_
      clear hK1 K1
      refine wpPre_e rfl rfl (fun K1 hK1 => ?_)
      apply Exists.intro
      refine And.intro (fun wx hx => ?_) ?_
      · go_simp
        try rfl
      go_simp
      refine hK1 _ ?_
      clear hK1 K1
      refine wpPre_e rfl rfl (fun K1 hK1 => ?_)
      apply Exists.intro
      refine And.intro (fun wx hx => ?_) ?_
      · go_simp
        try rfl
      go_simp
      refine hK1 _ ?_
      clear hK1 K1
      refine wpPre_e rfl rfl (fun K1 hK1 => ?_)
      apply Exists.intro
      refine And.intro (fun wx hx => ?_) ?_
      · have e0 := below_fact hx rfl d0
        have e1 := below_fact hx rfl d1
        have e2 := below_fact hx rfl x4
        go_simp
        try rfl
      go_simp
      refine hK1 _ ?_
      clear hK1 K1
      refine wpPre_e rfl rfl (fun K1 hK1 => ?_)
      apply Exists.intro
      refine And.intro (fun wx hx => ?_) ?_
      · go_simp
        try rfl
      go_simp
      refine hK1 _ ?_
      clear hK1 K1
      refine wpPre_e rfl rfl (fun K1 hK1 => ?_)
      apply Exists.intro
      refine And.intro (fun wx hx => ?_) ?_
      · go_simp
        try rfl
      go_simp
      refine hK1 _ ?_
      clear hK1 K1
      refine wpPre_e rfl rfl (fun K1 hK1 => ?_)
      apply Exists.intro
      refine And.intro (fun wx hx => ?_) ?_
      · go_simp
        try rfl
      go_simp
      refine hK1 _ ?_
      clear hK1 K1
      refine wpPre_e rfl rfl (fun K1 hK1 => ?_)
      apply Exists.intro
      refine And.intro (fun wx hx => ?_) ?_
      · have e0 := below_fact hx rfl d0
        have e1 := below_fact hx rfl d1
        have e2 := below_fact hx rfl x4
        go_simp
        try rfl
      go_simp
      refine hK1 _ ?_
      clear hK1 K1
      refine wpPre_e rfl rfl (fun K1 hK1 => ?_)
      apply Exists.intro
      refine And.intro (fun wx hx => ?_) ?_
      · go_simp
        try rfl
      go_simp
      refine hK1 _ ?_
      clear hK1 K1
      refine wpPre_e rfl rfl (fun K1 hK1 => ?_)
      apply Exists.intro
      refine And.intro (fun wx hx => ?_) ?_
      · go_simp
        try rfl
      go_simp
      refine hK1 _ ?_
      clear hK1 K1
      refine wpPre_e rfl rfl (fun K1 hK1 => ?_)
      apply Exists.intro
      refine And.intro (fun wx hx => ?_) ?_
      · go_simp
        try rfl
      go_simp
      refine hK1 _ ?_
      clear hK1 K1
      refine wpPre_e rfl rfl (fun K1 hK1 => ?_)
      apply Exists.intro
      refine And.intro (fun wx hx => ?_) ?_
      · have e0 := below_fact hx rfl d0
        have e1 := below_fact hx rfl d1
        have e2 := below_fact hx rfl x4
        go_simp
        try rfl
      go_simp
      refine hK1 _ ?_
      clear hK1 K1
      refine wpPre_e rfl rfl (fun K1 hK1 => ?_)
      apply Exists.intro
      refine And.intro (fun wx hx => ?_) ?_
      · go_simp
        try rfl
      go_simp
      refine hK1 _ ?_
      clear hK1 K1
      refine wpPre_e rfl rfl (fun K1 hK1 => ?_)
      apply Exists.intro
      refine And.intro (fun wx hx => ?_) ?_
      · go_simp
        try rfl
      go_simp
      refine hK1 _ ?_
      clear hK1 K1
      refine wpPre_e rfl rfl (fun K1 hK1 => ?_)
      apply Exists.intro
      refine And.intro (fun wx hx => ?_) ?_
      · go_simp
        try rfl
      go_simp
      refine hK1 _ ?_
      clear hK1 K1
      refine wpPre_e rfl rfl (fun K1 hK1 => ?_)
      apply Exists.intro
      refine And.intro (fun wx hx => ?_) ?_
      · have e0 := HCv.out wx (hx.resolve_left (by decide))
        go_simp
        try rfl
      go_simp
      refine hK1 _ ?_
      clear hK1 K1
      refine wpPre_nil ?_
      have hal : Below w2.heap.size w2 ((w2.alloc (.cells #[.string ks] 9)).drew.drew) := ((Below.refl _ _).alloc (Nat.le_refl _) _).drew.drew
      have H1 := hid (hM2.kept hal)
      have HNw := hid (new_many0 w2 [.string ks] 9)
      refine wpStg_e rfl (fun K1 hK1 => ?_)
      go_simp
      refine hK1 _ _ (fun _ => hal) ?_
      clear hK1 K1 hal
      refine wpPre_nil ?_
      refine wpStg_e rfl (fun K1 hK1 => ?_)
      refine step_app rfl (.tmp 109) (.tmp 126) 32 9 iS _ 1 16 HKS.out rfl (rb + 1) _ g.K.length (strC g.K) rfl H1.out.oK ⟨w2.heap.size, 0, none⟩ 1 1 [.string ks] rfl rfl HNw.out (fun u hu => by simp at hu; rw [hu]; rfl) (by omega) (by omega) (by simp; omega) ?_
      intro v3 w3 ho3 hg3 hn3
      obtain ⟨p3, c3, rfl⟩ := ownsRow_slice ho3
      have hx3 := H1.out.boxK hg3
      have y1 := hx3.cell 4
      have g1 := hx3.frozen 4
      simp at y1
      clear hx3
      go_simp
      refine hK1 _ _ (fun h => by cases h) ?_
      clear hK1 K1
      refine wpPre_e rfl rfl (fun K1 hK1 => ?_)
      apply Exists.intro
      refine And.intro (fun wx hx => ?_) ?_
      · go_simp
        try rfl
      go_simp
      refine hK1 _ ?_
      clear hK1 K1
      refine wpPre_e rfl rfl (fun K1 hK1 => ?_)
      apply Exists.intro
      refine And.intro (fun wx hx => ?_) ?_
      · go_simp
        try rfl
      go_simp
      refine hK1 _ ?_
      clear hK1 K1
      refine wpPre_e rfl rfl (fun K1 hK1 => ?_)
      apply Exists.intro
      refine And.intro (fun wx hx => ?_) ?_
      · go_simp
        try rfl
      go_simp
      refine hK1 _ ?_
      clear hK1 K1
      refine wpPre_nil ?_
      refine wpStg_e rfl (fun K1 hK1 => ?_)
      go_simp
      refine hK1 _ _ (fun h => by cases h) ?_
      clear hK1 K1
      refine wpPre_nil ?_
      refine wpStg_nil ?_
      have hM4 := H1.out.keys (M := [ks]) ho3 hg3 hn3
      have z1 := hM4.box.cell 1
      have q1 := hM4.box.frozen 1
      simp at z1
      have HF := hid (hM4.setP ((p' : Int) + (n : Int)))
      have HPk : Hid ((p' : Int) + (n : Int) = ((p' + n : Nat) : Int)) := by unfold Hid; omega
      clear ho3 hg3 hn3 H1 hM4 y1 g1 HCv HM2 hM2 hsub2 hadd hsub
      generalize (if bc = p' then some (⟨gb, go, none⟩ : Addr) else some ⟨gb, go + p', none⟩) = ptr
      go_wp2
      refine bodyPost_end (results_none rfl _ _ _) rfl ?_
      refine ⟨rfl, fun y R2 hy => (by rw [HS.out] at hy; cases hy; exact ⟨p' + n, by omega, rfl, by omega, _, _, _, V', by rw [← HPk.out]; exact HF.out, HV.out⟩), fun e he => (by rw [HS.out] at he; cases he)⟩
end Go.Proofs.Ytikfpoabaaiegaa
