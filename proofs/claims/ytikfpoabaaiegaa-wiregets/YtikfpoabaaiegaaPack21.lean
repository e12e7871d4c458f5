import Derived.Test.YtikfpoabaaiegaaPack20
import Derived.Test.YtikfpoabaaiegaaPack7
namespace Go.Proofs.Ytikfpoabaaiegaa
open Go.RowKit
set_option maxRecDepth 8000
theorem new_many0 (w : World) (l : List Value) (e : TypeId) : ∀ j x, l[j]? = some x → (w.alloc (.cells l.toArray e)).cell? ((⟨w.heap.size, 0, none⟩ : Addr).add j) = some x := by
  intro j x h
  have h1 := (Box.new w l.toArray e).cell j
  rw [Go.WideShapes.add_plain, Nat.zero_add]
  exact h1.trans (by simpa using h)
set_option maxHeartbeats 8000000 in
theorem refPiece_num {w0 : World} {rb : Nat} {w : World} {bp : Option Addr} {bc : Nat} {S : Nat → Prop} {B : List Int} {p : Nat} {g : Bg} (hB : GB w0 rb S bp bc B) (h : GMv w0 rb w (.slice bp B.length bc) (p : Int) 0 g) (hp : p ≤ B.length) (hf : Few_ g p) {c : Nat} (c1 : ¬ (65 ≤ c ∧ c ≤ 90)) (c2 : c ≠ 107) (c3 : c ≠ 118) (c4 : c ≠ 119) (c5 : c < 256) : Calls Try.prog 116 #[.pointer (some ⟨rb, 0, none⟩), .int .u8 (c : Int)] w fun x w' => PcP (pieceR c g) w0 rb (.slice bp B.length bc) B p x w' := by
  obtain ⟨a, b, cc, V', h, hv⟩ := h
  have hlen := hB.len
  have HBB := hid hB
  have HM := hid h
  have HV := hid hv
  have HP := hid (And.intro hp hf)
  have hws := h.box.lt
  have d0 := h.box.cell 0
  have d1 := h.box.cell 1
  have d2 := h.box.cell 2
  have g1 := h.box.frozen 1
  have g2 := h.box.frozen 2
  simp at d0 d1 d2
  have hpb : (p : Int) ≤ 1000000 := by omega
  have hsub : IntKind.i64.wrap ((B.length : Int) - (p : Int)) = (B.length : Int) - (p : Int) := by rw [IntKind.wrap_i64]; omega
  obtain ⟨iI, KdI⟩ := kindI
  have HKI := hid KdI
  have HPc : Hid (pieceR c g (B.drop p) = bindS (numS (bndOf c)) (fun n => retS ⟨g.N ++ [(n : Int)], g.K, g.V⟩) (B.drop p)) := by unfold Hid pieceR; rw [if_neg c1, if_neg c2, if_neg c3, if_neg c4]
  have k2 : ((c : Int) == 107) = false := by simp; omega
  have k3 : ((c : Int) == 118) = false := by simp; omega
  have k4 : ((c : Int) == 119) = false := by simp; omega
  have HBd := hid (refBound_any c w.drew)
  have HNm := hid (refNumber_any hB h.drew hp (bndOf c))
  have hlN := hf.N
  clear hB h hv hp hf c2 c3 c4 KdI
  go_enter Try.func116, Try.ntmps116
  go_wp2_with fail
  refine wp_region_calmD 30 (fun wx => Below w.heap.size w wx) [(0, true), (1, true), (2, true), (3, false), (4, true), (5, true), (6, true), (7, true), (8, false), (9, true), (10, true)] [] (by kernel_rfl) (by kernel_rfl) (Below.refl _ _).drew ?_
  refine wpPre_e rfl rfl (fun K1 hK1 => ?_)
  apply Exists.intro
  refine And.intro (fun wx hx => ?_) ?_
  · go_simp
    try rfl
  go_simp
  refine hK1 _ ?_
  clear hK1 K1
  refine wpPre_e rfl rfl (fun K1 hK1 => ?_)
  apply Exists.intro
  refine And.intro (fun wx hx => ?_) ?_
  · go_simp
    try rfl
  go_simp
  refine hK1 _ ?_
  clear hK1 K1
  refine wpPre_e rfl rfl (fun K1 hK1 => ?_)
  apply Exists.intro
  refine And.intro (fun wx hx => ?_) ?_
  · go_simp
    try rfl
  go_simp
  refine hK1 _ ?_
  clear hK1 K1
  refine wpPre_e rfl rfl (fun K1 hK1 => ?_)
  apply Exists.intro
  refine And.intro (fun wx hx => ?_) ?_
  · have e0 := below_fact hx rfl d0
    have e1 := below_fact hx rfl d1
    go_simp
    try rfl
  go_simp
  refine hK1 _ ?_
  clear hK1 K1
  refine wpPre_e rfl rfl (fun K1 hK1 => ?_)
  apply Exists.intro
  refine And.intro (fun wx hx => ?_) ?_
  · go_simp
    try rfl
  go_simp
  refine hK1 _ ?_
  clear hK1 K1
  refine wpPre_e rfl rfl (fun K1 hK1 => ?_)
  apply Exists.intro
  refine And.intro (fun wx hx => ?_) ?_
  · go_simp
    try rfl
  go_simp
  refine hK1 _ ?_
  clear hK1 K1
  refine wpPre_e rfl rfl (fun K1 hK1 => ?_)
  apply Exists.intro
  refine And.intro (fun wx hx => ?_) ?_
  · go_simp
    try rfl
  go_simp
  refine hK1 _ ?_
  clear hK1 K1
  refine wpPre_e rfl rfl (fun K1 hK1 => ?_)
  apply Exists.intro
  refine And.intro (fun wx hx => ?_) ?_
  · go_simp
    try rfl
  go_simp
  refine hK1 _ ?_
  clear hK1 K1
  refine wpPre_e rfl rfl (fun K1 hK1 => ?_)
  apply Exists.intro
  refine And.intro (fun wx hx => ?_) ?_
  · have e0 := below_fact hx rfl d0
    have e1 := below_fact hx rfl d1
    go_simp
    try rfl
  go_simp
  refine hK1 _ ?_
  clear hK1 K1
  refine wpPre_e rfl rfl (fun K1 hK1 => ?_)
  apply Exists.intro
  refine And.intro (fun wx hx => ?_) ?_
  · go_simp
    try rfl
  go_simp
  refine hK1 _ ?_
  clear hK1 K1
  refine wpPre_e rfl rfl (fun K1 hK1 => ?_)
  apply Exists.intro
  refine And.intro (fun wx hx => ?_) ?_
  · go_simp
    try rfl
  go_simp
  refine hK1 _ ?_
  clear hK1 K1
  refine wpPre_nil ?_
  refine wpStg_nil ?_
  have HGo : Hid (∀ (P1 : Exit → Act → World → Prop) (fr : Act), P1 .normal fr w.drew → P1 .normal fr w.drew) := fun _ _ h => h
  by_cases hu : 65 ≤ c
  · have k0 : (65 : Int) ≤ (c : Int) := by omega
    have k1 : ¬ (c : Int) ≤ 90 := by omega
    clear hu c1
    go_wp2_with fail
    refine HBd.out.mono ?_
    rintro x w1 ⟨rfl, hw1⟩
    subst w1
    go_wp2_with fail
    refine HNm.out.mono ?_
    rintro x w2 hn
    cases hZ : numS (bndOf c) (B.drop p) with
    | error k =>
      obtain ⟨hk0, n, pa, hn1, hpa1, hpa2, rfl, hM2⟩ := hn.2 k hZ
      have HS : Hid (pieceR c g (B.drop p) = .error k) := by unfold Hid; rw [HPc.out]; unfold bindS; rw [hZ]
      have HK0 := hid hk0
      clear hn hZ HPc HBd HNm HM d0 d1 d2 g1 g2
      obtain ⟨pa3, ca3, rfl⟩ := ownsRow_slice hM2.oN
      have hws2 := hM2.box.lt
      have x3 := hM2.box.cell 3
      simp at x3
      have hal : Below w2.heap.size w2 (w2.alloc (.cells #[.int .i64 (n : Int)] 3)) := (Below.refl _ _).alloc (Nat.le_refl _) _
      have H1 := hid (hM2.kept hal)
      have HNw := hid (new_many0 w2 [.int .i64 (n : Int)] 3)
      clear hM2 hal
      go_wp2_with (at_builtin; refine wpList_app rfl (.tmp 31) (.tmp 33) 25 3 iI _ 1 8 HKI.out rfl (rb + 1) _ g.N.length (intC g.N) rfl H1.out.oN ⟨w2.heap.size, 0, none⟩ 1 1 [.int .i64 (n : Int)] rfl rfl HNw.out (fun u hu => by simp at hu; rw [hu]; rfl) (by omega) (by omega) (by simp; omega) ?_)
      intro v3 w3 ho3 hg3 hn3
      obtain ⟨p3, c3, rfl⟩ := ownsRow_slice ho3
      have hx3 := H1.out.boxN hg3
      have y3 := hx3.cell 3
      have g3 := hx3.frozen 3
      simp at y3
      have HF := hid (H1.out.nums (M := [(n : Int)]) ho3 hg3 hn3)
      clear hx3 ho3 hg3 hn3 H1
      go_wp2
      refine bodyPost_end (results_none rfl _ _ _) rfl ⟨rfl, fun y R hy => (by rw [HS.out] at hy; cases hy), fun e he => (by rw [HS.out] at he; cases he; exact ⟨HK0.out, _, ⟨g.N ++ [(n : Int)], g.K, g.V⟩, _, _, _, V', HF.out, HV.out⟩)⟩
    | ok z =>
      obtain ⟨n, R⟩ := z
      obtain ⟨p', hp', hR, hpp, hnb, rfl, hM2⟩ := hn.1 n R hZ
      have HS : Hid (pieceR c g (B.drop p) = .ok (⟨g.N ++ [(n : Int)], g.K, g.V⟩, R)) := by unfold Hid; rw [HPc.out]; unfold bindS; rw [hZ]; rfl
      have HR := hid hR
      have HPP := hid (And.intro hp' hpp)
      clear hR hpp hp'
      clear hn hZ HPc HBd HNm HM d0 d1 d2 g1 g2
      obtain ⟨pa3, ca3, rfl⟩ := ownsRow_slice hM2.oN
      have hws2 := hM2.box.lt
      have x3 := hM2.box.cell 3
      simp at x3
      have hal : Below w2.heap.size w2 (w2.alloc (.cells #[.int .i64 (n : Int)] 3)) := (Below.refl _ _).alloc (Nat.le_refl _) _
      have H1 := hid (hM2.kept hal)
      have HNw := hid (new_many0 w2 [.int .i64 (n : Int)] 3)
      clear hM2 hal
      go_wp2_with (at_builtin; refine wpList_app rfl (.tmp 31) (.tmp 33) 25 3 iI _ 1 8 HKI.out rfl (rb + 1) _ g.N.length (intC g.N) rfl H1.out.oN ⟨w2.heap.size, 0, none⟩ 1 1 [.int .i64 (n : Int)] rfl rfl HNw.out (fun u hu => by simp at hu; rw [hu]; rfl) (by omega) (by omega) (by simp; omega) ?_)
      intro v3 w3 ho3 hg3 hn3
      obtain ⟨p3, c3, rfl⟩ := ownsRow_slice ho3
      have hx3 := H1.out.boxN hg3
      have y3 := hx3.cell 3
      have g3 := hx3.frozen 3
      simp at y3
      have HF := hid (H1.out.nums (M := [(n : Int)]) ho3 hg3 hn3)
      clear hx3 ho3 hg3 hn3 H1
      go_wp2
      refine bodyPost_end (results_none rfl _ _ _) rfl ⟨rfl, fun y R2 hy => (by rw [HS.out] at hy; cases hy; exact ⟨p', HPP.out.1, HR.out, HPP.out.2, _, _, _, V', HF.out, HV.out⟩), fun e he => (by rw [HS.out] at he; cases he)⟩

  · have k0 : ¬ (65 : Int) ≤ (c : Int) := by omega
    clear hu c1
    go_wp2_with fail
    refine HBd.out.mono ?_
    rintro x w1 ⟨rfl, hw1⟩
    subst w1
    go_wp2_with fail
    refine HNm.out.mono ?_
    rintro x w2 hn
    cases hZ : numS (bndOf c) (B.drop p) with
    | error k =>
      obtain ⟨hk0, n, pa, hn1, hpa1, hpa2, rfl, hM2⟩ := hn.2 k hZ
      have HS : Hid (pieceR c g (B.drop p) = .error k) := by unfold Hid; rw [HPc.out]; unfold bindS; rw [hZ]
      have HK0 := hid hk0
      clear hn hZ HPc HBd HNm HM d0 d1 d2 g1 g2
      obtain ⟨pa3, ca3, rfl⟩ := ownsRow_slice hM2.oN
      have hws2 := hM2.box.lt
      have x3 := hM2.box.cell 3
      simp at x3
      have hal : Below w2.heap.size w2 (w2.alloc (.cells #[.int .i64 (n : Int)] 3)) := (Below.refl _ _).alloc (Nat.le_refl _) _
      have H1 := hid (hM2.kept hal)
      have HNw := hid (new_many0 w2 [.int .i64 (n : Int)] 3)
      clear hM2 hal
      go_wp2_with (at_builtin; refine wpList_app rfl (.tmp 31) (.tmp 33) 25 3 iI _ 1 8 HKI.out rfl (rb + 1) _ g.N.length (intC g.N) rfl H1.out.oN ⟨w2.heap.size, 0, none⟩ 1 1 [.int .i64 (n : Int)] rfl rfl HNw.out (fun u hu => by simp at hu; rw [hu]; rfl) (by omega) (by omega) (by simp; omega) ?_)
      intro v3 w3 ho3 hg3 hn3
      obtain ⟨p3, c3, rfl⟩ := ownsRow_slice ho3
      have hx3 := H1.out.boxN hg3
      have y3 := hx3.cell 3
      have g3 := hx3.frozen 3
      simp at y3
      have HF := hid (H1.out.nums (M := [(n : Int)]) ho3 hg3 hn3)
      clear hx3 ho3 hg3 hn3 H1
      go_wp2
      refine bodyPost_end (results_none rfl _ _ _) rfl ⟨rfl, fun y R hy => (by rw [HS.out] at hy; cases hy), fun e he => (by rw [HS.out] at he; cases he; exact ⟨HK0.out, _, ⟨g.N ++ [(n : Int)], g.K, g.V⟩, _, _, _, V', HF.out, HV.out⟩)⟩
    | ok z =>
      obtain ⟨n, R⟩ := z
      obtain ⟨p', hp', hR, hpp, hnb, rfl, hM2⟩ := hn.1 n R hZ
      have HS : Hid (pieceR c g (B.drop p) = .ok (⟨g.N ++ [(n : Int)], g.K, g.V⟩, R)) := by unfold Hid; rw [HPc.out]; unfold bindS; rw [hZ]; rfl
      have HR := hid hR
      have HPP := hid (And.intro hp' hpp)
      clear hR hpp hp'
      clear hn hZ HPc HBd HNm HM d0 d1 d2 g1 g2
      obtain ⟨pa3, ca3, rfl⟩ := ownsRow_slice hM2.oN
      have hws2 := hM2.box.lt
      have x3 := hM2.box.cell 3
      simp at x3
      have hal : Below w2.heap.size w2 (w2.alloc (.cells #[.int .i64 (n : Int)] 3)) := (Below.refl _ _).alloc (Nat.le_refl _) _
      have H1 := hid (hM2.kept hal)
      have HNw := hid (new_many0 w2 [.int .i64 (n : Int)] 3)
      clear hM2 hal
      go_wp2_with (at_builtin; refine wpList_app rfl (.tmp 31) (.tmp 33) 25 3 iI _ 1 8 HKI.out rfl (rb + 1) _ g.N.length (intC g.N) rfl H1.out.oN ⟨w2.heap.size, 0, none⟩ 1 1 [.int .i64 (n : Int)] rfl rfl HNw.out (fun u hu => by simp at hu; rw [hu]; rfl) (by omega) (by omega) (by simp; omega) ?_)
      intro v3 w3 ho3 hg3 hn3
      obtain ⟨p3, c3, rfl⟩ := ownsRow_slice ho3
      have hx3 := H1.out.boxN hg3
      have y3 := hx3.cell 3
      have g3 := hx3.frozen 3
      simp at y3
      have HF := hid (H1.out.nums (M := [(n : Int)]) ho3 hg3 hn3)
      clear hx3 ho3 hg3 hn3 H1
      go_wp2
      refine bodyPost_end (results_none rfl _ _ _) rfl ⟨rfl, fun y R2 hy => (by rw [HS.out] at hy; cases hy; exact ⟨p', HPP.out.1, HR.out, HPP.out.2, _, _, _, V', HF.out, HV.out⟩), fun e he => (by rw [HS.out] at he; cases he)⟩

end Go.Proofs.Ytikfpoabaaiegaa

namespace Go.Proofs.Ytikfpoabaaiegaa
open Go.RowKit
set_option maxRecDepth 8000
def tp (B : List Int) (p : Nat) : Nat → Nat
  | 0 => 0
  | j + 1 => 256 * tp B p j + (B.getD (p + (3 - j)) 0).toNat
theorem tp_lt {B : List Int} {p : Nat} (h : ∀ j, j < 4 → (B.getD (p + j) 0).toNat < 256) : ∀ j, j ≤ 4 → tp B p j < 256 ^ j := by
  intro j
  induction j with
  | zero => intro _; simp [tp]
  | succ j ih =>
    intro hj
    have h1 := ih (by omega)
    have h2 := h (3 - j) (by omega)
    rw [tp, Nat.pow_succ]
    omega
theorem word_at {B : List Int} {p : Nat} (h : p + 4 ≤ B.length) : wordS (B.drop p) = .ok (tp B p 4, B.drop (p + 4)) := by
  have e : wordN ((B.drop p).take 4) = tp B p 4 := by
    have k : ∀ j, j < 4 → ((B.drop p).take 4).getD j 0 = B.getD (p + j) 0 := by
      intro j hj
      simp [List.getD_eq_getElem?_getD, hj]
    unfold wordN
    rw [k 0 (by omega), k 1 (by omega), k 2 (by omega), k 3 (by omega)]
    simp only [tp, show (3 - 0 : Nat) = 3 from rfl, show (3 - 1 : Nat) = 2 from rfl, show (3 - 2 : Nat) = 1 from rfl, show (3 - 3 : Nat) = 0 from rfl]
    omega
  unfold wordS bindS takeS
  rw [if_pos (by rw [List.length_drop]; omega)]
  show Except.ok (wordN ((B.drop p).take 4), (B.drop p).drop 4) = _
  rw [e, List.drop_drop]
theorem word_end {B : List Int} {p : Nat} (h : ¬ p + 4 ≤ B.length) : wordS (B.drop p) = .error 40 := by
  unfold wordS bindS takeS
  rw [if_neg (by rw [List.length_drop]; omega)]
set_option maxHeartbeats 8000000 in
theorem refPiece_word {w0 : World} {rb : Nat} {w : World} {bp : Option Addr} {bc : Nat} {S : Nat → Prop} {B : List Int} {p : Nat} {g : Bg} (hB : GB w0 rb S bp bc B) (h : GMv w0 rb w (.slice bp B.length bc) (p : Int) 0 g) (hp : p ≤ B.length) (hf : Few_ g p)  : Calls Try.prog 116 #[.pointer (some ⟨rb, 0, none⟩), .int .u8 (119 : Int)] w fun x w' => PcP (pieceR 119 g) w0 rb (.slice bp B.length bc) B p x w' := by
  obtain ⟨a, b, cc, V', h, hv⟩ := h
  have hlen := hB.len
  have HBB := hid hB
  have HM := hid h
  have HV := hid hv
  have HP := hid (And.intro hp hf)
  have hws := h.box.lt
  have d0 := h.box.cell 0
  have d1 := h.box.cell 1
  have d2 := h.box.cell 2
  have g1 := h.box.frozen 1
  have g2 := h.box.frozen 2
  simp at d0 d1 d2
  have hpb : (p : Int) ≤ 1000000 := by omega
  have hsub : IntKind.i64.wrap ((B.length : Int) - (p : Int)) = (B.length : Int) - (p : Int) := by rw [IntKind.wrap_i64]; omega
  obtain ⟨iI, KdI⟩ := kindI
  have HKI := hid KdI
  have HPc : Hid (pieceR 119 g (B.drop p) = bindS wordS (fun n => retS ⟨g.N ++ [(n : Int)], g.K, g.V⟩) (B.drop p)) := rfl
  have hlN := hf.N
  by_cases hin : p + 4 ≤ B.length
  · have hin' : ¬ (B.length : Int) - (p : Int) < 4 := by omega
    have HS : Hid (pieceR 119 g (B.drop p) = .ok (⟨g.N ++ [((tp B p 4 : Nat) : Int)], g.K, g.V⟩, B.drop (p + 4))) := by
      unfold Hid
      rw [HPc.out]
      unfold bindS
      rw [word_at hin]
      rfl
    have hby : ∀ j, j < 4 → (B.getD (p + j) 0).toNat < 256 := fun j hj => by
      obtain ⟨_, _, _, _, h1, h2, _⟩ := hB.cell h.below (show p + j < B.length by omega)
      omega
    have HTl := hid (tp_lt hby)
    have H0 := hid (h.drew)
    clear hB h hv hp hf KdI hby HPc
    go_enter Try.func116, Try.ntmps116
    go_wp2_with fail
    refine wp_region_calmD 30 (fun wx => Below w.heap.size w wx) [(0, true), (1, true), (2, true), (3, false), (4, true), (5, true), (6, true), (7, true), (8, false), (9, true), (10, true)] [] (by kernel_rfl) (by kernel_rfl) (Below.refl _ _).drew ?_
    refine wpPre_e rfl rfl (fun K1 hK1 => ?_)
    apply Exists.intro
    refine And.intro (fun wx hx => ?_) ?_
    · go_simp
      try rfl
    go_simp
    refine hK1 _ ?_
    clear hK1 K1
    refine wpPre_e rfl rfl (fun K1 hK1 => ?_)
    apply Exists.intro
    refine And.intro (fun wx hx => ?_) ?_
    · go_simp
      try rfl
    go_simp
    refine hK1 _ ?_
    clear hK1 K1
    refine wpPre_e rfl rfl (fun K1 hK1 => ?_)
    apply Exists.intro
    refine And.intro (fun wx hx => ?_) ?_
    · go_simp
      try rfl
    go_simp
    refine hK1 _ ?_
    clear hK1 K1
    refine wpPre_e rfl rfl (fun K1 hK1 => ?_)
    apply Exists.intro
    refine And.intro (fun wx hx => ?_) ?_
    · have e0 := below_fact hx rfl d0
      have e1 := below_fact hx rfl d1
      go_simp
      try rfl
    go_simp
    refine hK1 _ ?_
    clear hK1 K1
    refine wpPre_e rfl rfl (fun K1 hK1 => ?_)
    apply Exists.intro
    refine And.intro (fun wx hx => ?_) ?_
    · go_simp
      try rfl
    go_simp
    refine hK1 _ ?_
    clear hK1 K1
    refine wpPre_e rfl rfl (fun K1 hK1 => ?_)
    apply Exists.intro
    refine And.intro (fun wx hx => ?_) ?_
    · go_simp
      try rfl
    go_simp
    refine hK1 _ ?_
    clear hK1 K1
    refine wpPre_e rfl rfl (fun K1 hK1 => ?_)
    apply Exists.intro
    refine And.intro (fun wx hx => ?_) ?_
    · go_simp
      try rfl
    go_simp
    refine hK1 _ ?_
    clear hK1 K1
    refine wpPre_e rfl rfl (fun K1 hK1 => ?_)
    apply Exists.intro
    refine And.intro (fun wx hx => ?_) ?_
    · go_simp
      try rfl
    go_simp
    refine hK1 _ ?_
    clear hK1 K1
    refine wpPre_e rfl rfl (fun K1 hK1 => ?_)
    apply Exists.intro
    refine And.intro (fun wx hx => ?_) ?_
    · have e0 := below_fact hx rfl d0
      have e1 := below_fact hx rfl d1
      go_simp
      try rfl
    go_simp
    refine hK1 _ ?_
    clear hK1 K1
    refine wpPre_e rfl rfl (fun K1 hK1 => ?_)
    apply Exists.intro
    refine And.intro (fun wx hx => ?_) ?_
    · go_simp
      try rfl
    go_simp
    refine hK1 _ ?_
    clear hK1 K1
    refine wpPre_e rfl rfl (fun K1 hK1 => ?_)
    apply Exists.intro
    refine And.intro (fun wx hx => ?_) ?_
    · go_simp
      try rfl
    go_simp
    refine hK1 _ ?_
    clear hK1 K1
    refine wpPre_nil ?_
    refine wpStg_nil ?_
    clear d0 d1 d2 g1 g2
    go_wp2_with fail
    go_loopw [9, 10] (fun x y wr => ∃ j : Nat, j ≤ 4 ∧ x = .int .i64 ((tp B p j : Nat) : Int) ∧ y = .int .i64 ((3 : Int) - (j : Int)) ∧ GM w0 rb wr (.slice bp B.length bc) (p : Int) 0 a b cc g.N g.K V') (fun _ y _ => ((intOf y) + 1).toNat)
    case atStart => exact ⟨0, by omega, rfl, rfl, H0.out⟩
    case round =>
      obtain ⟨j, hj, rfl, rfl, hM⟩ := hrel
      clear H0 HM
      have HM := hid hM
      have hws1 := hM.box.lt
      have d0 := hM.box.cell 0
      have d1 := hM.box.cell 1
      have g1 := hM.box.frozen 1
      simp at d0 d1
      have hbel := hM.below
      clear hM
      by_cases h4 : j < 4
      · have h4' : (0 : Int) ≤ (3 : Int) - (j : Int) := by omega
        obtain ⟨gb, go, hbp, hc, hf0, hf1, hgb⟩ := HBB.out.cell hbel (show p + (3 - j) < B.length by omega)
        obtain ⟨C, hC⟩ := Int.eq_ofNat_of_zero_le hf0
        have hC2 : C < 256 := by omega
        have HT : Hid (tp B p (j + 1) = 256 * tp B p j + C) := by unfold Hid; rw [tp, hC]; rfl
        rw [hC] at hc
        subst hbp
        obtain ⟨u, hu⟩ : ∃ u, u = tp B p j := ⟨_, rfl⟩
        have hub : u < 16777216 := by
          have h5 := HTl.out j (by omega)
          have h6 : 256 ^ j ≤ 256 ^ 3 := Nat.pow_le_pow_right (by decide) (by omega)
          omega
        rw [← hu] at HT ⊢
        clear hbel hC hf0 hf1 hu
        have hw0 : IntKind.i64.wrap (C : Int) = (C : Int) := by rw [IntKind.wrap_i64]; omega
        have hw1 : IntKind.i64.wrap (256 * (u : Int)) = 256 * (u : Int) := by rw [IntKind.wrap_i64]; omega
        have hw2 : IntKind.i64.wrap ((p : Int) + ((3 : Int) - (j : Int))) = (p : Int) + ((3 : Int) - (j : Int)) := by rw [IntKind.wrap_i64]; omega
        have hw3 : IntKind.i64.wrap (256 * (u : Int) + (C : Int)) = 256 * (u : Int) + (C : Int) := by rw [IntKind.wrap_i64]; omega
        have htn : ((p : Int) + ((3 : Int) - (j : Int))).toNat = p + (3 - j) := by omega
        have hi1 : (p : Int) + ((3 : Int) - (j : Int)) < (B.length : Int) := by omega
        have hi0 : (0 : Int) ≤ (p : Int) + ((3 : Int) - (j : Int)) := by omega
        go_wp2_with fail
        refine wp_region_calmD 30 (fun wx => Below wr.heap.size wr wx) [(0, true), (1, true), (2, true), (3, true), (4, true), (5, false), (6, true), (7, true), (8, true), (9, false), (10, true), (11, true), (12, true), (13, false), (14, true), (15, true), (16, true)] [] (by kernel_rfl) (by kernel_rfl) (Below.refl _ _).drew ?_
        refine wpPre_e rfl rfl (fun K1 hK1 => ?_)
        apply Exists.intro
        refine And.intro (fun wx hx => ?_) ?_
        · go_simp
          try rfl
        go_simp
        refine hK1 _ ?_
        clear hK1 K1
        refine wpPre_e rfl rfl (fun K1 hK1 => ?_)
        apply Exists.intro
        refine And.intro (fun wx hx => ?_) ?_
        · go_simp
          try rfl
        go_simp
        refine hK1 _ ?_
        clear hK1 K1
        refine wpPre_e rfl rfl (fun K1 hK1 => ?_)
        apply Exists.intro
        refine And.intro (fun wx hx => ?_) ?_
        · go_simp
          try rfl
        go_simp
        refine hK1 _ ?_
        clear hK1 K1
        refine wpPre_e rfl rfl (fun K1 hK1 => ?_)
        apply Exists.intro
        refine And.intro (fun wx hx => ?_) ?_
        · go_simp
          try rfl
        go_simp
        refine hK1 _ ?_
        clear hK1 K1
        refine wpPre_e rfl rfl (fun K1 hK1 => ?_)
        apply Exists.intro
        refine And.intro (fun wx hx => ?_) ?_
        · go_simp
          try rfl
        go_simp
        refine hK1 _ ?_
        clear hK1 K1
        refine wpPre_e rfl rfl (fun K1 hK1 => ?_)
        apply Exists.intro
        refine And.intro (fun wx hx => ?_) ?_
        · have e0 := below_fact hx rfl d0
          have e1 := below_fact hx rfl d1
          have e2 := below_fact hx rfl hc
          go_simp
          try rfl
        go_simp
        refine hK1 _ ?_
        clear hK1 K1
        refine wpPre_e rfl rfl (fun K1 hK1 => ?_)
        apply Exists.intro
        refine And.intro (fun wx hx => ?_) ?_
        · go_simp
          try rfl
        go_simp
        refine hK1 _ ?_
        clear hK1 K1
        refine wpPre_e rfl rfl (fun K1 hK1 => ?_)
        apply Exists.intro
        refine And.intro (fun wx hx => ?_) ?_
        · go_simp
          try rfl
        go_simp
        refine hK1 _ ?_
        clear hK1 K1
        refine wpPre_e rfl rfl (fun K1 hK1 => ?_)
        apply Exists.intro
        refine And.intro (fun wx hx => ?_) ?_
        · go_simp
          try rfl
        go_simp
        refine hK1 _ ?_
        clear hK1 K1
        refine wpPre_e rfl rfl (fun K1 hK1 => ?_)
        apply Exists.intro
        refine And.intro (fun wx hx => ?_) ?_
        · have e0 := below_fact hx rfl d0
          have e1 := below_fact hx rfl d1
          have e2 := below_fact hx rfl hc
          go_simp
          try rfl
        go_simp
        refine hK1 _ ?_
        clear hK1 K1
        refine wpPre_e rfl rfl (fun K1 hK1 => ?_)
        apply Exists.intro
        refine And.intro (fun wx hx => ?_) ?_
        · go_simp
          try rfl
        go_simp
        refine hK1 _ ?_
        clear hK1 K1
        refine wpPre_e rfl rfl (fun K1 hK1 => ?_)
        apply Exists.intro
        refine And.intro (fun wx hx => ?_) ?_
        · go_simp
          try rfl
        go_simp
        refine hK1 _ ?_
        clear hK1 K1
        refine wpPre_e rfl rfl (fun K1 hK1 => ?_)
        apply Exists.intro
        refine And.intro (fun wx hx => ?_) ?_
        · go_simp
          try rfl
        go_simp
        refine hK1 _ ?_
        clear hK1 K1
        refine wpPre_e rfl rfl (fun K1 hK1 => ?_)
        apply Exists.intro
        refine And.intro (fun wx hx => ?_) ?_
        · have e0 := below_fact hx rfl d0
          have e1 := below_fact hx rfl d1
          have e2 := below_fact hx rfl hc
          go_simp
          try rfl
        go_simp
        refine hK1 _ ?_
        clear hK1 K1
        refine wpPre_e rfl rfl (fun K1 hK1 => ?_)
        apply Exists.intro
        refine And.intro (fun wx hx => ?_) ?_
        · go_simp
          try rfl
        go_simp
        refine hK1 _ ?_
        clear hK1 K1
        refine wpPre_e rfl rfl (fun K1 hK1 => ?_)
        apply Exists.intro
        refine And.intro (fun wx hx => ?_) ?_
        · go_simp
          try rfl
        go_simp
        refine hK1 _ ?_
        clear hK1 K1
        refine wpPre_e rfl rfl (fun K1 hK1 => ?_)
        apply Exists.intro
        refine And.intro (fun wx hx => ?_) ?_
        · go_simp
          try rfl
        go_simp
        refine hK1 _ ?_
        clear hK1 K1
        refine wpPre_nil ?_
        refine wpStg_nil ?_
        have HF := hid (HM.out.drew)
        clear HM hw0 hw1 hw2 hw3
        go_wp2
        go_roundw
        case rel => exact ⟨j + 1, by omega, by rw [HT.out]; go_num, by go_num, HF.out⟩
        case measure => simp [intOf]; omega
      · have h4' : ¬ (0 : Int) ≤ (3 : Int) - (j : Int) := by omega
        obtain rfl : j = 4 := by omega
        have hM2 := HM.out
        have HTb : Hid (tp B p 4 < 4294967296) := HTl.out 4 (by omega)
        obtain ⟨n, hn⟩ : ∃ n, n = tp B p 4 := ⟨_, rfl⟩
        rw [← hn] at HS HTb ⊢
        have hnb := HTb.out
        clear hn hbel HM d0 d1 g1 HTl
        obtain ⟨w2, hw2⟩ : ∃ w2, w2 = wr := ⟨_, rfl⟩
        rw [← hw2] at hM2 hws1 ⊢
        clear hw2
        obtain ⟨pa3, ca3, rfl⟩ := ownsRow_slice hM2.oN
        have x3 := hM2.box.cell 3
        simp at x3
        have hal : Below w2.heap.size w2 (w2.alloc (.cells #[.int .i64 (n : Int)] 3)) := (Below.refl _ _).alloc (Nat.le_refl _) _
        have H1 := hid (hM2.kept hal)
        have HNw := hid (new_many0 w2 [.int .i64 (n : Int)] 3)
        clear hM2 hal
        go_wp2_with (at_builtin; refine wpList_app rfl (.tmp 216) (.tmp 218) 25 3 iI _ 1 8 HKI.out rfl (rb + 1) _ g.N.length (intC g.N) rfl H1.out.oN ⟨w2.heap.size, 0, none⟩ 1 1 [.int .i64 (n : Int)] rfl rfl HNw.out (fun u hu => by simp at hu; rw [hu]; rfl) (by omega) (by omega) (by simp; omega) ?_)
        intro v3 w3 ho3 hg3 hn3
        obtain ⟨p3, c3, rfl⟩ := ownsRow_slice ho3
        have hx3 := H1.out.boxN hg3
        have y3 := hx3.cell 3
        have g3 := hx3.frozen 3
        simp at y3
        have hM4 := H1.out.nums (M := [(n : Int)]) ho3 hg3 hn3
        have z1 := hM4.box.cell 1
        have q1 := hM4.box.frozen 1
        simp at z1
        have HF := hid (hM4.setP ((p : Int) + 4))
        have HPk : Hid ((p : Int) + 4 = ((p + 4 : Nat) : Int)) := by unfold Hid; omega
        clear hx3 ho3 hg3 hn3 H1 hM4
        go_wp2
        refine bodyPost_end (results_none rfl _ _ _) rfl ?_
        refine ⟨rfl, fun y R2 hy => (by rw [HS.out] at hy; cases hy; exact ⟨p + 4, by omega, rfl, by omega, _, _, _, V', by rw [← HPk.out]; exact HF.out, HV.out⟩), fun e he => (by rw [HS.out] at he; cases he)⟩
  · have hin' : (B.length : Int) - (p : Int) < 4 := by omega
    have HF := hid ((HM.out.setE 40).drew)
    have HS : Hid (pieceR 119 g (B.drop p) = .error 40) := by
      unfold Hid
      rw [HPc.out]
      unfold bindS
      rw [word_end hin]
    clear hB h hv hp hf HM HPc KdI
    go_enter Try.func116, Try.ntmps116
    go_wp2_with fail
    refine wp_region_calmD 30 (fun wx => Below w.heap.size w wx) [(0, true), (1, true), (2, true), (3, false), (4, true), (5, true), (6, true), (7, true), (8, false), (9, true), (10, true)] [] (by kernel_rfl) (by kernel_rfl) (Below.refl _ _).drew ?_
    refine wpPre_e rfl rfl (fun K1 hK1 => ?_)
    apply Exists.intro
    refine And.intro (fun wx hx => ?_) ?_
    · go_simp
      try rfl
    go_simp
    refine hK1 _ ?_
    clear hK1 K1
    refine wpPre_e rfl rfl (fun K1 hK1 => ?_)
    apply Exists.intro
    refine And.intro (fun wx hx => ?_) ?_
    · go_simp
      try rfl
    go_simp
    refine hK1 _ ?_
    clear hK1 K1
    refine wpPre_e rfl rfl (fun K1 hK1 => ?_)
    apply Exists.intro
    refine And.intro (fun wx hx => ?_) ?_
    · go_simp
      try rfl
    go_simp
    refine hK1 _ ?_
    clear hK1 K1
    refine wpPre_e rfl rfl (fun K1 hK1 => ?_)
    apply Exists.intro
    refine And.intro (fun wx hx => ?_) ?_
    · have e0 := below_fact hx rfl d0
      have e1 := below_fact hx rfl d1
      go_simp
      try rfl
    go_simp
    refine hK1 _ ?_
    clear hK1 K1
    refine wpPre_e rfl rfl (fun K1 hK1 => ?_)
    apply Exists.intro
    refine And.intro (fun wx hx => ?_) ?_
    · go_simp
      try rfl
    go_simp
    refine hK1 _ ?_
    clear hK1 K1
    refine wpPre_e rfl rfl (fun K1 hK1 => ?_)
    apply Exists.intro
    refine And.intro (fun wx hx => ?_) ?_
    · go_simp
      try rfl
    go_simp
    refine hK1 _ ?_
    clear hK1 K1
    refine wpPre_e rfl rfl (fun K1 hK1 => ?_)
    apply Exists.intro
    refine And.intro (fun wx hx => ?_) ?_
    · go_simp
      try rfl
    go_simp
    refine hK1 _ ?_
    clear hK1 K1
    refine wpPre_e rfl rfl (fun K1 hK1 => ?_)
    apply Exists.intro
    refine And.intro (fun wx hx => ?_) ?_
    · go_simp
      try rfl
    go_simp
    refine hK1 _ ?_
    clear hK1 K1
    refine wpPre_e rfl rfl (fun K1 hK1 => ?_)
    apply Exists.intro
    refine And.intro (fun wx hx => ?_) ?_
    · have e0 := below_fact hx rfl d0
      have e1 := below_fact hx rfl d1
      go_simp
      try rfl
    go_simp
    refine hK1 _ ?_
    clear hK1 K1
    refine wpPre_e rfl rfl (fun K1 hK1 => ?_)
    apply Exists.intro
    refine And.intro (fun wx hx => ?_) ?_
    · go_simp
      try rfl
    go_simp
    refine hK1 _ ?_
    clear hK1 K1
    refine wpPre_e rfl rfl (fun K1 hK1 => ?_)
    apply Exists.intro
    refine And.intro (fun wx hx => ?_) ?_
    · go_simp
      try rfl
    go_simp
    refine hK1 _ ?_
    clear hK1 K1
    refine wpPre_nil ?_
    refine wpStg_nil ?_
    go_wp2
    refine bodyPost_ret (v := .tuple #[]) (results_none rfl _ _ _) rfl ?_
    refine ⟨rfl, fun y R hy => (by rw [HS.out] at hy; cases hy), fun e he => (by rw [HS.out] at he; cases he; exact ⟨by decide, _, g, a, b, cc, V', HF.out, HV.out⟩)⟩
end Go.Proofs.Ytikfpoabaaiegaa
