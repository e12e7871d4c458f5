import Derived.Test.YtbeibhmbaofjhaaPack18
namespace Go.Proofs.Ytbeibhmbaofjhaa
open Go.RowKit
set_option maxRecDepth 8000
/-- bytes as a text -/
def strB (zs : List Int) : ByteArray := zs.foldl (fun r n => r.push (UInt8.ofNat n.toNat)) ByteArray.empty
theorem conv_src {w : World} {p : Option Addr} {c : Nat} {zs : List Int} (h : Src w p zs.length c 1 (zs.map (.int .u8))) : (convert 51 9 (.slice p zs.length c)).run Try.prog w = .ok (.string (strB zs)) w := by
  rw [run_convert_bytes_string (P := Try.prog) w 51 9 5 _ _ _ Try.underlying51 Try.underlying5 Try.underlying9]
  rcases h with ⟨rfl, h0, rfl, _⟩ | ⟨ad, rfl, _, hc⟩
  · obtain rfl : zs = [] := List.eq_nil_of_length_eq_zero h0
    rfl
  · have hl := run_loadCells_list (P := Try.prog) (w := w) ad (zs.map (Value.int .u8)) hc
    rw [List.length_map] at hl
    exact run_bytesToString w ad zs.length c zs hl
set_option maxHeartbeats 4000000 in
/-- sameBytes of the same bytes -/
theorem sameB_yes (w : World) (zs : List Int) (p q : Option Addr) (c d : Nat) (hp : Src w p zs.length c 1 (zs.map (.int .u8))) (hq : Src w q zs.length d 1 (zs.map (.int .u8))) :
    Calls Try.prog 37 #[.slice p zs.length c, .slice q zs.length d] w fun e w' => e = .returned (.bool true) ∧ w' = w := by
  have h1 := conv_src hp
  have h2 := conv_src hq
  clear hp hq
  obtain ⟨n, hn⟩ : ∃ n, n = zs.length := ⟨_, rfl⟩
  rw [← hn] at h1 h2 ⊢
  clear hn
  go_enter Try.func37, Try.ntmps37
  go_wp2
  exact bodyPost_ret (v := .bool true) (by simp [results, Try.results37, go_sem]) rfl ⟨rfl, rfl⟩
end Go.Proofs.Ytbeibhmbaofjhaa

namespace Go.Proofs.Ytbeibhmbaofjhaa
open Go.RowKit
set_option maxRecDepth 8000
theorem Src.below {w w' : World} {p : Option Addr} {m c size : Nat} {news : List Value} (h : Src w p m c size news) (hb : Below w.heap.size w w') : Src w' p m c size news := by
  rcases h with h | ⟨ad, h1, h2, h3⟩
  · exact .inl h
  · refine .inr ⟨ad, h1, h2, fun j u hu => ?_⟩
    have h4 := h3 j u hu
    rw [hb.cell (block_lt_of_cell h4)]
    exact h4
set_option maxHeartbeats 4000000 in
/-- sameFlight of like flights -/
theorem sameF_yes (w : World) (fr tt : Int) (zs : List Int) (p q : Option Addr) (c d : Nat) (hp : Src w p zs.length c 1 (zs.map (.int .u8))) (hq : Src w q zs.length d 1 (zs.map (.int .u8))) :
    Calls Try.prog 14 #[.agg #[.int .i64 fr, .int .i64 tt, .slice p zs.length c], .agg #[.int .i64 fr, .int .i64 tt, .slice q zs.length d]] w fun e w' => e = .returned (.bool true) ∧ Below w.heap.size w w' := by
  obtain ⟨n, hn⟩ : ∃ n, n = zs.length := ⟨_, rfl⟩
  obtain ⟨V, hV⟩ : ∃ V, V = (w.alloc (.cells #[.int .i64 fr, .int .i64 tt, .slice p n c] 53)).alloc (.cells #[.int .i64 fr, .int .i64 tt, .slice q n d] 53) := ⟨_, rfl⟩
  have hB : Below w.heap.size w V := by rw [hV]; exact ((Below.refl _ _).alloc (Nat.le_refl _) _).alloc (by simp) _
  have hX : Box V w.heap.size #[.int .i64 fr, .int .i64 tt, .slice p n c] 53 := by rw [hV]; exact (Box.new w _ _).below ((Below.refl _ _).alloc (Nat.le_refl _) _)
  have hY : Box V (w.heap.size + 1) #[.int .i64 fr, .int .i64 tt, .slice q n d] 53 := by
    have h := Box.new (w.alloc (.cells #[.int .i64 fr, .int .i64 tt, .slice p n c] 53)) #[.int .i64 fr, .int .i64 tt, .slice q n d] 53
    rw [← hV] at h
    simpa using h
  have HC := hid (sameB_yes V zs p q c d (hp.below hB) (hq.below hB))
  rw [← hn] at HC ⊢
  have a0 := hX.cell 0
  have a1 := hX.cell 1
  have a2 := hX.cell 2
  have b0 := hY.cell 0
  have b1 := hY.cell 1
  have b2 := hY.cell 2
  simp at a0 a1 a2 b0 b1 b2
  have al := hX.lt
  have bl := hY.lt
  have HV := hid hV
  have HB := hid hB
  clear hV hB hX hY hp hq hn
  go_enter Try.func14, Try.ntmps14
  go_upto_region 1 with fail
  rw [← HV.out]
  go_wp2_with fail
  refine HC.out.mono ?_
  rintro e w1 ⟨rfl, hw⟩
  subst w1
  go_wp2
  exact bodyPost_ret (v := .bool true) (by simp [results, Try.results14, go_sem]) rfl ⟨rfl, HB.out⟩
/-- flights that can be read -/
structure FlsR (w : World) (p : Option Addr) (A : List FA) : Prop where
  at_ : 0 < A.length → ∃ b o, p = some ⟨b, o, none⟩ ∧ b < w.heap.size ∧ ∀ j a, A[j]? = some a → ∃ q cq, w.cell? ⟨b, o + j * 3, none⟩ = some (.int .i64 a.fr) ∧ w.cell? ⟨b, o + j * 3 + 1, none⟩ = some (.int .i64 a.tt) ∧ w.cell? ⟨b, o + j * 3 + 2, none⟩ = some (.slice q a.zs.length cq) ∧ Src w q a.zs.length cq 1 (a.zs.map (.int .u8))
theorem FlsR.below {w w' : World} {p : Option Addr} {A : List FA} (h : FlsR w p A) (hb : Below w.heap.size w w') : FlsR w' p A := by
  refine ⟨fun hn => ?_⟩
  obtain ⟨b, o, hp, hl, hat⟩ := h.at_ hn
  refine ⟨b, o, hp, Nat.lt_of_lt_of_le hl hb.size, fun j a ha => ?_⟩
  obtain ⟨q, cq, h0, h1, h2, h3⟩ := hat j a ha
  exact ⟨q, cq, (World.cell?_of_block (a := ⟨b, o + j * 3, none⟩) (hb.block b hl)).trans h0, (World.cell?_of_block (a := ⟨b, o + j * 3 + 1, none⟩) (hb.block b hl)).trans h1, (World.cell?_of_block (a := ⟨b, o + j * 3 + 2, none⟩) (hb.block b hl)).trans h2, h3.below hb⟩
theorem LsI.fls {w : World} {base g : Nat} {U : List FL} {A : List FA} (h : LsI w base g U) (hA : U.map FL.a = A) : FlsR w (some ⟨g, 0, none⟩) A := by
  refine ⟨fun hn => ⟨g, 0, rfl, h.bx.lt, fun j a ha => ?_⟩⟩
  rw [← hA, List.getElem?_map] at ha
  cases hx : U[j]? with
  | none => rw [hx] at ha; cases ha
  | some x =>
    rw [hx] at ha
    simp at ha
    subst ha
    obtain ⟨c0, c1, c2⟩ := flat_cell h hx
    rw [Nat.zero_add]
    refine ⟨_, _, c0, c1, c2, .inr ⟨_, rfl, by simp [FL.a], fun i u hu => ?_⟩⟩
    rw [Go.WideShapes.add_plain, (h.dat x (List.mem_of_getElem? hx)).cell, ← hu]
    simp [bys, FL.a]
set_option maxHeartbeats 4000000 in
/-- sameFlights of like flights -/
theorem sameFs_yes (w : World) (A : List FA) (p1 p2 : Option Addr) (k1 k2 : Nat) (h1 : FlsR w p1 A) (h2 : FlsR w p2 A) (hn : A.length ≤ 1099511627776) :
    Calls Try.prog 9 #[.slice p1 A.length k1, .slice p2 A.length k2] w fun e w' => e = .returned (.bool true) ∧ Below w.heap.size w w' := by
  obtain ⟨n, hne⟩ : ∃ n, n = A.length := ⟨_, rfl⟩
  have H1 := hid h1
  have H2 := hid h2
  have HN := hid hne
  rw [← hne] at hn ⊢
  clear h1 h2 hne
  go_enter Try.func9, Try.ntmps9
  go_wp2_with fail
  go_loopw [5] (fun x wr => ∃ i : Nat, i ≤ n ∧ x = .int .i64 (i : Int) ∧ Below w.heap.size w wr) (fun x _ => n - (intOf x).toNat)
  case atStart => exact ⟨0, Nat.zero_le _, rfl, Below.refl _ _⟩
  case round =>
    obtain ⟨i, hi, rfl, hbw⟩ := hrel
    have HBw := hid hbw
    clear hbw
    by_cases hlt : i < n
    · have hlt' : (i : Int) < (n : Int) := by omega
      have hA0 : 0 < A.length := by rw [← HN.out]; omega
      obtain ⟨b1, o1, hp1, l1, hat1⟩ := (H1.out.below HBw.out).at_ hA0
      obtain ⟨b2, o2, hp2, l2, hat2⟩ := (H2.out.below HBw.out).at_ hA0
      obtain ⟨a, ha⟩ : ∃ a, A[i]? = some a := ⟨_, List.getElem?_eq_getElem (by rw [← HN.out]; exact hlt)⟩
      obtain ⟨q1, c1, x0, x1, x2, s1⟩ := hat1 i a ha
      obtain ⟨q2, c2, y0, y1, y2, s2⟩ := hat2 i a ha
      subst hp1 hp2
      obtain ⟨N, hNe⟩ : ∃ N, N = a.zs.length := ⟨_, rfl⟩
      have HCs : Hid (Calls Try.prog 14 #[.agg #[.int .i64 a.fr, .int .i64 a.tt, .slice q1 N c1], .agg #[.int .i64 a.fr, .int .i64 a.tt, .slice q2 N c2]] wr.drew fun e w' => e = .returned (.bool true) ∧ Below wr.drew.heap.size wr.drew w') := by
        have h := sameF_yes wr.drew a.fr a.tt a.zs q1 q2 c1 c2 s1 s2
        rw [← hNe] at h
        exact h
      rw [← hNe] at x2 y2
      clear hat1 hat2 ha s1 s2 hNe hA0
      go_upto_region 6 with fail
      refine wp_region_calmE 30 (fun wx => Below wr.heap.size wr wx) [(0, true), (1, true), (2, true), (3, false), (4, true), (5, true), (6, true), (7, false)] (.one 8 false [(9, true)] .done) (by kernel_rfl) (by kernel_rfl) (Below.refl _ _).drew ?_
      refine wpPre_e rfl rfl (fun K1 hK1 => ?_)
      apply Exists.intro
      refine And.intro (fun wx hx => ?_) ?_
      · go_simp
        try rfl
      go_simp
      refine hK1 _ ?_
      clear hK1 K1
      refine wpPre_e rfl rfl (fun K1 hK1 => ?_)
      apply Exists.intro
      refine And.intro (fun wx hx => ?_) ?_
      · go_simp
        try rfl
      go_simp
      refine hK1 _ ?_
      clear hK1 K1
      refine wpPre_e rfl rfl (fun K1 hK1 => ?_)
      apply Exists.intro
      refine And.intro (fun wx hx => ?_) ?_
      · go_simp
        try rfl
      go_simp
      refine hK1 _ ?_
      clear hK1 K1
      refine wpPre_e rfl rfl (fun K1 hK1 => ?_)
      apply Exists.intro
      refine And.intro (fun wx hx => ?_) ?_
      · have e0 := below_fact hx rfl x0
        have e1 := below_fact hx rfl x1
        have e2 := below_fact hx rfl x2
        have e3 := below_fact hx rfl y0
        have e4 := below_fact hx rfl y1
        have e5 := below_fact hx rfl y2
        go_simp
        try rfl
      go_simp
      refine hK1 _ ?_
      clear hK1 K1
      refine wpPre_e rfl rfl (fun K1 hK1 => ?_)
      apply Exists.intro
      refine And.intro (fun wx hx => ?_) ?_
      · go_simp
        try rfl
      go_simp
      refine hK1 _ ?_
      clear hK1 K1
      refine wpPre_e rfl rfl (fun K1 hK1 => ?_)
      apply Exists.intro
      refine And.intro (fun wx hx => ?_) ?_
      · go_simp
        try rfl
      go_simp
      refine hK1 _ ?_
      clear hK1 K1
      refine wpPre_e rfl rfl (fun K1 hK1 => ?_)
      apply Exists.intro
      refine And.intro (fun wx hx => ?_) ?_
      · go_simp
        try rfl
      go_simp
      refine hK1 _ ?_
      clear hK1 K1
      refine wpPre_e rfl rfl (fun K1 hK1 => ?_)
      apply Exists.intro
      refine And.intro (fun wx hx => ?_) ?_
      · have e0 := below_fact hx rfl x0
        have e1 := below_fact hx rfl x1
        have e2 := below_fact hx rfl x2
        have e3 := below_fact hx rfl y0
        have e4 := below_fact hx rfl y1
        have e5 := below_fact hx rfl y2
        go_simp
        try rfl
      go_simp
      refine hK1 _ ?_
      clear hK1 K1
      refine wpPre_nil ?_
      refine wpTr_e rfl (fun K1 hK1 => ?_)
      refine step_call rfl 14 #[.tmp 20, .tmp 24] _ rfl Try.f14 Try.func14 (by kernel_rfl) rfl #[.agg #[.int .i64 a.fr, .int .i64 a.tt, .slice q1 N c1], .agg #[.int .i64 a.fr, .int .i64 a.tt, .slice q2 N c2]] rfl _ HCs.out ?_
      rintro e1 w1 ⟨rfl, hb1⟩
      refine ⟨_, rfl, ?_⟩
      have HB1 : Hid (Below wr.heap.size wr w1) := ((Below.refl _ _).drew).trans hb1
      clear hb1
      go_simp
      refine hK1 _ _ (fun h => by cases h) ?_
      clear hK1 K1
      refine wpPre_e rfl rfl (fun K1 hK1 => ?_)
      apply Exists.intro
      refine And.intro (fun wx hx => ?_) ?_
      · go_simp
        try rfl
      go_simp
      refine hK1 _ ?_
      clear hK1 K1
      refine wpPre_nil ?_
      refine wpTr_done ?_
      have HBn : Hid (Below w.heap.size w w1) := HBw.out.trans (HB1.out.mono HBw.out.size)
      clear x0 x1 x2 y0 y1 y2 HCs
      go_wp2
      go_roundw
      case rel => exact ⟨i + 1, by omega, by go_num, HBn.out⟩
      case measure => simp [intOf]; omega
    · have hlt' : ¬ (i : Int) < (n : Int) := by omega
      go_wp2
      exact bodyPost_ret (v := .bool true) (by simp [results, Try.results9, go_sem]) rfl ⟨rfl, HBw.out⟩
end Go.Proofs.Ytbeibhmbaofjhaa
