import Derived.Test.YtgnamngnmbaeeaaDoorPack14
namespace Go.Proofs.YtgnamngnmbaeeaaDoor
open Go.RowKit
set_option maxRecDepth 8000
def NsQ (l wi : Int) (w : World) (e : Ending) (w' : World) : Prop :=
  (fineE l wi → ∃ b, w.heap.size ≤ b ∧ e = .returned (.tuple #[.pointer (some ⟨b, 0, none⟩), .int .i64 0]) ∧ Below w.heap.size w w' ∧ ∀ Z, (∀ k, Z k → k < w.heap.size) → SndI w' Z b ⟨l.toNat, wi.toNat, 0, [], 0⟩) ∧
  (¬ fineE l wi → e = .returned (.tuple #[.pointer none, .int .i64 210]) ∧ Below w.heap.size w w')
set_option maxHeartbeats 4000000 in
theorem newSnd_any (l wi : Int) (w : World) : Calls Tryd.prog 25 #[.int .i64 l, .int .i64 wi] w fun e w' => NsQ l wi w e w' := by
  have HN := hid (newEnd_any l wi w)
  go_enter Tryd.func25, Tryd.ntmps25
  go_wp2_with fail
  refine HN.out.mono ?_
  rintro e w1 hq
  have hb1 := hq.2.2
  by_cases hf : fineE l wi
  · have he := hq.1 hf
    subst he
    obtain ⟨eb, heb⟩ : ∃ eb, eb = w1.heap.size := ⟨_, rfl⟩
    obtain ⟨V, hV⟩ : ∃ V, V = w1.alloc (.cells #[.int .i64 l, .int .i64 wi] 65) := ⟨_, rfl⟩
    have hB : Below w1.heap.size w1 V := by rw [hV]; exact (Below.refl _ _).alloc (Nat.le_refl _) _
    have hX : Box V eb #[.int .i64 l, .int .i64 wi] 65 := by rw [hV, heb]; exact Box.new _ _ _
    have HB : Hid (Below w.heap.size w V) := hb1.trans (hB.mono hb1.size)
    have HV := hid hV
    have HEb := hid heb
    have HF := hid hf
    have c0 := hX.cell 0
    have c1 := hX.cell 1
    have cl := hX.lt
    simp at c0 c1
    clear hq hb1 hf heb hV hB hX HN
    go_upto_region 2 with fail
    rw [← HV.out, ← HEb.out]
    go_wp2
    obtain ⟨b, hb⟩ : ∃ b, b = V.heap.size := ⟨_, rfl⟩
    obtain ⟨V6, hV6⟩ : ∃ W, W = V.alloc (.cells #[.int .i64 l, .int .i64 wi, .int .i64 0, .slice none 0 0, .int .i64 0] 67) := ⟨_, rfl⟩
    have hX6 : Box V6 b #[.int .i64 l, .int .i64 wi, .int .i64 0, .slice none 0 0, .int .i64 0] 67 := by rw [hV6, hb]; exact Box.new _ _ _
    have hB6 : Below V.heap.size V V6 := by rw [hV6]; exact (Below.refl _ _).alloc (Nat.le_refl _) _
    rw [← hV6, ← hb]
    have HQ : Hid (NsQ l wi w (.returned (.tuple #[.pointer (some ⟨b, 0, none⟩), .int .i64 0])) V6) := by
      refine ⟨fun _ => ⟨b, by have := HB.out.size; omega, rfl, HB.out.trans (hB6.mono HB.out.size), fun Z hZ => ?_⟩, fun h => absurd HF.out h⟩
      obtain ⟨f1, f2, f3, f4⟩ := HF.out
      have hs := HB.out.size
      refine ⟨.slice none 0 0, [], ?_, Rw.nil _ _, rfl, fun e => by have := hZ b e; omega, ⟨by show l.toNat ≤ 23; omega, by show 1 ≤ wi.toNat ∧ wi.toNat ≤ 16; omega, by show (0 : Nat) + 0 ≤ _; omega, fun m hm => by simp at hm, by show (0 : Nat) ≤ _; omega⟩⟩
      have e1 : ((l.toNat : Nat) : Int) = l := by omega
      have e2 : ((wi.toNat : Nat) : Int) = wi := by omega
      show Box _ _ #[.int .i64 ((l.toNat : Nat) : Int), .int .i64 ((wi.toNat : Nat) : Int), _, _, _] _
      rw [e1, e2]
      exact hX6
    clear hV6 hX6 hB6 hb
    exact bodyPost_ret (v := .tuple #[.pointer (some ⟨b, 0, none⟩), .int .i64 0]) (by simp [results, Tryd.results25, go_sem]) rfl HQ.out
  · have he := hq.2.1 hf
    subst he
    have HB := hid hb1
    have HF := hid hf
    clear hq hb1 hf HN
    obtain ⟨V, hV⟩ : ∃ V, V = w1.alloc (.cells #[.int .i64 0, .int .i64 0] 65) := ⟨_, rfl⟩
    have hB : Below w1.heap.size w1 V := by rw [hV]; exact (Below.refl _ _).alloc (Nat.le_refl _) _
    have HBV : Hid (Below w.heap.size w V) := HB.out.trans (hB.mono HB.out.size)
    have HV := hid hV
    clear hB hV
    go_upto_region 2 with fail
    rw [← HV.out]
    go_wp2
    exact bodyPost_ret (v := .tuple #[.pointer none, .int .i64 210]) (by simp [results, Tryd.results25, go_sem]) rfl ⟨fun h => absurd h HF.out, fun _ => ⟨rfl, HBV.out⟩⟩
set_option maxHeartbeats 2000000 in
theorem last_any (w : World) (Z : Nat → Prop) (b : Nat) (A : SA) (h : SndI w Z b A) : Calls Tryd.prog 27 #[.pointer (some ⟨b, 0, none⟩)] w fun e w' => e = .returned (.int .i64 ((A.an + A.q.length : Nat) : Int)) ∧ Below w.heap.size w w' := by
  obtain ⟨v, L, hX, hR, hq, hz, hok⟩ := h
  obtain ⟨p, c, rfl⟩ := hR.slice
  have hl : L.length = A.q.length := by rw [← hq, List.length_map]
  rw [hl] at hX
  have h0 := hok.an
  obtain ⟨n, hn⟩ : ∃ n, n = A.q.length := ⟨_, rfl⟩
  rw [← hn] at hX h0 ⊢
  have c2 := hX.cell 2
  have c3 := hX.cell 3
  have cl := hX.lt
  simp at c2 c3
  clear hn hX hR hq hl
  go_enter Tryd.func27, Tryd.ntmps27
  go_upto_region 1 with fail
  have E0 := fun u : BW w => u.fact c2 cl
  have E1 := fun u : BW w => u.fact c3 cl
  refine wp_region_bw w (Below.refl _ _).drew (by kernel_rfl) (by kernel_rfl) ?_
  repeat (go_big_quiet_step (fail))
  refine wpQuiet_nil ?_
  rintro w2 ⟨u0, hw0⟩
  have hb2 : Below w.heap.size w w2 := by rw [hw0]; exact u0.prop
  clear hw0 u0 E0 E1
  have HB := hid hb2
  clear hb2
  go_wp2
  refine bodyPost_ret (v := .int .i64 ((A.an : Int) + (n : Int))) (by simp [results, Tryd.results27, go_sem]) rfl ⟨by rw [Int.natCast_add], HB.out⟩
theorem open_any (w : World) (Z : Nat → Prop) (b : Nat) (A : SA) (h : SndI w Z b A) : Calls Tryd.prog 10 #[.pointer (some ⟨b, 0, none⟩)] w fun e w' => e = .returned (.int .i64 (A.q.length : Int)) ∧ w' = w := by
  obtain ⟨v, L, hX, hR, hq, hz, hok⟩ := h
  obtain ⟨p, c, rfl⟩ := hR.slice
  have hl : L.length = A.q.length := by rw [← hq, List.length_map]
  rw [hl] at hX
  have h0 := hok.an
  have c3 := hX.cell 3
  have cl := hX.lt
  simp at c3
  clear hX hR hq hl
  go_enter Tryd.func10, Tryd.ntmps10
  go_wp2
  exact bodyPost_ret (v := .int .i64 (A.q.length : Int)) (by simp [results, Tryd.results10, go_sem]) rfl ⟨rfl, rfl⟩
theorem word_any (w : World) (Z : Nat → Prop) (b : Nat) (A : SA) (h : SndI w Z b A) : Calls Tryd.prog 18 #[.pointer (some ⟨b, 0, none⟩)] w fun e w' => e = .returned (.int .i64 (A.wd : Int)) ∧ w' = w := by
  obtain ⟨v, L, hX, hR, hq, hz, hok⟩ := h
  obtain ⟨p, c, rfl⟩ := hR.slice
  have hl : L.length = A.q.length := by rw [← hq, List.length_map]
  rw [hl] at hX
  have h0 := hok.an
  have c4 := hX.cell 4
  have cl := hX.lt
  simp at c4
  clear hX hR hq hl
  go_enter Tryd.func18, Tryd.ntmps18
  go_wp2
  exact bodyPost_ret (v := .int .i64 (A.wd : Int)) (by simp [results, Tryd.results18, go_sem]) rfl ⟨rfl, rfl⟩
theorem row_zero (w : World) : (w.alloc (.cells #[] 5)).ownsRow w.heap.size 5 1 (.slice (some ⟨w.heap.size, 0, none⟩) 0 0) 0 [] := ⟨rfl, .inr ⟨w.heap.size, 0, #[], rfl, Nat.le_refl _, Box.new w _ _, Nat.le_refl _, by unfold maxLen; omega, rfl, rfl⟩⟩
theorem bs_own {base : Nat} {w : World} {v : Value} {zs : List Int} (h : OwnBy base w v zs) (hz : ∀ z ∈ zs, 0 ≤ z ∧ z < 256) (hl : zs.length ≤ 140737488355328) : ∃ y : BS, y.zs = zs ∧ v = y.val ∧ y.In w (fun k => base ≤ k) := by
  obtain ⟨p, c, rfl⟩ := own_shape h
  refine ⟨⟨p, c, zs⟩, rfl, rfl, ?_⟩
  have hb := OwnBy.bytes h hz
  obtain ⟨_, h1 | ⟨g, cap, cur, hv, hg, _, hn, hm, _⟩⟩ := id h
  · obtain ⟨hv, h0⟩ := h1
    simp only [Value.slice.injEq] at hv
    obtain rfl : zs = [] := List.eq_nil_of_length_eq_zero h0
    obtain ⟨rfl, _, rfl⟩ := hv
    exact ⟨fun hn => absurd hn (by simp), Nat.le_refl _, Nat.zero_le _, Nat.zero_le _, fun j hj => absurd hj (by simp), fun _ => ⟨rfl, rfl⟩⟩
  · simp only [Value.slice.injEq] at hv
    obtain ⟨rfl, _, rfl⟩ := hv
    refine ⟨fun hn0 => ?_, hn, hl, hm, fun j hj => ?_, fun hp => by cases hp⟩
    · obtain ⟨b, o, e, hl2, ha⟩ := hb.at_ hn0
      have e' : some (⟨g, 0, none⟩ : Addr) = some ⟨b, o, none⟩ := e
      simp only [Option.some.injEq, Addr.mk.injEq, and_true] at e'
      exact ⟨b, o, e, by omega, hl2, ha⟩
    · have hj' : j < zs.length := hj
      have := hz zs[j] (List.getElem_mem hj')
      simp only [List.getD_eq_getElem?_getD, List.getElem?_eq_getElem hj', Option.getD_some]
      exact this
theorem bs_nil (w : World) (S : Nat → Prop) : BS.In w S ⟨none, 0, []⟩ := ⟨fun hn => absurd hn (by simp), Nat.le_refl _, Nat.zero_le _, Nat.zero_le _, fun j hj => absurd hj (by simp), fun _ => ⟨rfl, rfl⟩⟩
def ClQ (zs : List Int) (w : World) (e : Ending) (w' : World) : Prop := ∃ y : BS, y.zs = zs ∧ e = .returned y.val ∧ y.In w' (fun k => w.heap.size ≤ k) ∧ Below w.heap.size w w'
set_option maxHeartbeats 2000000 in
theorem clone_any (x : BS) (w : World) (S : Nat → Prop) (hx : x.In w S) : Calls Tryd.prog 28 #[x.val] w fun e w' => ClQ x.zs w e w' := by
  obtain ⟨i0, K0⟩ := kindB
  obtain ⟨xp, xc, xz⟩ := x
  have hnil := hx.nil
  obtain ⟨n, hn⟩ : ∃ n, n = xz.length := ⟨_, rfl⟩
  have hn2 : n ≤ 140737488355328 := by rw [hn]; exact hx.nn
  have HN := hid hn
  have HX := hid hx
  simp only [BS.val, ← hn]
  clear hn hx
  cases xp with
  | none =>
    obtain ⟨h1, h2⟩ := hnil rfl
    have h1' : xz.length = 0 := h1
    obtain rfl : xz = [] := List.eq_nil_of_length_eq_zero h1'
    obtain rfl : n = 0 := HN.out
    have h2' : xc = 0 := h2
    subst h2'
    clear h1 h1' h2 hnil
    have he := Go.Lib.run_eql_slice_nil (P := Tryd.prog) w 36 5 none 0 0 0 0 Tryd.underlying36
    simp only [Option.isNone_none] at he
    go_enter Tryd.func28, Tryd.ntmps28
    go_wp2
    exact bodyPost_ret (v := .slice none 0 0) (by simp [results, Tryd.results28, go_sem]) rfl ⟨⟨none, 0, []⟩, rfl, rfl, bs_nil _ _, Below.refl _ _⟩
  | some ad =>
    clear hnil
    have he := Go.Lib.run_eql_slice_nil (P := Tryd.prog) w 36 5 (some ad) n xc 0 0 Tryd.underlying36
    simp only [Option.isNone_some] at he
    have HS : Hid (Src (w.alloc (.cells #[] 5)) (some ad) n xc 1 (xz.map (.int .u8))) := by
      have h := (HX.out.below ((Below.refl w.heap.size w).alloc (Nat.le_refl _) (.cells #[] 5))).bsrc
      rw [← HN.out] at h
      exact h
    go_enter Tryd.func28, Tryd.ntmps28
    go_wp2_with (at_builtin; refine wpList_appS rfl (.tmp 5) (.tmp 6) 36 5 i0 _ 1 1 K0 rfl w.heap.size (.slice (some ⟨w.heap.size, 0, none⟩) 0 0) 0 [] rfl (row_zero w) (some ad) n xc (xz.map (.int .u8)) rfl HS.out (oneu8 _) (by omega) (by omega) (by simp) ?_)
    intro v2 w2 ho2 hg2 _
    have hO : OwnBy w.heap.size w2 v2 xz := by
      unfold OwnBy
      rw [← HN.out]
      simpa using ho2
    have hB2 : Below w.heap.size w w2 := Below.grown ((Below.refl w.heap.size w).alloc (Nat.le_refl _) (.cells #[] 5)) hg2 (by simp) fun k hk => by
      have hk2 : w.heap.size = k := by simpa [Value.ownBlock] using hk
      omega
    obtain ⟨y, hy1, hy2, hy3⟩ := bs_own hO HX.out.byte (by rw [← HN.out]; exact hn2)
    have HQ := hid (show ClQ xz w (.returned v2) w2 from ⟨y, hy1, by rw [hy2], hy3, hB2⟩)
    clear ho2 hg2 hO hB2 hy1 hy2 hy3
    go_wp2
    exact bodyPost_ret (v := v2) (by simp [results, Tryd.results28, go_sem]) rfl HQ.out
end Go.Proofs.YtgnamngnmbaeeaaDoor

namespace Go.Proofs.YtgnamngnmbaeeaaDoor
open Go.RowKit
set_option maxRecDepth 8000
/-- a bound that no walk looks into -/
def Lid (n : Nat) : Prop := n ≤ 1073741824
/-- what becomes of a sending end that does not change -/
def SndQ (w : World) (Z : Nat → Prop) (b : Nat) (A : SA) (w' : World) : Prop := SndI w' Z b A ∧ Fr Z w w'
theorem SndI.same {w w' : World} {Z : Nat → Prop} {b : Nat} {A : SA} (h : SndI w Z b A) (hb : Below w.heap.size w w') : SndQ w Z b A w' := ⟨h.below hb fun _ _ h => h, Fr.below hb⟩
def putE (A : SA) (m : List Int) : Int := if 4096 < m.length then 211 else if 1073741824 ≤ A.an + A.q.length then 215 else 0
def PutQ (w : World) (Z : Nat → Prop) (b : Nat) (A : SA) (m : List Int) (e : Ending) (w' : World) : Prop :=
  e = .returned (.int .i64 (putE A m)) ∧ SndQ w Z b (if putE A m = 0 then { A with q := A.q ++ [m] } else A) w'
set_option maxHeartbeats 8000000 in
theorem put_any (w : World) (Z : Nat → Prop) (b : Nat) (A : SA) (h : SndI w Z b A) (hZ : ∀ k, Z k → k < w.heap.size) (x : BS) (S : Nat → Prop) (hx : x.In w S) : Calls Tryd.prog 9 #[.pointer (some ⟨b, 0, none⟩), x.val] w fun e w' => PutQ w Z b A x.zs e w' := by
  have H := hid h
  have HLa := hid (last_any w Z b A h)
  have hnn := hx.nn
  have HX := hid hx
  obtain ⟨m, hm⟩ : ∃ m, m = x.zs.length := ⟨_, rfl⟩
  have HM := hid hm
  obtain ⟨N, hN⟩ : ∃ N, N = A.an + A.q.length := ⟨_, rfl⟩
  have HNn := hid hN
  have hN1 : N ≤ 1073741824 := by rw [hN]; exact h.ok.an
  rw [← hN] at HLa
  have HZ := hid hZ
  obtain ⟨xv, hxv⟩ : ∃ xv, xv = x.val := ⟨_, rfl⟩
  have hxs : xv = .slice x.p m x.c := by rw [hxv, hm]; rfl
  rw [← hm] at hnn
  rw [← hxv]
  have HXv := hid hxv
  clear hm hN h hx hxv hZ
  by_cases h1 : 4096 < m
  · have h1' : (4096 : Int) < (m : Int) := by omega
    have HE : Hid (putE A x.zs = 211) := by show putE A x.zs = 211; unfold putE; rw [if_pos (by rw [← HM.out]; exact h1)]
    rw [hxs]
    clear h1 hxs HLa
    go_enter Tryd.func9, Tryd.ntmps9
    go_wp2
    exact bodyPost_ret (v := .int .i64 211) (by simp [results, Tryd.results9, go_sem]) rfl ⟨by rw [HE.out], by rw [HE.out]; exact H.out.same (Below.refl _ _)⟩
  · have h1' : ¬ (4096 : Int) < (m : Int) := by omega
    rw [hxs]
    go_enter Tryd.func9, Tryd.ntmps9
    go_wp2_with fail
    refine HLa.out.mono ?_
    rintro e w1 ⟨rfl, hb1⟩
    have HB1 := hid hb1
    have H1 := hid (H.out.below hb1 fun _ _ h => h)
    clear hb1 HLa
    by_cases h2 : 1073741824 ≤ N
    · have h2' : (1073741824 : Int) ≤ (N : Int) := by omega
      have HE : Hid (putE A x.zs = 215) := by show putE A x.zs = 215; unfold putE; rw [if_neg (by rw [← HM.out]; exact h1), if_pos (by rw [← HNn.out]; exact h2)]
      clear h1 h2 hxs
      go_wp2
      exact bodyPost_ret (v := .int .i64 215) (by simp [results, Tryd.results9, go_sem]) rfl ⟨by rw [HE.out], by rw [HE.out]; exact H.out.same HB1.out⟩
    · have h2b : (decide ((1073741824 : Int) ≤ (N : Int))) = false := decide_eq_false (by omega)
      have HE : Hid (putE A x.zs = 0) := by show putE A x.zs = 0; unfold putE; rw [if_neg (by rw [← HM.out]; exact h1), if_neg (by rw [← HNn.out]; exact h2)]
      have HCl := hid (clone_any x w1.drew S ((HX.out.below HB1.out).below (Below.refl _ _).drew))
      rw [← HXv.out, hxs] at HCl
      obtain ⟨v, L, hX, hR, hq, hz, hok⟩ := H1.out
      obtain ⟨p, c, hv⟩ := hR.slice
      subst hv
      have hl : L.length = A.q.length := by rw [← hq, List.length_map]
      have HL30 : Lid (L.length + 1) := by unfold Lid; have := HNn.out; omega
      have HXb := hid hX
      have HR := hid hR
      have Hq := hid hq
      have Hz := hid hz
      have Hok := hid hok
      have c3 := hX.cell 3
      have cl := hX.lt
      have cf := hX.frozen
      simp at c3
      clear hX hR hq hz hok hl h1 h2 H1 hN1 hxs
      go_upto_region 5 with fail
      refine wp_region_calmE 30 (fun wx => Below w1.heap.size w1 wx) [(0, true), (1, true), (2, true), (3, true), (4, false), (5, true)] (.one 6 true [] (.one 7 true [] (.one 8 false [(9, true), (10, true)] (.one 11 false [] .done)))) (by kernel_rfl) (by kernel_rfl) (Below.refl _ _).drew ?_
      refine wpPre_e rfl rfl (fun K1 hK1 => ?_)
      apply Exists.intro
      refine And.intro (fun wx hx => ?_) ?_
      · go_simp
        try rfl
      go_simp
      refine hK1 _ ?_
      clear hK1 K1
      refine wpPre_e rfl rfl (fun K1 hK1 => ?_)
      apply Exists.intro
      refine And.intro (fun wx hx => ?_) ?_
      · go_simp
        try rfl
      go_simp
      refine hK1 _ ?_
      clear hK1 K1
      refine wpPre_e rfl rfl (fun K1 hK1 => ?_)
      apply Exists.intro
      refine And.intro (fun wx hx => ?_) ?_
      · go_simp
        try rfl
      go_simp
      refine hK1 _ ?_
      clear hK1 K1
      refine wpPre_e rfl rfl (fun K1 hK1 => ?_)
      apply Exists.intro
      refine And.intro (fun wx hx => ?_) ?_
      · go_simp
        try rfl
      go_simp
      refine hK1 _ ?_
      clear hK1 K1
      refine wpPre_e rfl rfl (fun K1 hK1 => ?_)
      apply Exists.intro
      refine And.intro (fun wx hx => ?_) ?_
      · have e0 := below_fact hx rfl c3
        go_simp
        try rfl
      go_simp
      refine hK1 _ ?_
      clear hK1 K1
      refine wpPre_e rfl rfl (fun K1 hK1 => ?_)
      apply Exists.intro
      refine And.intro (fun wx hx => ?_) ?_
      · go_simp
        try rfl
      go_simp
      refine hK1 _ ?_
      clear hK1 K1
      refine wpPre_nil ?_
      refine wpTr_e rfl (fun K1 hK1 => ?_)
      refine step_callG (by first | rfl | go_simp) 28 #[.tmp 18] _ rfl Tryd.f28 Tryd.func28 (by kernel_rfl) rfl #[.slice x.p m x.c] rfl _ (HCl.out) ?_
      rintro e_ w2 ⟨⟨yp, yc, yz⟩, hy1, rfl, hy2, hb2⟩
      refine ⟨_, rfl, ?_⟩
      dsimp only [BS.val]
      have hb2w : Below w1.heap.size w1 w2 := (Below.refl _ _).drew.trans (hb2.mono (Nat.le_refl _))
      have HB2 := hid hb2w
      have HY := hid hy2
      have HYz := hid hy1
      go_simp
      refine hK1 _ _ (fun _ => HB2.out) ?_
      clear hK1 K1
      refine wpPre_nil ?_
      refine wpTr_e rfl (fun K1 hK1 => ?_)
      clear hb2 hb2w hy1 hy2 HCl
      obtain ⟨V3, hV3⟩ : ∃ V, V = w2.alloc (.cells #[.slice yp yz.length yc] 36) := ⟨_, rfl⟩
      have hb3 : Below w2.heap.size w2 V3 := by rw [hV3]; exact (Below.refl _ _).alloc (Nat.le_refl _) _
      have hX3 : Box V3 w2.heap.size #[.slice yp yz.length yc] 36 := by rw [hV3]; exact Box.new _ _ _
      have HB3 : Hid (Below w1.heap.size w1 V3) := HB2.out.trans (hb3.mono HB2.out.size)
      have HX3 := hid hX3
      have HV3 := hid hV3
      have HY3 := hid (HY.out.below hb3)
      clear hb3 hX3 hV3
      go_simp
      rw [← HV3.out]
      refine hK1 _ _ (fun _ => HB3.out) ?_
      clear hK1 K1
      refine wpPre_nil ?_
      refine wpTr_e rfl (fun K1 hK1 => ?_)
      have HRow := hid (HR.out.below HB3.out fun _ _ h => h)
      obtain ⟨nb, hnb⟩ : ∃ nb, nb = w2.heap.size := ⟨_, rfl⟩
      rw [← hnb]
      have hy0 : V3.cell? ⟨nb, 0, none⟩ = some (.slice yp yz.length yc) := by rw [hnb]; exact HX3.out.cell 0
      refine step_appQ rfl (.tmp 17) (.tmp 20) rfl _ (L.map BS.val) rfl HRow.out.row ⟨nb, 0, none⟩ 1 (.slice yp yz.length yc) rfl hy0 rfl (by rw [List.length_map]; have h9 : L.length + 1 ≤ 1073741824 := HL30; omega) ?_
      intro v4 w4 hr4 hg4 hn4
      have hpush := HRow.out.push (x := ⟨yp, yc, yz⟩) hr4 hg4 hn4 (HY3.out.mono fun k hk hl => by
        have hk' : w1.heap.size ≤ k := hk
        refine ⟨fun e => ?_, fun e => by have := (HR.out.row.lt e).1; omega⟩
        rcases e with e | e
        · have := HZ.out k e; have := HB1.out.size; omega
        · have := HXb.out.lt; omega) (fun k hk => by
        have h3 := HB3.out.size
        rcases hk with e | e
        · have := HZ.out k e; have := HB1.out.size; omega
        · have := HXb.out.lt; omega)
      obtain ⟨p4, c4, hv4⟩ := hpush.slice
      subst hv4
      have HX4 : Hid (Box w4 b #[.int .i64 (A.ln : Int), .int .i64 (A.wi : Int), .int .i64 (A.an : Int), .slice p L.length c, .int .i64 (A.wd : Int)] 67) := (HXb.out.below HB3.out).but (But.grow hg4) (fun e => HR.out.z b e (.inr rfl))
      have HP := hid hpush
      have HG4 := hid (But.grow hg4)
      have d3 := HX4.out.cell 3
      have dl := HX4.out.lt
      have df := HX4.out.frozen
      simp at d3
      clear hr4 hg4 hn4 hpush hnb hy0
      refine hK1 _ _ (fun h => by cases h) ?_
      clear hK1 K1
      refine wpPre_e rfl rfl (fun K1 hK1 => ?_)
      apply Exists.intro
      refine And.intro (fun wx hx => ?_) ?_
      · go_simp
        try rfl
      go_simp
      refine hK1 _ ?_
      clear hK1 K1
      refine wpPre_e rfl rfl (fun K1 hK1 => ?_)
      apply Exists.intro
      refine And.intro (fun wx hx => ?_) ?_
      · go_simp
        try rfl
      go_simp
      refine hK1 _ ?_
      clear hK1 K1
      refine wpPre_nil ?_
      refine wpTr_e rfl (fun K1 hK1 => ?_)
      go_simp
      refine hK1 _ _ (fun h => by cases h) ?_
      clear hK1 K1
      refine wpPre_nil ?_
      refine wpTr_done ?_
      obtain ⟨W5, hW5⟩ : ∃ W, W = w4.setCell ⟨b, 3, none⟩ (.slice p4 (L.length + 1) c4) := ⟨_, rfl⟩
      have hbt : But (fun k => k = b) w4 W5 := by rw [hW5]; exact (But.one _ _).setAt _ _
      have hX5 : Box W5 b #[.int .i64 (A.ln : Int), .int .i64 (A.wi : Int), .int .i64 (A.an : Int), .slice p4 (L.length + 1) c4, .int .i64 (A.wd : Int)] 67 := by
        rw [hW5]
        exact HX4.out.set 3 _
      have HQ : Hid (PutQ w Z b A x.zs (.returned (.int .i64 0)) W5) := by
        refine ⟨by rw [HE.out], ?_⟩
        rw [HE.out, if_pos rfl]
        have hq2 : (L ++ [(⟨yp, yc, yz⟩ : BS)]).map BS.zs = A.q ++ [x.zs] := by rw [List.map_append, Hq.out, ← HYz.out]; rfl
        refine ⟨⟨.slice p4 (L.length + 1) c4, L ++ [⟨yp, yc, yz⟩], hX5, (by have h := HP.out; rw [List.length_append] at h; exact h.but (hbt.mono fun k _ e => .inr e) fun _ _ h => h), hq2, Hz.out, ?_⟩, ?_⟩
        · have h := Hok.out
          refine ⟨h.ln, h.wi, ?_, fun y hy => ?_, h.wd⟩
          · show A.an + (A.q ++ [x.zs]).length ≤ _
            have h9 : L.length + 1 ≤ 1073741824 := HL30
            have h8 := of_decide_eq_false h2b
            have h7 := HNn.out
            rw [List.length_append, List.length_singleton]
            omega
          · rcases List.mem_append.1 hy with hy | hy
            · exact h.q y hy
            · simp only [List.mem_singleton] at hy
              subst hy
              have h7 := HM.out
              omega
        · refine (Fr.below HB1.out).trans ?_
          have h1 : Fr Z w1 w2 := Fr.below HB2.out
          refine (Fr.below HB3.out).trans (Fr.trans (b := w4) ?_ ?_)
          · exact HG4.out.mono fun k _ hk => by
              have := HRow.out.z k hk
              exact fun e => this (.inl e)
          · exact hbt.mono fun k _ e => by have e' : k = b := e; subst e'; exact Hz.out
      rw [← hW5]
      clear hW5 hbt hX5
      go_wp2
      exact bodyPost_ret (v := .int .i64 0) (by simp [results, Tryd.results9, go_sem]) rfl HQ.out
end Go.Proofs.YtgnamngnmbaeeaaDoor

namespace Go.Proofs.YtgnamngnmbaeeaaDoor
open Go.RowKit
set_option maxRecDepth 8000
theorem readS_kd {B : List Int} {l : Let} (h : readS B = some l) : l.kd = 68 ∨ l.kd = 65 := by
  cases B with
  | nil => cases h
  | cons k R =>
    unfold readS at h
    simp only at h
    by_cases h1 : k = 68
    · rw [if_pos h1] at h
      obtain ⟨y, _, rfl⟩ := Option.map_eq_some_iff.1 h
      exact .inl rfl
    · rw [if_neg h1] at h
      by_cases h2 : k = 65
      · rw [if_pos h2] at h
        obtain ⟨y, _, rfl⟩ := Option.map_eq_some_iff.1 h
        exact .inr rfl
      · rw [if_neg h2] at h; cases h
/-- what unpacking comes to -/
def unpE (ln : Nat) (k : Int) (zs : List Int) : Int := match readP zs with
  | none => 212
  | some l => if l.kd ≠ k then 212 else if l.ln ≠ ln then 213 else 0
def UnpQ (ln : Nat) (k : Int) (zs : List Int) (w : World) (e : Ending) (w' : World) : Prop :=
  (unpE ln k zs ≠ 0 → e = .returned (.tuple #[letZ, .int .i64 (unpE ln k zs)])) ∧
  (∀ l, readP zs = some l → unpE ln k zs = 0 → ∃ y : BS, y.zs = l.ms ∧ y.In w' (fun k => w.heap.size ≤ k) ∧ e = .returned (.tuple #[.agg #[.int .u8 k, .int .i64 (l.ln : Int), .int .i64 (l.nu : Int), .int .i64 (l.wd : Int), y.val], .int .i64 0])) ∧ Below w.heap.size w w'
set_option maxHeartbeats 8000000 in
theorem unpack_any (ln wi : Nat) (x : BS) (k : Int) (w : World) (S : Nat → Prop) (hx : x.In w S) (hT : Tab w) :
    Calls Tryd.prog 53 #[.agg #[.int .i64 (ln : Int), .int .i64 (wi : Int)], x.val, .int .u8 k] w fun e w' => UnpQ ln k x.zs w e w' := by
  obtain ⟨V1, hV1⟩ : ∃ V, V = w.alloc (.cells #[.int .i64 (ln : Int), .int .i64 (wi : Int)] 65) := ⟨_, rfl⟩
  obtain ⟨V, hV⟩ : ∃ V, V = V1.alloc (.cells #[.int .u8 0, .int .i64 0, .int .i64 0, .int .i64 0, .slice none 0 0] 100) := ⟨_, rfl⟩
  have hB1 : Below w.heap.size w V1 := by rw [hV1]; exact (Below.refl _ _).alloc (Nat.le_refl _) _
  have hB2 : Below V1.heap.size V1 V := by rw [hV]; exact (Below.refl _ _).alloc (Nat.le_refl _) _
  obtain ⟨eb, heb⟩ : ∃ eb, eb = w.heap.size := ⟨_, rfl⟩
  obtain ⟨rb, hrb⟩ : ∃ rb, rb = V1.heap.size := ⟨_, rfl⟩
  have hXe : Box V eb #[.int .i64 (ln : Int), .int .i64 (wi : Int)] 65 := by
    have h : Box V1 eb #[.int .i64 (ln : Int), .int .i64 (wi : Int)] 65 := by rw [hV1, heb]; exact Box.new _ _ _
    exact h.below hB2
  have hXr : Box V rb #[.int .u8 0, .int .i64 0, .int .i64 0, .int .i64 0, .slice none 0 0] 100 := by rw [hV, hrb]; exact Box.new _ _ _
  have HB : Hid (Below w.heap.size w V) := hB1.trans (hB2.mono hB1.size)
  have HRd := hid (read_any x V S (hx.below HB.out) (hT.later HB.out))
  have hs1 := hB1.size
  have hs1' : V1.heap.size = w.heap.size + 1 := by rw [hV1]; simp
  obtain ⟨xv, hxv⟩ : ∃ xv, xv = x.val := ⟨_, rfl⟩
  rw [← hxv] at HRd ⊢
  have HV1 := hid hV1
  have HV := hid hV
  have HEb := hid heb
  have HRb := hid hrb
  have HXe := hid hXe
  have HXr := hid hXr
  have HSr : Hid (w.heap.size ≤ rb) := by show _ ≤ _; omega
  have hw : V = (w.alloc (.cells #[.int .i64 (ln : Int), .int .i64 (wi : Int)] 65)).alloc (.cells #[.int .u8 0, .int .i64 0, .int .i64 0, .int .i64 0, .slice none 0 0] 100) := by rw [hV, hV1]
  have hrb' : rb = w.heap.size + 1 := by omega
  have HW := hid hw
  have HRb' := hid hrb'
  clear hV1 hV hB1 hB2 heb hrb hXe hXr hs1 hs1' hx hT hxv hw hrb'
  go_enter Tryd.func53, Tryd.ntmps53
  go_upto_region 1 with fail
  rw [← HW.out, ← HEb.out]
  rw [HEb.out, ← HRb'.out, ← HEb.out]
  go_wp2_with fail
  refine HRd.out.mono ?_
  rintro e w1 ⟨hn, hs, hb1⟩
  have HB1 := hid hb1
  have HXr1 := hid (HXr.out.below hb1)
  have HXe1 := hid (HXe.out.below hb1)
  obtain ⟨pb, hpb⟩ : ∃ pb, pb = w1.heap.size := ⟨_, rfl⟩
  have HPb := hid hpb
  have HUn : Hid (∀ y : Int, unpE ln k x.zs = y → unpE ln k x.zs = y) := fun _ h => h
  cases hr : readP x.zs with
  | none =>
    as_aux_lemma =>
    have HE : Hid (unpE ln k x.zs = 212) := by show unpE ln k x.zs = 212; unfold unpE; rw [hr]
    have HNo : Hid (∀ l, ¬ readP x.zs = some l) := fun l h => by rw [hr] at h; cases h
    obtain rfl := hn hr
    clear hn hs hb1 hr hpb HRd
    unfold letZ
    obtain ⟨V3, hV3⟩ : ∃ V, V = w1.alloc (.cells #[.int .u8 0, .int .i64 0, .int .i64 0, .int .i64 0, .slice none 0 0] 100) := ⟨_, rfl⟩
    have hb3 : Below w1.heap.size w1 V3 := by rw [hV3]; exact (Below.refl _ _).alloc (Nat.le_refl _) _
    have hX3 : Box V3 pb #[.int .u8 0, .int .i64 0, .int .i64 0, .int .i64 0, .slice none 0 0] 100 := by rw [hV3, HPb.out]; exact Box.new _ _ _
    have HXr3 := hid (HXr1.out.below hb3)
    have hXe3 := HXe1.out.below hb3
    have HB3 : Hid (Below w.heap.size w V3) := (HB.out.trans (HB1.out.mono HB.out.size)).trans (hb3.mono (Nat.le_trans HB.out.size HB1.out.size))
    have HV3 := hid hV3
    have z0 := hX3.cell 0
    have z1 := hX3.cell 1
    have z2 := hX3.cell 2
    have z3 := hX3.cell 3
    have z4 := hX3.cell 4
    have zl := hX3.lt
    have ze := hXe3.cell 0
    have zel := hXe3.lt
    have r0 := HXr3.out.cell 0
    have r1 := HXr3.out.cell 1
    have r2 := HXr3.out.cell 2
    have r3 := HXr3.out.cell 3
    have r4 := HXr3.out.cell 4
    have rl := HXr3.out.lt
    have rf := HXr3.out.frozen
    simp at z0 z1 z2 z3 z4 ze r0 r1 r2 r3 r4
    clear hb3 hX3 hXe3 hV3
    go_upto_region 2 with fail
    rw [← HV3.out, ← HPb.out]
    go_wp2
    obtain ⟨V5, hV5⟩ : ∃ V, V = ((((V3.setCell ⟨rb, 0, none⟩ (.int .u8 0)).setCell ⟨rb, 1, none⟩ (.int .i64 0)).setCell ⟨rb, 2, none⟩ (.int .i64 0)).setCell ⟨rb, 3, none⟩ (.int .i64 0)).setCell ⟨rb, 4, none⟩ (.slice none 0 0) := ⟨_, rfl⟩
    have hX5 : Box V5 rb #[.int .u8 0, .int .i64 0, .int .i64 0, .int .i64 0, .slice none 0 0] 100 := by rw [hV5]; exact HXr3.out.set5 _ _ _ _ _
    have hbt5 : But (fun q => q = rb) V3 V5 := by rw [hV5]; exact but5 V3 rb _ _ _ _ _
    have hb5 : Below w.heap.size w V5 := HB3.out.trans (But.below hbt5 HB3.out.size fun q hq e => by have e' : q = rb := e; have := HSr.out; omega)
    have HQ : Hid (UnpQ ln k x.zs w (.returned (.tuple #[letZ, .int .i64 212])) V5) := by
      refine ⟨fun _ => by rw [HE.out], fun l2 _ h2 => ?_, hb5⟩
      rw [HE.out] at h2
      cases h2
    have q0 := hX5.cell 0
    have q1 := hX5.cell 1
    have q2 := hX5.cell 2
    have q3 := hX5.cell 3
    have q4 := hX5.cell 4
    simp at q0 q1 q2 q3 q4
    rw [← hV5]
    clear hV5 hX5 hbt5 hb5
    exact bodyPost_ret (v := .tuple #[letZ, .int .i64 212]) (by simp [results, Tryd.results53, go_sem, q0, q1, q2, q3, q4, letZ]) rfl HQ.out
  | some l =>
    obtain ⟨y, hy1, hy2, rfl⟩ := hs l hr
    have hkd := readS_kd hr
    have HR := hid hr
    have HY1 := hid hy1
    have HY2 := hid hy2
    obtain ⟨yp, yc, yz⟩ := y
    dsimp only [BS.val]
    clear hn hs hb1 hr hpb HRd hy1 hy2
    by_cases hk : l.kd = k
    · by_cases hl : l.ln = ln
      · as_aux_lemma =>
        have HE : Hid (unpE ln k x.zs = 0) := by show unpE ln k x.zs = 0; unfold unpE; rw [HR.out]; simp [hk, hl]
        have hkb : (l.kd != k) = false := by simp [hk]
        have hlb : ((l.ln : Int) != (ln : Int)) = false := by simp [hl]
        have HKd := hid hk
        clear hk hl hkd
        obtain ⟨V3, hV3⟩ : ∃ V, V = w1.alloc (.cells #[.int .u8 l.kd, .int .i64 (l.ln : Int), .int .i64 (l.nu : Int), .int .i64 (l.wd : Int), .slice yp yz.length yc] 100) := ⟨_, rfl⟩
        have hb3 : Below w1.heap.size w1 V3 := by rw [hV3]; exact (Below.refl _ _).alloc (Nat.le_refl _) _
        have hX3 : Box V3 pb #[.int .u8 l.kd, .int .i64 (l.ln : Int), .int .i64 (l.nu : Int), .int .i64 (l.wd : Int), .slice yp yz.length yc] 100 := by rw [hV3, HPb.out]; exact Box.new _ _ _
        have HXr3 := hid (HXr1.out.below hb3)
        have hXe3 := HXe1.out.below hb3
        have HB3 : Hid (Below w.heap.size w V3) := (HB.out.trans (HB1.out.mono HB.out.size)).trans (hb3.mono (Nat.le_trans HB.out.size HB1.out.size))
        have HV3 := hid hV3
        have z0 := hX3.cell 0
        have z1 := hX3.cell 1
        have z2 := hX3.cell 2
        have z3 := hX3.cell 3
        have z4 := hX3.cell 4
        have zl := hX3.lt
        have ze := hXe3.cell 0
        have zel := hXe3.lt
        have r0 := HXr3.out.cell 0
        have r1 := HXr3.out.cell 1
        have r2 := HXr3.out.cell 2
        have r3 := HXr3.out.cell 3
        have r4 := HXr3.out.cell 4
        have rl := HXr3.out.lt
        have rf := HXr3.out.frozen
        simp at z0 z1 z2 z3 z4 ze r0 r1 r2 r3 r4
        have HYV := hid (HY2.out.below hb3)
        clear hb3 hX3 hXe3 hV3
        go_upto_region 2 with fail
        rw [← HV3.out, ← HPb.out]
        go_wp2
        obtain ⟨V5, hV5⟩ : ∃ V, V = ((((V3.setCell ⟨rb, 0, none⟩ (.int .u8 l.kd)).setCell ⟨rb, 1, none⟩ (.int .i64 (l.ln : Int))).setCell ⟨rb, 2, none⟩ (.int .i64 (l.nu : Int))).setCell ⟨rb, 3, none⟩ (.int .i64 (l.wd : Int))).setCell ⟨rb, 4, none⟩ (.slice yp yz.length yc) := ⟨_, rfl⟩
        have hX5 : Box V5 rb #[.int .u8 l.kd, .int .i64 (l.ln : Int), .int .i64 (l.nu : Int), .int .i64 (l.wd : Int), .slice yp yz.length yc] 100 := by rw [hV5]; exact HXr3.out.set5 _ _ _ _ _
        have hbt5 : But (fun q => q = rb) V3 V5 := by rw [hV5]; exact but5 V3 rb _ _ _ _ _
        have hb5 : Below w.heap.size w V5 := HB3.out.trans (But.below hbt5 HB3.out.size fun q hq e => by have e' : q = rb := e; have := HSr.out; omega)
        have HQ : Hid (UnpQ ln k x.zs w (.returned (.tuple #[.agg #[.int .u8 k, .int .i64 (l.ln : Int), .int .i64 (l.nu : Int), .int .i64 (l.wd : Int), .slice yp yz.length yc], .int .i64 0])) V5) := by
          refine ⟨fun h => absurd HE.out h, fun l2 h2 _ => ?_, hb5⟩
          rw [HR.out] at h2
          cases h2
          refine ⟨⟨yp, yc, yz⟩, HY1.out, ?_, rfl⟩
          refine ((HYV.out.mono fun q hq hl => (⟨hq, hl⟩ : V.heap.size ≤ q ∧ q < V3.heap.size)).kept hbt5.size fun q hq hl => hbt5.block q hl fun e => ?_).mono fun q hq _ => Nat.le_trans HB.out.size hq.1
          have e' : q = rb := e
          have h1 := HXr.out.lt
          have h2 := hq.1
          omega
        have q0 := hX5.cell 0
        have q1 := hX5.cell 1
        have q2 := hX5.cell 2
        have q3 := hX5.cell 3
        have q4 := hX5.cell 4
        simp at q0 q1 q2 q3 q4
        rw [← hV5]
        clear hV5 hX5 hbt5 hb5
        exact bodyPost_ret (v := .tuple #[.agg #[.int .u8 k, .int .i64 (l.ln : Int), .int .i64 (l.nu : Int), .int .i64 (l.wd : Int), .slice yp yz.length yc], .int .i64 0]) (by simp [results, Tryd.results53, go_sem, q0, q1, q2, q3, q4, HKd.out]) rfl HQ.out
      · as_aux_lemma =>
        have HE : Hid (unpE ln k x.zs = 213) := by show unpE ln k x.zs = 213; unfold unpE; rw [HR.out]; simp [hk, hl]
        have hkb : (l.kd != k) = false := by simp [hk]
        have hlb : ((l.ln : Int) != (ln : Int)) = true := by rw [bne_iff_ne]; omega
        clear hk hl hkd
        obtain ⟨V3, hV3⟩ : ∃ V, V = w1.alloc (.cells #[.int .u8 l.kd, .int .i64 (l.ln : Int), .int .i64 (l.nu : Int), .int .i64 (l.wd : Int), .slice yp yz.length yc] 100) := ⟨_, rfl⟩
        have hb3 : Below w1.heap.size w1 V3 := by rw [hV3]; exact (Below.refl _ _).alloc (Nat.le_refl _) _
        have hX3 : Box V3 pb #[.int .u8 l.kd, .int .i64 (l.ln : Int), .int .i64 (l.nu : Int), .int .i64 (l.wd : Int), .slice yp yz.length yc] 100 := by rw [hV3, HPb.out]; exact Box.new _ _ _
        have HXr3 := hid (HXr1.out.below hb3)
        have hXe3 := HXe1.out.below hb3
        have HB3 : Hid (Below w.heap.size w V3) := (HB.out.trans (HB1.out.mono HB.out.size)).trans (hb3.mono (Nat.le_trans HB.out.size HB1.out.size))
        have HV3 := hid hV3
        have z0 := hX3.cell 0
        have z1 := hX3.cell 1
        have z2 := hX3.cell 2
        have z3 := hX3.cell 3
        have z4 := hX3.cell 4
        have zl := hX3.lt
        have ze := hXe3.cell 0
        have zel := hXe3.lt
        have r0 := HXr3.out.cell 0
        have r1 := HXr3.out.cell 1
        have r2 := HXr3.out.cell 2
        have r3 := HXr3.out.cell 3
        have r4 := HXr3.out.cell 4
        have rl := HXr3.out.lt
        have rf := HXr3.out.frozen
        simp at z0 z1 z2 z3 z4 ze r0 r1 r2 r3 r4
        clear hb3 hX3 hXe3 hV3
        go_upto_region 2 with fail
        rw [← HV3.out, ← HPb.out]
        go_wp2
        obtain ⟨V5, hV5⟩ : ∃ V, V = ((((V3.setCell ⟨rb, 0, none⟩ (.int .u8 0)).setCell ⟨rb, 1, none⟩ (.int .i64 0)).setCell ⟨rb, 2, none⟩ (.int .i64 0)).setCell ⟨rb, 3, none⟩ (.int .i64 0)).setCell ⟨rb, 4, none⟩ (.slice none 0 0) := ⟨_, rfl⟩
        have hX5 : Box V5 rb #[.int .u8 0, .int .i64 0, .int .i64 0, .int .i64 0, .slice none 0 0] 100 := by rw [hV5]; exact HXr3.out.set5 _ _ _ _ _
        have hbt5 : But (fun q => q = rb) V3 V5 := by rw [hV5]; exact but5 V3 rb _ _ _ _ _
        have hb5 : Below w.heap.size w V5 := HB3.out.trans (But.below hbt5 HB3.out.size fun q hq e => by have e' : q = rb := e; have := HSr.out; omega)
        have HQ : Hid (UnpQ ln k x.zs w (.returned (.tuple #[letZ, .int .i64 213])) V5) := by
          refine ⟨fun _ => by rw [HE.out], fun l2 _ h2 => ?_, hb5⟩
          rw [HE.out] at h2
          cases h2
        have q0 := hX5.cell 0
        have q1 := hX5.cell 1
        have q2 := hX5.cell 2
        have q3 := hX5.cell 3
        have q4 := hX5.cell 4
        simp at q0 q1 q2 q3 q4
        rw [← hV5]
        clear hV5 hX5 hbt5 hb5
        exact bodyPost_ret (v := .tuple #[letZ, .int .i64 213]) (by simp [results, Tryd.results53, go_sem, q0, q1, q2, q3, q4, letZ]) rfl HQ.out
    · as_aux_lemma =>
      have HE : Hid (unpE ln k x.zs = 212) := by show unpE ln k x.zs = 212; unfold unpE; rw [HR.out]; simp [hk]
      have hkb : (l.kd != k) = true := by simp [hk]
      clear hk hkd
      obtain ⟨V3, hV3⟩ : ∃ V, V = w1.alloc (.cells #[.int .u8 l.kd, .int .i64 (l.ln : Int), .int .i64 (l.nu : Int), .int .i64 (l.wd : Int), .slice yp yz.length yc] 100) := ⟨_, rfl⟩
      have hb3 : Below w1.heap.size w1 V3 := by rw [hV3]; exact (Below.refl _ _).alloc (Nat.le_refl _) _
      have hX3 : Box V3 pb #[.int .u8 l.kd, .int .i64 (l.ln : Int), .int .i64 (l.nu : Int), .int .i64 (l.wd : Int), .slice yp yz.length yc] 100 := by rw [hV3, HPb.out]; exact Box.new _ _ _
      have HXr3 := hid (HXr1.out.below hb3)
      have hXe3 := HXe1.out.below hb3
      have HB3 : Hid (Below w.heap.size w V3) := (HB.out.trans (HB1.out.mono HB.out.size)).trans (hb3.mono (Nat.le_trans HB.out.size HB1.out.size))
      have HV3 := hid hV3
      have z0 := hX3.cell 0
      have z1 := hX3.cell 1
      have z2 := hX3.cell 2
      have z3 := hX3.cell 3
      have z4 := hX3.cell 4
      have zl := hX3.lt
      have ze := hXe3.cell 0
      have zel := hXe3.lt
      have r0 := HXr3.out.cell 0
      have r1 := HXr3.out.cell 1
      have r2 := HXr3.out.cell 2
      have r3 := HXr3.out.cell 3
      have r4 := HXr3.out.cell 4
      have rl := HXr3.out.lt
      have rf := HXr3.out.frozen
      simp at z0 z1 z2 z3 z4 ze r0 r1 r2 r3 r4
      clear hb3 hX3 hXe3 hV3
      go_upto_region 2 with fail
      rw [← HV3.out, ← HPb.out]
      go_wp2
      obtain ⟨V5, hV5⟩ : ∃ V, V = ((((V3.setCell ⟨rb, 0, none⟩ (.int .u8 0)).setCell ⟨rb, 1, none⟩ (.int .i64 0)).setCell ⟨rb, 2, none⟩ (.int .i64 0)).setCell ⟨rb, 3, none⟩ (.int .i64 0)).setCell ⟨rb, 4, none⟩ (.slice none 0 0) := ⟨_, rfl⟩
      have hX5 : Box V5 rb #[.int .u8 0, .int .i64 0, .int .i64 0, .int .i64 0, .slice none 0 0] 100 := by rw [hV5]; exact HXr3.out.set5 _ _ _ _ _
      have hbt5 : But (fun q => q = rb) V3 V5 := by rw [hV5]; exact but5 V3 rb _ _ _ _ _
      have hb5 : Below w.heap.size w V5 := HB3.out.trans (But.below hbt5 HB3.out.size fun q hq e => by have e' : q = rb := e; have := HSr.out; omega)
      have HQ : Hid (UnpQ ln k x.zs w (.returned (.tuple #[letZ, .int .i64 212])) V5) := by
        refine ⟨fun _ => by rw [HE.out], fun l2 _ h2 => ?_, hb5⟩
        rw [HE.out] at h2
        cases h2
      have q0 := hX5.cell 0
      have q1 := hX5.cell 1
      have q2 := hX5.cell 2
      have q3 := hX5.cell 3
      have q4 := hX5.cell 4
      simp at q0 q1 q2 q3 q4
      rw [← hV5]
      clear hV5 hX5 hbt5 hb5
      exact bodyPost_ret (v := .tuple #[letZ, .int .i64 212]) (by simp [results, Tryd.results53, go_sem, q0, q1, q2, q3, q4, letZ]) rfl HQ.out
end Go.Proofs.YtgnamngnmbaeeaaDoor
