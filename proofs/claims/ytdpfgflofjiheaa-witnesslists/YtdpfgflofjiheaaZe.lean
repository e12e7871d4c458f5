import Derived.Test.YtdpfgflofjiheaaPack35
import Derived.Test.YtdpfgflofjiheaaPack31
import Derived.Test.YtdpfgflofjiheaaPack15
import Derived.Test.YtdpfgflofjiheaaPack33
namespace Go.Proofs.Ytdpfgflofjiheaa
open Go.RowKit
set_option maxRecDepth 8000
theorem kindEvs : ∃ i, Kind 73 31 i (.slice none 0 0) 1 24 := by
  obtain ⟨i0, hi, hz0, hz1, hz2⟩ := info_parts (show (Try.prog.info? 31).map (fun i => (i.zero, i.size, i.bytes)) = some (some (.slice none 0 0), 1, 24) by kernel_rfl)
  exact ⟨i0, Try.underlying73, hi, hz0, hz1, hz2, rfl, by decide⟩
def lenV : Value → Nat
  | .slice _ n _ => n
  | _ => 0
theorem Pcs.one {w : World} {base : Nat} {v : Value} {xs : List EV} (h : EvRow base w v xs) (hb : base ≤ w.heap.size) : Pcs (w.alloc (.cells #[v] 31)) base (.slice (some ⟨w.heap.size, 0, none⟩) 1 1) [(v, xs)] := by
  refine ⟨⟨rfl, .inr ⟨w.heap.size, 1, #[v], rfl, hb, World.alloc_heap_new w _, Nat.le_refl _, by unfold maxLen; omega, rfl, rfl⟩⟩, fun p hp => ?_⟩
  rw [List.mem_singleton] at hp
  subst hp
  refine ⟨h.below (below1 _ _), fun x hx e => ?_⟩
  have h1 := (World.ownsRow.lt h x hx).2
  have : w.heap.size = x := by simpa [Value.ownBlock] using e
  omega
theorem Pcs.push {w w' : World} {base : Nat} {x x' v : Value} {PS : List (Value × List EV)} {xs : List EV} (h : Pcs w base x PS) (hv : EvRow base w v xs) (hvx : ∀ g, v.ownBlock = some g → x.ownBlock ≠ some g)
    (ho : w'.ownsRow base 31 1 x' (PS.length + 1) ((PS.map fun p => p.1) ++ [v])) (hg : w.grownBy w' x.ownBlock) (hn : Near w x x') : Pcs w' base x' (PS ++ [(v, xs)]) := by
  have hbut : But (fun k => x.ownBlock = some k) w w' := (But.refl _ w).grown hg (fun k hk _ => hk)
  have key : ∀ p : Value × List EV, EvRow base w p.1 p.2 → (∀ g, p.1.ownBlock = some g → x.ownBlock ≠ some g) → EvRow base w' p.1 p.2 ∧ ∀ g, p.1.ownBlock = some g → x'.ownBlock ≠ some g := fun p h1 h2 =>
    ⟨ownsRow_keep h1 fun g hg hl => hbut.block g hl (h2 g hg), fun g hg e => by
      rcases hn with hn | hn
      · exact h2 g hg (hn ▸ e)
      · have := (World.ownsRow.lt h1 g hg).2
        have := hn g e
        omega⟩
  refine ⟨by rw [List.length_append, List.map_append]; exact ho, fun p hp => ?_⟩
  rcases List.mem_append.1 hp with hp | hp
  · exact key p (h.each p hp).1 (h.each p hp).2
  · rw [List.mem_singleton] at hp
    subst hp
    exact key (v, xs) hv hvx
/-- the walk back while it goes on -/
structure LI (f : Nat → TR) (T g gr ga B : Nat) (S0 : Nat → Prop) (w wr : World) (x : Value) (fr : Nat) (PS : List (Value × List EV)) : Prop where
  at_ : ∃ pa ca pe ne ce, Box wr ga #[.int .i64 (beganOf f fr), .slice pa (fr - 1) ca, .slice pe ne ce] 59 ∧ LT.In elTr wr S0 ⟨pa, fr - 1, ca, f⟩
  rd : Box wr gr #[.slice (some ⟨g, 0, none⟩) T T] 70
  raw : Raw wr g T
  pcs : Pcs wr B x PS
  bel : Below w.heap.size w wr
theorem newsS (w : World) (v : Value) : ∀ j u, [v][j]? = some u → (w.alloc (.cells #[v] 31)).cell? ((⟨w.heap.size, 0, none⟩ : Addr).add j) = some u := fun j u hu => by
  rw [Go.WideShapes.add_plain, (Box.new w #[v] 31).cell]
  rw [show 0 + j = j by omega]
  simpa using hu
theorem oneS (p : Option Addr) (n c : Nat) : ∀ u ∈ [Value.slice p n c], u.oneCell' = true := by
  intro u hu
  rw [List.mem_singleton] at hu
  subst hu
  rfl
theorem Pcs.rev {w w' : World} {base : Nat} {x : Value} {PS : List (Value × List EV)} (h : Pcs w base x PS) (hr : w'.ownsRow base 31 1 x PS.length (PS.map fun p => p.1).reverse) (hb : But (fun k => x.ownBlock = some k) w w') : Pcs w' base x PS.reverse :=
  ⟨by rw [List.length_reverse, List.map_reverse]; exact hr, fun p hp => by
    obtain ⟨h1, h2⟩ := h.each p (List.mem_reverse.1 hp)
    exact ⟨ownsRow_keep h1 fun g hg hl => hb.block g hl (h2 g hg), h2⟩⟩
set_option maxHeartbeats 16000000 in
theorem line_any (l : LT TR) (n : Int) (w : World) (S : Nat → Prop) (hl : LT.In elTr w S l) (h47 : l.n * 32 ≤ 140737488355328) :
    Calls Try.prog 17 #[.slice l.p l.n l.c, .int .i64 n] w fun e w' => LineQ l n w e w' := by
  have hnn := hl.nn
  have hl0 : LT.In elTr w (fun b => S b ∧ b < w.heap.size) l := hl.mono fun b hb hlt => (⟨hb, hlt⟩ : S b ∧ b < w.heap.size)
  have HCB := hid (canBe_any l n w _ hl0)
  have HL0 := hid hl0
  have H47 := hid h47
  obtain ⟨i0, Kd⟩ := kindEvs
  have HKd := hid Kd
  clear hl hl0 h47 Kd
  go_enter Try.func17, Try.ntmps17
  go_wp2_with fail
  refine HCB.out.mono ?_
  rintro e W1 ⟨r, rfl, hr, hb1⟩
  have HB1 := hid hb1
  clear HCB hb1
  cases r with
  | false =>
    have HC : Hid (¬ CanL n l) := fun h => by have := hr.2 h; cases this
    clear hr
    go_wp2
    exact bodyPost_ret (v := .tuple #[.slice none 0 0, .int .i64 181]) (by simp [results, Try.results17, go_sem]) rfl ⟨_, 181, [], .inl ⟨HC.out, rfl, rfl⟩, rfl, EvRow.nil _ _, HB1.out⟩
  | true =>
    have HC : Hid (CanL n l) := hr.1 rfl
    clear hr
    obtain ⟨T, hT⟩ : ∃ T : Nat, n = (T : Int) := ⟨n.toNat, by have := HC.out.1; omega⟩
    have HT := hid hT
    have hT1 : 1 ≤ T := by have := HC.out.1; omega
    have hT12 : T ≤ 12 := by have := HC.out.2.1; omega
    rw [hT]
    have HCan : Hid (∀ q, q < l.n → Can (T : Int) (l.item q)) := by have := HC.out.2.2; rw [hT] at this; exact this
    clear hT
    have HTn : Hid (n.toNat = T) := by show _ = _; have := HT.out; omega
    have HNR := hid (newReader_any T W1 hT12)
    go_wp2_with fail
    refine HNR.out.mono ?_
    rintro e W2 ⟨g, rfl, hg, hraw, hb2⟩
    clear HNR
    obtain ⟨W3, hW3⟩ : ∃ X, X = W2.alloc (.cells #[.slice (some ⟨g, 0, none⟩) T T] 70) := ⟨_, rfl⟩
    have hb23 : Below W2.heap.size W2 W3 := by rw [hW3]; exact below1 _ _
    have hs3 : W3.heap.size = W2.heap.size + 1 := by rw [hW3]; simp
    have bR3 : Box W3 W2.heap.size #[.slice (some ⟨g, 0, none⟩) T T] 70 := by rw [hW3]; exact Box.new _ _ _
    have hb01 := HB1.out
    have hb02 : Below w.heap.size w W2 := hb01.trans (hb2.mono hb01.size)
    have hb03 : Below w.heap.size w W3 := hb02.trans (hb23.mono hb02.size)
    have HLL := hid (lastLife_any l W3 _ (HL0.out.below hb03))
    have hgl := hraw.lt
    have hgw : w.heap.size ≤ g := Nat.le_trans hb01.size hg
    have hrw : w.heap.size ≤ W2.heap.size := hb02.size
    have HRaw3 := hid (hraw.below hb23)
    have HBR3 := hid bR3
    have HB03 := hid hb03
    have HW3 := hid hW3
    have HS3 := hid hs3
    clear hb23 hs3 bR3 hb01 hb02 hb03 hraw hb2 hW3 hg
    go_upto_region 4 with fail
    rw [← HW3.out]
    go_wp2_with fail
    refine HLL.out.mono ?_
    rintro e W4 ⟨a, pa, pe, ca, ce, hcut, rfl, hina, hine, hb4⟩
    clear HLL
    have hal : a ≤ l.n := hcut.1
    obtain ⟨bg, hbg⟩ : ∃ bg, bg = beganOf l.item a := ⟨_, rfl⟩
    rw [← hbg]
    obtain ⟨W5, hW5⟩ : ∃ X, X = W4.alloc (.cells #[.int .i64 bg, .slice pa (a - 1) ca, .slice pe (l.n - a) ce] 59) := ⟨_, rfl⟩
    have hb45 : Below W4.heap.size W4 W5 := by rw [hW5]; exact below1 _ _
    have hs5 : W5.heap.size = W4.heap.size + 1 := by rw [hW5]; simp
    have bA5 : Box W5 W4.heap.size #[.int .i64 bg, .slice pa (a - 1) ca, .slice pe (l.n - a) ce] 59 := by rw [hW5]; exact Box.new _ _ _
    have hs4 := hb4.size
    have hb35 : Below W3.heap.size W3 W5 := hb4.trans (hb45.mono hs4)
    have hb05 : Below w.heap.size w W5 := HB03.out.trans (hb35.mono HB03.out.size)
    have HSt := hid (steps_any ⟨pe, l.n - a, ce, fun j => l.item (a + j)⟩ W5 _ (hine.below hb45) (by have := H47.out; dsimp only; omega))
    dsimp only at HSt
    rw [evsF_shift] at HSt
    have x2 := bA5.cell 2
    have xl := bA5.lt
    simp at x2
    have HIna5 := hid (hina.below hb45)
    have HRaw5 := hid (HRaw3.out.below hb35)
    have HBR5 := hid (HBR3.out.below hb35)
    have HBA5 := hid bA5
    have HB05 := hid hb05
    have HW5 := hid hW5
    have HS5 := hid hs5
    have HCut := hid hcut
    have HBg := hid hbg
    have HS4 := hid hs4
    clear hb45 hb35 hb05 hs5 hs4 bA5 hina hine hb4 hW5 hcut hbg HRaw3 HBR3
    go_upto_region 5 with fail
    rw [← HW5.out]
    go_wp2_with fail
    refine HSt.out.mono ?_
    rintro e W6 ⟨v1, rfl, hr1, hb6⟩
    obtain ⟨p1, c1, hv1⟩ := ownsRow_slice hr1
    subst hv1
    obtain ⟨E0, hE0⟩ : ∃ E, E = evsF l.item (fun _ => true) a (l.n - a) := ⟨_, rfl⟩
    rw [← hE0] at hr1 ⊢
    have HE0 := hid hE0
    have HR1 := hid hr1
    have HB6 := hid hb6
    clear hr1 hb6 hE0 HSt x2 xl
    go_wp2_with fail
    go_loopw [8] (fun x wr => ∃ (fr : Nat) (PS : List (Value × List EV)), LI l.item T g W2.heap.size W4.heap.size W5.heap.size (fun b => S b ∧ b < w.heap.size) w wr x fr PS ∧ fr ≤ l.n ∧ (PS.reverse.flatMap fun p => p.2).length + fr ≤ l.n ∧ PS.length + fr ≤ l.n + 1 ∧ ∀ e r, Back l.item T fr (PS.reverse.flatMap fun p => p.2) e r → Back l.item T a E0 e r) (fun x _ => l.n + 2 - lenV x)
    case atStart =>
      refine ⟨a, [(.slice p1 E0.length c1, E0)], ⟨⟨pa, ca, pe, l.n - a, ce, ?_, ?_⟩, ?_, ?_, Pcs.one HR1.out HB6.out.size, ?_⟩, hal, ?_, ?_, ?_⟩
      · rw [← HBg.out]; exact (HBA5.out.below HB6.out).below (below1 _ _)
      · exact (HIna5.out.below HB6.out).below (below1 _ _)
      · exact (HBR5.out.below HB6.out).below (below1 _ _)
      · exact (HRaw5.out.below HB6.out).below (below1 _ _)
      · exact (HB05.out.trans (HB6.out.mono HB05.out.size)).trans ((below1 _ _).mono (Nat.le_trans HB05.out.size HB6.out.size))
      · have := evsF_len l.item (fun _ => true) a (l.n - a)
        rw [← HE0.out] at this
        simp
        omega
      · simp; omega
      · intro e r h
        simpa using h
    case round =>
      obtain ⟨fr, PS, hLI, hfr, hac, hpl, hto⟩ := hrel
      obtain ⟨px, cx, hvx⟩ := ownsRow_slice hLI.pcs.row
      subst hvx
      have HLI := hid hLI
      have HTo := hid hto
      clear hLI hto
      obtain ⟨N, hN⟩ : ∃ N, N = PS.length := ⟨_, rfl⟩
      rw [← hN] at HLI hpl ⊢
      have HN := hid hN
      clear hN
      obtain ⟨pa', ca', pe', ne', ce', bA, hin⟩ := HLI.out.at_
      obtain ⟨b', hb'⟩ : ∃ b', b' = beganOf l.item fr := ⟨_, rfl⟩
      rw [← hb'] at bA
      have x0 := bA.cell 0
      have x1 := bA.cell 1
      have xl := bA.lt
      have y0 := HLI.out.rd.cell 0
      have yl := HLI.out.rd.lt
      simp at x0 x1 y0
      have HBA := hid bA
      have HIn := hid hin
      have HBb := hid hb'
      clear bA hin hb'
      by_cases hp : 0 < b'
      · have hfr1 : 1 ≤ fr := by
          rcases Nat.eq_zero_or_pos fr with h | h
          · have := HBb.out; rw [h] at this; simp [beganOf] at this; omega
          · exact h
        have HRd := hid (read_any ⟨pa', fr - 1, ca', l.item⟩ b' g T T wr _ HIn.out (by have := H47.out; dsimp only; omega) hT12 hT1 HLI.out.raw (fun b hb _ => by have := hb.2; omega) (fun q hq => HCan.out q (by dsimp only at hq; omega)))
        dsimp only at HRd
        have HP0 := hid hp
        go_wp2_with fail
        refine HRd.out.mono ?_
        rintro e w2 ⟨hbut, hraw2, hq⟩
        dsimp only at hq
        clear HRd x0 x1 y0 xl yl
        have HBw2 : Hid (Below w.heap.size w w2) := HLI.out.bel.trans (hbut.below HLI.out.bel.size fun q hq => by omega)
        rcases hq with ⟨hno, rfl⟩ | ⟨a', b1, hlf, hnc, rfl⟩ | ⟨a', b1, m, pa2, pe2, ca2, ce2, v1, v2, h1, h2, rfl, h4, h5, h6, h7, h8⟩
        · have HBk := hid (HTo.out _ _ (Back.none (by rw [← HBb.out]; exact HP0.out) (by rw [← HBb.out]; exact hno)))
          clear hno hbut hraw2
          go_wp2
          exact bodyPost_ret (v := .tuple #[.slice none 0 0, .int .i64 180]) (by simp [results, Try.results17, go_sem]) rfl ⟨_, 180, [], .inr ⟨HC.out, a, HCut.out, by rw [HTn.out, ← HE0.out]; exact HBk.out⟩, rfl, EvRow.nil _ _, HBw2.out.trans ((below1 _ _).mono HBw2.out.size)⟩
        · have HBk := hid (HTo.out _ _ (Back.bad (by rw [← HBb.out]; exact HP0.out) (by rw [← HBb.out]; exact hlf) (by rw [← HBb.out]; exact hnc)))
          clear hlf hnc hbut hraw2
          go_wp2
          exact bodyPost_ret (v := .tuple #[.slice none 0 0, .int .i64 181]) (by simp [results, Try.results17, go_sem]) rfl ⟨_, 181, [], .inr ⟨HC.out, a, HCut.out, by rw [HTn.out, ← HE0.out]; exact HBk.out⟩, rfl, EvRow.nil _ _, HBw2.out.trans ((below1 _ _).mono HBw2.out.size)⟩
        · obtain ⟨p1, c1, hv1⟩ := ownsRow_slice h6
          obtain ⟨p2, c2, hv2⟩ := ownsRow_slice h7
          subst hv1
          subst hv2
          obtain ⟨E, hE⟩ : ∃ E, E = evsF l.item (befP l.item m true) a' (b1 - a') := ⟨_, rfl⟩
          obtain ⟨n2, hn2⟩ : ∃ n2, n2 = (evsF l.item (befP l.item m false) a' (b1 - a')).length := ⟨_, rfl⟩
          have hEl : E.length ≤ b1 - a' := by rw [hE]; exact evsF_len _ _ _ _
          rw [← hE] at h6 ⊢
          rw [← hn2]
          obtain ⟨n1, hn1⟩ : ∃ n1, n1 = E.length := ⟨_, rfl⟩
          rw [← hn1] at h6 hEl ⊢
          obtain ⟨bg2, hbg2⟩ : ∃ bg2, bg2 = beganOf l.item a' := ⟨_, rfl⟩
          rw [← hbg2]
          have hbn := h1.bn
          have hab := h1.ab
          have hs5 := HS5.out
          have hs4 := HS4.out
          have hs3 := HS3.out
          have hga := HBA.out.lt
          have hxo : ∀ k, (Value.slice px N cx).ownBlock = some k → W5.heap.size ≤ k ∧ k < wr.heap.size := fun k hk => HLI.out.pcs.row.lt k hk
          have hpcs2 : Pcs w2 W5.heap.size (.slice px N cx) PS := HLI.out.pcs.but hbut fun k hk e => by omega
          have hrd2 := HLI.out.rd.but hbut (by omega)
          have hat2 := HBA.out.but hbut (by omega)
          have hsw2 := hbut.size
          obtain ⟨V, hV⟩ : ∃ X, X = w2.alloc (.cells #[.int .i64 bg2, .slice pa2 (a' - 1) ca2, .slice pe2 (b1 - a') ce2, .slice p1 n1 c1, .slice p2 n2 c2] 61) := ⟨_, rfl⟩
          have hbV : Below w2.heap.size w2 V := by rw [hV]; exact below1 _ _
          have bC : Box V w2.heap.size #[.int .i64 bg2, .slice pa2 (a' - 1) ca2, .slice pe2 (b1 - a') ce2, .slice p1 n1 c1, .slice p2 n2 c2] 61 := by rw [hV]; exact Box.new _ _ _
          have hbV2 : Below w2.heap.size w2 (V.alloc (.cells #[.slice p1 n1 c1] 31)) := hbV.trans ((below1 V _).mono hbV.size)
          have z3 := bC.cell 3
          have zl := bC.lt
          simp at z3
          have HPV := hid (hpcs2.below hbV)
          have HPV2 := hid (hpcs2.below hbV2)
          have HEV2 := hid ((h6.below hbV2).mono (show W5.heap.size ≤ wr.heap.size by omega))
          have HEs := hid (show ∀ k, (Value.slice p1 n1 c1).ownBlock = some k → (Value.slice px N cx).ownBlock ≠ some k from fun k hk e => by
            have := (hxo k e).2
            have := (World.ownsRow.lt h6 k hk).1
            omega)
          have HC2 := hid (bC.below (below1 V (.cells #[.slice p1 n1 c1] 31)))
          have HAt2 := hid (hat2.below hbV2)
          have HRd2 := hid (hrd2.below hbV2)
          have HRaw2 := hid (hraw2.below hbV2)
          have HIn2 := hid (h4.below hbV2)
          have HXo := hid hxo
          have HBV2 : Hid (Below w.heap.size w (V.alloc (.cells #[.slice p1 n1 c1] 31))) := HBw2.out.trans (hbV2.mono HBw2.out.size)
          have HV := hid hV
          have hVs : W5.heap.size ≤ V.heap.size := by have := hbV.size; omega
          have HSw2 := hid hsw2
          have HOne := hid h2
          have HLf := hid h1
          have HE := hid hE
          have HBg2 := hid hbg2
          have HN1 := hid hn1
          have hNl : N ≤ l.n := by omega
          have h47' := H47.out
          clear h1 h2 h4 h5 h6 h7 h8 hE hn2 hn1 hbg2 hs5 hs4 hs3 hga hxo hpcs2 hrd2 hat2 hsw2 hV hbV bC hbV2 hraw2 hbut
          go_upto_region 8 with fail
          rw [← HV.out]
          go_wp2_with (at_builtin; refine wpList_app rfl (.tmp 38) (.tmp 41) 73 31 i0 _ 1 24 HKd.out rfl W5.heap.size (.slice px N cx) N _ rfl (World.ownsRow.alloc (by have := HPV.out.row; rw [← HN.out] at this; exact this) _) ⟨V.heap.size, 0, none⟩ 1 1 [.slice p1 n1 c1] rfl rfl (newsS V _) (oneS _ _ _) (by omega) (by omega) (by simp; omega) ?_)
          intro v5 w5 ho5 hg5 hn5
          have hbut5 : But (fun k => (Value.slice px N cx).ownBlock = some k) (V.alloc (.cells #[.slice p1 n1 c1] 31)) w5 := (But.refl _ _).grown hg5 (fun k hk _ => hk)
          have hp5 : Pcs w5 W5.heap.size v5 (PS ++ [(.slice p1 n1 c1, E)]) := HPV2.out.push HEV2.out HEs.out (by rw [← HN.out]; exact ho5) hg5 hn5
          have hs5 := HS5.out
          have hs4 := HS4.out
          have hs3 := HS3.out
          have hsw2 := HSw2.out
          have hC5 := HC2.out.but hbut5 (fun e => by have := (HXo.out _ e).2; omega)
          have hA5 := HAt2.out.but hbut5 (fun e => by have := (HXo.out _ e).1; omega)
          have hR5 := HRd2.out.but hbut5 (fun e => by have := (HXo.out _ e).1; omega)
          have hW5 := HRaw2.out.but hbut5 (fun e => by have := (HXo.out _ e).1; omega)
          have hI5 := HIn2.out.but hbut5 (fun q hq _ e => by have := (HXo.out _ e).1; have := hq.2; omega)
          have hB5 : Below w.heap.size w w5 := HBV2.out.trans (hbut5.below HBV2.out.size fun q hq e => by have := (HXo.out _ e).1; omega)
          obtain ⟨p5, c5, hv5⟩ := ownsRow_slice ho5
          subst hv5
          have z0 := hC5.cell 0
          have z1 := hC5.cell 1
          have z2 := hC5.cell 2
          have zl5 := hC5.lt
          simp at z0 z1 z2
          have q0 := hA5.cell 0
          have q1 := hA5.cell 1
          have q2 := hA5.cell 2
          have ql := hA5.lt
          have f0 := hA5.frozen 0
          have f1 := hA5.frozen 1
          have f2 := hA5.frozen 2
          simp at q0 q1 q2
          have hset := set3 (u := .int .i64 bg2) (v := .slice pa2 (a' - 1) ca2) (t := .slice pe2 (b1 - a') ce2) hA5
          have hbut9 : But (fun x => x = W4.heap.size) w5 (((w5.setCell ⟨W4.heap.size, 0, none⟩ (.int .i64 bg2)).setCell ⟨W4.heap.size, 1, none⟩ (.slice pa2 (a' - 1) ca2)).setCell ⟨W4.heap.size, 2, none⟩ (.slice pe2 (b1 - a') ce2)) := (((But.one w5 _).setAt 0 _).setAt 1 _).setAt 2 _
          have HSet := hid hset
          have HI9 := hid (hI5.but hbut9 (fun q hq _ e => by have := hq.2; omega))
          have HR9 := hid (hR5.but hbut9 (by omega))
          have HW9 := hid (hW5.but hbut9 (by omega))
          have HP9 := hid (hp5.but hbut9 (fun k hk e => by omega))
          have HB9 := hid (hB5.trans (hbut9.below hB5.size fun q hq e => by omega))
          clear hbut5 hp5 hs5 hs4 hs3 hsw2 hC5 hA5 hR5 hW5 hI5 hB5 hset hbut9 ho5 hg5 hn5
          go_wp2
          go_roundw
          case rel =>
            have hfl : ((PS ++ [(Value.slice p1 n1 c1, E)]).reverse.flatMap fun p => p.2) = E ++ PS.reverse.flatMap fun p => p.2 := by simp
            refine ⟨a', PS ++ [(.slice p1 n1 c1, E)], ⟨⟨pa2, ca2, pe2, b1 - a', ce2, ?_, HI9.out⟩, HR9.out, HW9.out, HP9.out, HB9.out⟩, by omega, ?_, ?_, ?_⟩
            · rw [← HBg2.out]; exact HSet.out
            · rw [hfl, List.length_append, ← HN1.out]; omega
            · rw [List.length_append, ← HN.out]; simp; omega
            · intro e r h
              rw [hfl, HE.out] at h
              exact HTo.out e r (Back.go (a := a') (b := b1) (m := m) (by rw [← HBb.out]; exact HP0.out) (by rw [← HBb.out]; exact HLf.out) (by rw [← HBb.out]; exact HOne.out) h)
          case measure => simp [lenV]; omega
      · have HBk := hid (HTo.out _ _ (Back.stop (by rw [← HBb.out]; exact hp)))
        have hrow := HLI.out.pcs.row
        have HRv := hid (reverse_any wr W5.heap.size px N cx (PS.map fun p => p.1) (by rw [List.length_map]; exact hrow) (fun u hu => by
          obtain ⟨p, hp1, rfl⟩ := List.mem_map.1 hu
          obtain ⟨pk, ck, hv⟩ := ownsRow_slice (HLI.out.pcs.each p hp1).1
          exact ⟨pk, _, ck, hv⟩) (by rw [List.length_map, ← HN.out]; have := H47.out; omega))
        clear hrow
        go_wp2_with fail
        refine HRv.out.mono ?_
        rintro e w2 ⟨rfl, hrow2, hbut2⟩
        rw [List.length_map] at hrow2
        have hp2 := HLI.out.pcs.rev hrow2 hbut2
        have hB2 : Below w.heap.size w w2 := HLI.out.bel.trans (hbut2.below HLI.out.bel.size fun q hq e => by have := (HLI.out.pcs.row.lt _ e).1; have := HB05.out.size; omega)
        have HCc := hid (concat_any w2 W5.heap.size px N cx PS.reverse hp2 (by rw [List.length_reverse, ← HN.out]; have := H47.out; omega) (by have := H47.out; omega))
        have HB2 := hid hB2
        clear hrow2 hbut2 hp2 hB2 HRv x0 x1 y0 xl yl
        go_wp2_with fail
        refine HCc.out.mono ?_
        rintro e w3 ⟨v, rfl, hr3, hb3⟩
        have HR3 := hid hr3
        have HB3 := hid hb3
        clear hr3 hb3 HCc
        go_wp2
        exact bodyPost_ret (v := .tuple #[v, .int .i64 0]) (by simp [results, Try.results17, go_sem]) rfl ⟨v, 0, _, .inr ⟨HC.out, a, HCut.out, by rw [HTn.out, ← HE0.out]; exact HBk.out⟩, rfl, HR3.out.mono HB2.out.size, HB2.out.trans (HB3.out.mono HB2.out.size)⟩
end Go.Proofs.Ytdpfgflofjiheaa
