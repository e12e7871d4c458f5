import Derived.Test.YtdpfgflofjiheaaPack31
import Derived.Test.YtdpfgflofjiheaaPack10
namespace Go.Proofs.Ytdpfgflofjiheaa
open Go.RowKit
set_option maxRecDepth 8000
theorem newsI (w : World) (y : Int) : ∀ j' u', [Value.int .i64 y][j']? = some u' → (w.alloc (.cells #[.int .i64 y] 3)).cell? ((⟨w.heap.size, 0, none⟩ : Addr).add j') = some u' := fun j' u' hu => by
  rw [Go.WideShapes.add_plain, (Box.new w #[.int .i64 y] 3).cell]
  rw [show 0 + j' = j' by omega]
  simpa using hu
theorem evL_len_mono (f : Nat → TR) (P : Nat → Bool) (a : Nat) {d d' : Nat} (h : d ≤ d') : (evL f P a d).length ≤ (evL f P a d').length := by
  induction h with
  | refl => exact Nat.le_refl _
  | step _ ih =>
    rw [evL]
    split
    · rw [List.length_append]; omega
    · omega
theorem pl_snoc_bef (L : List (EV × Bool)) (e : EV) : pl (L ++ [(e, true)]) 0 0 = pl L 0 0 ++ down L.length (befs L).length := by
  rw [pl_app]; simp [pl]
theorem pl_snoc_aft (L : List (EV × Bool)) (e : EV) : pl (L ++ [(e, false)]) 0 0 = pl L 0 0 := by
  rw [pl_app]; simp [pl]
set_option maxHeartbeats 16000000 in
theorem rpath_any (l : LT TR) (i n : Int) (w : World) (S : Nat → Prop) (hl : LT.In elTr w S l) :
    Calls Try.prog 9 #[.slice l.p l.n l.c, .int .i64 i, .int .i64 n] w fun e w' => PathQ l n i w e w' := by
  have hnn := hl.nn
  have H := hid hl
  have HCan := hid (rcan_any l n w S hl)
  obtain ⟨i0, Kd⟩ := kindIn
  have HKd := hid Kd
  clear hl Kd
  go_enter Try.func9, Try.ntmps9
  go_wp2_with fail
  refine HCan.out.mono ?_
  rintro e w1 ⟨r, rfl, hr, hb1⟩
  have HB1 := hid hb1
  have H1 := hid (H.out.below hb1)
  clear hb1 HCan
  cases r with
  | false =>
    have HC : Hid (¬ CanL n l) := fun h => by have := hr.2 h; cases this
    clear hr
    go_wp2
    exact bodyPost_ret (v := .tuple #[.slice none 0 0, .int .i64 181]) (by simp [results, Try.results9, go_sem]) rfl ⟨_, 181, [], .inl ⟨by omega, .inl ⟨HC.out, rfl, rfl, rfl⟩, rfl⟩, rfl, InRow.nil _ _, HB1.out⟩
  | true =>
    have HC : Hid (CanL n l) := hr.1 rfl
    clear hr
    obtain ⟨T, hT⟩ : ∃ T : Nat, n = (T : Int) := ⟨n.toNat, by have := HC.out.1; omega⟩
    have HT := hid hT
    have hT1 : 1 ≤ T := by have := HC.out.1; omega
    have hT12 : T ≤ 12 := by have := HC.out.2.1; omega
    have HT0 : Hid (n.toNat = T) := by show n.toNat = T; omega
    rw [hT]
    have HCan : Hid (∀ q, q < l.n → Can (T : Int) (l.item q)) := by have := HC.out.2.2; rw [hT] at this; exact this
    clear hT
    have HL := hid (rlifeOf_any l l.n i w1 S H1.out (Nat.le_refl _))
    go_wp2_with fail
    refine HL.out.mono ?_
    rintro e w2 ⟨hq, rfl⟩
    clear HL
    rcases hq with ⟨hno, rfl⟩ | ⟨a, b, hlf, rfl⟩
    · have HNo := hid hno
      clear hno
      go_wp2
      exact bodyPost_ret (v := .tuple #[.slice none 0 0, .int .i64 180]) (by simp [results, Try.results9, go_sem]) rfl ⟨_, 180, [], .inl ⟨by omega, .inr (.inl ⟨HC.out, HNo.out, rfl, rfl, rfl⟩), rfl⟩, rfl, InRow.nil _ _, HB1.out⟩
    · have hab := hlf.ab
      have hbn := hlf.bn
      have ha0 : ¬ (a : Int) < 0 := by omega
      have HLf := hid hlf
      have HCp := hid (copies_any l a b i T w2 S H1.out hab (by omega) hT12)
      clear hlf
      go_wp2_with fail
      refine HCp.out.mono ?_
      rintro e w3 ⟨hb3, hq⟩
      have HB3 : Hid (Below w.heap.size w w3) := HB1.out.trans (hb3.mono HB1.out.size)
      have H3 := hid (H1.out.below hb3)
      clear hb3 HCp
      rcases hq with ⟨m, v, rfl, hrow, hone⟩ | ⟨hno, rfl⟩
      · have HOne := hid hone
        obtain ⟨g, c, rfl, hg1, hg2, _, hgc⟩ := hrow.at_ (by simp; omega)
        have hlen : ((List.range T).map fun k => (m k : Int)).length = T := by simp
        rw [hlen]
        have HCell : Hid (∀ t, t < T → w3.cell? ⟨g, t, none⟩ = some (.int .i64 (m t : Int))) := fun t ht => (hgc t _ (by simp [ht])).1
        clear hone hrow hgc hlen
        go_wp2_with fail
        go_loopw [13, 15] (fun x y wr => ∃ k : Nat, a ≤ k ∧ k ≤ b ∧ y = .int .i64 (k : Int) ∧ x = .int .i64 ((evsF l.item (fun _ => true) a (k - a)).length : Int) ∧ wr = w3) (fun _ y _ => b - (intOf y).toNat)
        case atStart => exact ⟨a, Nat.le_refl _, hab, rfl, by rw [Nat.sub_self]; rfl, rfl⟩
        case round =>
          obtain ⟨k, hak, hkb, rfl, rfl, rfl⟩ := hrel
          have hka : a + (k - a) = k := by omega
          have hks : k + 1 - a = (k - a) + 1 := by omega
          have hcl : (evsF l.item (fun _ => true) a (k - a)).length ≤ k - a := evsF_len _ _ _ _
          by_cases hlt : k < b
          · have hlt' : (k : Int) < (b : Int) := by omega
            have hltn : k < l.n := by omega
            have hltn' : (k : Int) < (l.n : Int) := by omega
            obtain ⟨b1, o1, hp, _, hl1, ha⟩ := H3.out.tr (by omega)
            obtain ⟨a0, a1, a2, a3⟩ := ha k hltn
            rw [hp]
            clear ha hp
            obtain ⟨cn, hcn⟩ : ∃ cn, cn = (evsF l.item (fun _ => true) a (k - a)).length := ⟨_, rfl⟩
            rw [← hcn] at hcl ⊢
            by_cases h1 : (l.item k).kind = 1
            · have HE : Hid ((evsF l.item (fun _ => true) a (k + 1 - a)).length = cn + 1) := by
                show _ = _
                rw [hks, evsF_yes (by rw [hka]; exact h1) rfl, List.length_append, ← hcn]; rfl
              rw [h1] at a0
              clear h1 hcn hka hks
              go_wp2
              go_roundw
              case rel => exact ⟨k + 1, by omega, by omega, by go_num, by rw [HE.out]; go_num, by first | rfl | trivial⟩
              case measure => simp [intOf]; omega
            · have HE : Hid ((evsF l.item (fun _ => true) a (k + 1 - a)).length = cn) := by
                show _ = _
                rw [hks, evsF_no (by rw [hka]; exact fun h => h1 h.1), ← hcn]
              clear hcn hka hks
              go_wp2
              go_roundw
              case rel => exact ⟨k + 1, by omega, by omega, by go_num, by rw [HE.out], by first | rfl | trivial⟩
              case measure => simp [intOf]; omega
          · obtain rfl : k = b := by omega
            obtain ⟨nr, hnr⟩ : ∃ nr, nr = (evsF l.item (fun _ => true) a (k - a)).length := ⟨_, rfl⟩
            rw [← hnr] at hcl ⊢
            have HNr := hid hnr
            clear hnr hka hks
            by_cases h2000 : 2000 < nr
            · have h2000' : (2000 : Int) < (nr : Int) := by omega
              have HS : Hid (PathS l n i 182 []) := .inr ⟨HC.out, a, k, m, HLf.out, by rw [HT0.out]; exact HOne.out, .inl ⟨by rw [← HNr.out]; exact h2000, rfl, rfl⟩⟩
              go_wp2
              exact bodyPost_ret (v := .tuple #[.slice none 0 0, .int .i64 182]) (by simp [results, Try.results9, go_sem]) rfl ⟨_, 182, [], HS.out, rfl, InRow.nil _ _, HB3.out⟩
            · have h2000' : ¬ (2000 : Int) < (nr : Int) := by omega
              obtain ⟨P, hP⟩ : ∃ P, P = befP l.item m true := ⟨_, rfl⟩
              have HP := hid hP
              have HLn : Hid (∀ d, a ≤ d → d ≤ k → (evL l.item P a (d - a)).length ≤ 2000 ∧ (befs (evL l.item P a (d - a))).length ≤ (evL l.item P a (d - a)).length) := fun d h1 h2 => by
                have h3 := evL_len_mono l.item P a (show d - a ≤ k - a by omega)
                have h4 := sides_len (evL l.item P a (d - a))
                have h5 := evL_len l.item P a (k - a)
                have h6 := HNr.out
                omega
              have HS : Hid (PathS l n i 0 (pl (evL l.item P a (k - a)) 0 0)) := .inr ⟨HC.out, a, k, m, HLf.out, by rw [HT0.out]; exact HOne.out, .inr ⟨by rw [← HNr.out]; omega, rfl, by rw [hP]⟩⟩
              clear hP
              obtain ⟨wo, hwo⟩ : ∃ x, x = wr := ⟨_, rfl⟩
              subst hwo
              go_wp2_with fail
              go_loopw [12, 13, 14, 16] (fun x12 x13 x14 x16 wr => ∃ d : Nat, a ≤ d ∧ d ≤ k ∧ x16 = .int .i64 (d : Int) ∧ x13 = .int .i64 ((evL l.item P a (d - a)).length : Int) ∧ x14 = .int .i64 ((befs (evL l.item P a (d - a))).length : Int) ∧ InRow wo.heap.size wr x12 (pl (evL l.item P a (d - a)) 0 0) ∧ Below wo.heap.size wo wr) (fun _ _ _ y _ => k - (intOf y).toNat)
              case atStart => exact ⟨a, Nat.le_refl _, by omega, rfl, by rw [Nat.sub_self]; rfl, by rw [Nat.sub_self]; rfl, by rw [Nat.sub_self]; exact InRow.nil _ _, Below.refl _ _⟩
              case round =>
                obtain ⟨d, had, hdk, rfl, rfl, rfl, hI, hB⟩ := hrel
                have HI := hid hI
                have HB := hid hB
                clear hI hB
                obtain ⟨hl1, hl2⟩ := HLn.out d had hdk
                have hka : a + (d - a) = d := by omega
                have hks : d + 1 - a = (d - a) + 1 := by omega
                obtain ⟨X, hX⟩ : ∃ X, X = evL l.item P a (d - a) := ⟨_, rfl⟩
                rw [← hX] at hl1 hl2 HI ⊢
                obtain ⟨xn, hxn⟩ : ∃ xn, xn = X.length := ⟨_, rfl⟩
                obtain ⟨xk, hxk⟩ : ∃ xk, xk = (befs X).length := ⟨_, rfl⟩
                rw [← hxn] at hl1 hl2 ⊢
                rw [← hxk] at hl2 ⊢
                have HXn := hid hxn
                have HXk := hid hxk
                by_cases hlt : d < k
                · have hlt' : (d : Int) < (k : Int) := by omega
                  have hltn : d < l.n := by omega
                  have hltn' : (d : Int) < (l.n : Int) := by omega
                  obtain ⟨b1, o1, hp, _, hl3, ha⟩ := (H3.out.below HB.out).tr (by omega)
                  obtain ⟨a0, a1, a2, a3⟩ := ha d hltn
                  rw [hp]
                  clear ha hp
                  by_cases h1 : (l.item d).kind = 1
                  · have hE : evL l.item P a (d + 1 - a) = X ++ [((l.item d).ev, P d)] := by rw [hks, evL_yes (by rw [hka]; exact h1), ← hX, hka]
                    have HE := hid hE
                    obtain ⟨d1, d2, _⟩ := HCan.out d hltn
                    obtain ⟨tt, htt⟩ : ∃ tt : Nat, (l.item d).task = (tt : Int) := ⟨(l.item d).task.toNat, by omega⟩
                    have httT : tt < T := by omega
                    have httT' : (tt : Int) < (T : Int) := by omega
                    have gl : g < wr.heap.size := Nat.lt_of_lt_of_le hg2 HB.out.size
                    have cc := (World.cell?_of_block (a := ⟨g, tt, none⟩) (HB.out.block g hg2)).trans (HCell.out tt httT)
                    have HPd : Hid (P d = decide (d < m tt)) := by show _ = _; rw [HP.out]; unfold befP; rw [htt]; simp
                    rw [h1] at a0
                    rw [htt] at a1
                    clear h1 htt d1 d2 hE hX hka hks hxn hxk
                    by_cases hmk : d < m tt
                    · have hmk' : (d : Int) < (m tt : Int) := by omega
                      have hPt : P d = true := by rw [HPd.out]; simp [hmk]
                      have HE2 : Hid (evL l.item P a (d + 1 - a) = X ++ [((l.item d).ev, true)]) := by show _ = _; rw [HE.out, hPt]
                      clear hmk hPt
                      obtain ⟨wp, hwp⟩ : ∃ x, x = wr := ⟨_, rfl⟩
                      subst hwp
                      go_wp2_with fail
                      go_loopw [12, 17] (fun x y wr => ∃ q : Nat, xk ≤ q ∧ q ≤ xn ∧ y = .int .i64 ((q : Int) - 1) ∧ InRow wo.heap.size wr x (pl X 0 0 ++ down xn q) ∧ Below wo.heap.size wo wr) (fun _ y _ => ((intOf y) + 1).toNat)
                      case atStart => exact ⟨xn, hl2, Nat.le_refl _, by go_num, by rw [down_self, List.append_nil]; exact HI.out, HB.out⟩
                      case round =>
                        obtain ⟨q, hq1, hq2, rfl, hI, hB⟩ := hrel
                        have HI2 := hid hI
                        have HB2 := hid hB
                        clear hI hB
                        by_cases hqk : xk < q
                        · obtain ⟨q, rfl⟩ : ∃ z, q = z + 1 := ⟨q - 1, by omega⟩
                          have e1 : ((q + 1 : Nat) : Int) - 1 = (q : Int) := by omega
                          rw [e1]
                          clear e1
                          have hqk' : (xk : Int) ≤ (q : Int) := by omega
                          obtain ⟨P0, hP0⟩ : ∃ z, z = pl X 0 0 ++ down xn (q + 1) := ⟨_, rfl⟩
                          have hpl4 : P0.length ≤ 4002000 := by
                            have h1 := pl_len X 0 0 2000 (by have := HXn.out; omega)
                            have h2 : X.length * 2000 ≤ 2000 * 2000 := Nat.mul_le_mul_right _ (by have := HXn.out; omega)
                            rw [hP0, List.length_append, down_len]
                            omega
                          rw [← hP0] at HI2
                          have HP0 := hid hP0
                          clear hP0
                          have hszB : wo.heap.size ≤ wr.heap.size := HB2.out.size
                          go_wp2_with (at_builtin; refine wpList_app rfl (.tmp 88) (.tmp 90) 23 3 i0 _ 1 8 HKd.out rfl wo.heap.size u12 P0.length _ rfl (World.ownsRow.alloc HI2.out _) ⟨wr.heap.size, 0, none⟩ 1 1 [.int .i64 (q : Int)] rfl rfl (newsI wr (q : Int)) (by simp [Value.oneCell']) (by omega) (by omega) (by simp; omega) ?_)
                          intro v3 w3 ho3 hg3 hn3
                          obtain ⟨pp, cc2, rfl⟩ := ownsRow_slice ho3
                          have HI3 : Hid (InRow wo.heap.size w3 (.slice pp (P0.length + 1) cc2) (pl X 0 0 ++ down xn q)) := by
                            have e9 : pl X 0 0 ++ down xn q = P0 ++ [(q : Int)] := by rw [HP0.out, down_snoc (by omega), List.append_assoc]
                            show InRow _ _ _ _
                            rw [e9]
                            exact InRow.push ho3
                          have HB3' : Hid (Below wo.heap.size wo w3) := (HB2.out.trans ((below1 wr _).mono HB2.out.size)).grown hg3 (by simp; omega) (fun z hz => (HI2.out.lt z hz).1)
                          clear ho3 hg3 hn3
                          go_wp2
                          go_roundw
                          case rel => exact ⟨q, by omega, by omega, by go_num, HI3.out, HB3'.out⟩
                          case measure => simp [intOf]
                        · obtain rfl : q = xk := by omega
                          have hq' : ¬ (q : Int) ≤ (q : Int) - 1 := by omega
                          have HIn : Hid (InRow wo.heap.size wr u12 (pl (evL l.item P a (d + 1 - a)) 0 0)) := by
                            show InRow _ _ _ _
                            rw [HE2.out, pl_snoc_bef, ← HXn.out, ← HXk.out]
                            exact HI2.out
                          have HLl : Hid ((evL l.item P a (d + 1 - a)).length = xn + 1) := by show _ = _; rw [HE2.out, List.length_append, HXn.out]; rfl
                          have HBl : Hid ((befs (evL l.item P a (d + 1 - a))).length = q + 1) := by show _ = _; rw [HE2.out, befs_app, List.length_append, HXk.out]; rfl
                          go_wp2
                          go_roundw
                          case rel => exact ⟨d + 1, by omega, by omega, by go_num, by rw [HLl.out]; go_num, by rw [HBl.out]; go_num, HIn.out, HB2.out⟩
                          case measure => simp [intOf]; omega
                    · have hmk' : ¬ (d : Int) < (m tt : Int) := by omega
                      have hPf : P d = false := by rw [HPd.out]; simp; omega
                      have HE2 : Hid (evL l.item P a (d + 1 - a) = X ++ [((l.item d).ev, false)]) := by show _ = _; rw [HE.out, hPf]
                      clear hmk hPf
                      have HIn : Hid (InRow wo.heap.size wr u12 (pl (evL l.item P a (d + 1 - a)) 0 0)) := by
                        show InRow _ _ _ _
                        rw [HE2.out, pl_snoc_aft]
                        exact HI.out
                      have HLl : Hid ((evL l.item P a (d + 1 - a)).length = xn + 1) := by show _ = _; rw [HE2.out, List.length_append, HXn.out]; rfl
                      have HBl : Hid ((befs (evL l.item P a (d + 1 - a))).length = xk) := by
                        have e9 : befs [((l.item d).ev, false)] = [] := by simp [befs]
                        show _ = _
                        rw [HE2.out, befs_app, e9, List.append_nil, HXk.out]
                      go_wp2
                      go_roundw
                      case rel => exact ⟨d + 1, by omega, by omega, by go_num, by rw [HLl.out]; go_num, by rw [HBl.out], HIn.out, HB.out⟩
                      case measure => simp [intOf]; omega
                  · have HE : Hid (evL l.item P a (d + 1 - a) = X) := by show _ = _; rw [hks, evL_no (by rw [hka]; exact h1), ← hX]
                    have h1b : ((l.item d).kind != 1) = true := by simpa using h1
                    clear hX hka hks hxn hxk
                    go_wp2
                    go_roundw
                    case rel => exact ⟨d + 1, by omega, by omega, by go_num, by rw [HE.out, ← HXn.out], by rw [HE.out, ← HXk.out], by rw [HE.out]; exact HI.out, HB.out⟩
                    case measure => simp [intOf]; omega
                · obtain rfl : d = k := by omega
                  obtain ⟨pp, cc, hv⟩ := ownsRow_slice HI.out
                  have HIo : Hid (InRow w.heap.size wr u12 (pl (evL l.item P a (d - a)) 0 0)) := by show InRow _ _ _ _; rw [← hX]; exact HI.out.mono HB3.out.size
                  have HBo : Hid (Below w.heap.size w wr) := HB3.out.trans (HB.out.mono HB3.out.size)
                  obtain ⟨nv, hnv⟩ : ∃ nv, nv = (pl X 0 0).length := ⟨_, rfl⟩
                  rw [← hnv] at hv
                  clear hX hnv hxn hxk
                  subst hv
                  go_wp2
                  exact bodyPost_ret (v := .tuple #[.slice pp nv cc, .int .i64 0]) (by simp [results, Try.results9, go_sem]) rfl ⟨_, 0, _, HS.out, rfl, HIo.out, HBo.out⟩
      · have HNo := hid hno
        clear hno
        go_wp2
        refine bodyPost_ret (v := .tuple #[.slice none 0 0, .int .i64 181]) (by simp [results, Try.results9, go_sem]) rfl ⟨_, 181, [], .inl ⟨by omega, .inr (.inr (.inl ⟨HC.out, a, b, HLf.out, ?_, rfl, rfl, rfl⟩)), rfl⟩, rfl, InRow.nil _ _, HB3.out⟩
        rw [HT0.out]; exact HNo.out
end Go.Proofs.Ytdpfgflofjiheaa
