import Derived.Test.YtbkikbhodgjijaaZe
import Derived.Test.YtbkikbhodgjijaaZp
import Derived.Test.YtbkikbhodgjijaaYX
import Derived.Test.YtbkikbhodgjijaaYV
namespace Go.Proofs.Ytbkikbhodgjijaa
open Go.RowKit
set_option maxRecDepth 8000

theorem take_more {xs : List EV} {k : Nat} (hk : k < xs.length) : xs.take (k + 1) = xs.take k ++ [xs.getD k ⟨0, 0⟩] := by
  rw [List.take_succ_eq_append_getElem hk]
  simp [hk]
set_option maxHeartbeats 16000000 in
theorem rline_any (l : LT TR) (n : Int) (w : World) (S : Nat → Prop) (hl : LT.In elTr w S l) (h47 : l.n * 32 ≤ 140737488355328) :
    Calls Try.prog 18 #[.slice l.p l.n l.c, .int .i64 n] w fun e w' => LineQ l n w e w' := by
  have hnn := hl.nn
  have H := hid hl
  have H47 := hid h47
  have HCan := hid (rcan_any l n w S hl)
  obtain ⟨i0, Kd⟩ := kindEv
  have HKd := hid Kd
  clear hl h47 Kd
  go_enter Try.func18, Try.ntmps18
  go_wp2_with fail
  refine HCan.out.mono ?_
  rintro e w1 ⟨r, rfl, hr, hb1⟩
  have HB1 := hid hb1
  clear hb1 HCan
  cases r with
  | false =>
    have HC : Hid (¬ CanL n l) := fun h => by have := hr.2 h; cases this
    clear hr
    go_wp2
    exact bodyPost_ret (v := .tuple #[.slice none 0 0, .int .i64 181]) (by simp [results, Try.results18, go_sem]) rfl ⟨_, 181, [], .inl ⟨HC.out, rfl, rfl⟩, rfl, EvRow.nil _ _, HB1.out⟩
  | true =>
    have HC : Hid (CanL n l) := hr.1 rfl
    clear hr
    obtain ⟨T, hT⟩ : ∃ T : Nat, n = (T : Int) := ⟨n.toNat, by have := HC.out.1; omega⟩
    have HT := hid hT
    have hT1 : 1 ≤ T := by have := HC.out.1; omega
    have hT12 : T ≤ 12 := by have := HC.out.2.1; omega
    rw [hT]
    rw [hT] at HC
    clear hT
    have HTn : Hid (n.toNat = T) := by show _ = _; have := HT.out; omega
    go_wp2_with fail
    go_loopw [7, 8] (fun x y wr => ∃ k a : Nat, k ≤ l.n ∧ y = .int .i64 (k : Int) ∧ x = .int .i64 (a : Int) ∧ Cuts l.item k a ∧ wr = w1) (fun _ y _ => l.n - (intOf y).toNat)
    case atStart => exact ⟨0, 0, Nat.zero_le _, rfl, rfl, Cuts.start _, rfl⟩
    case round =>
      obtain ⟨k, a, hk, rfl, rfl, hcut, hw⟩ := hrel
      rw [hw]
      clear hw
      have HCut := hid hcut
      clear hcut
      by_cases hlt : k < l.n
      · have hlt' : (k : Int) < (l.n : Int) := by omega
        obtain ⟨b1, o1, hp, _, hl1, ha⟩ := (H.out.below HB1.out).tr (by omega)
        obtain ⟨a0, a1, a2, a3⟩ := ha k hlt
        rw [hp]
        clear ha hp
        by_cases h1 : (l.item k).kind = 11
        · have HK1 := hid h1
          go_wp2
          go_roundw
          case rel => exact ⟨k + 1, k + 1, by omega, by go_num, by go_num, Cuts.hit HK1.out, by first | rfl | trivial⟩
          case measure => simp [intOf]; omega
        · have HK1 := hid h1
          go_wp2
          go_roundw
          case rel => exact ⟨k + 1, a, by omega, by go_num, rfl, HCut.out.miss HK1.out, by first | rfl | trivial⟩
          case measure => simp [intOf]; omega
      · obtain rfl : k = l.n := by omega
        have hal : a ≤ l.n := HCut.out.1
        obtain ⟨N, hN⟩ : ∃ N, N = l.n := ⟨_, rfl⟩
        have HNN := hid hN
        clear hN
        go_wp2_with fail
        go_loopw [9, 10] (fun x y wr => ∃ k : Nat, a ≤ k ∧ k ≤ l.n ∧ y = .int .i64 (k : Int) ∧ EvRow w.heap.size wr x (evsF l.item (fun _ => true) a (k - a)) ∧ Below w.heap.size w wr) (fun _ y _ => l.n - (intOf y).toNat)
        case atStart => exact ⟨a, Nat.le_refl _, hal, rfl, by rw [Nat.sub_self]; exact EvRow.nil _ _, HB1.out⟩
        case round =>
          obtain ⟨k, hak, hkb, rfl, hr, hbl⟩ := hrel
          have HR := hid hr
          have HB := hid hbl
          clear hr hbl
          by_cases hltn : k < l.n
          · have hltn' : (k : Int) < (l.n : Int) := by omega
            obtain ⟨b1, o1, hp, _, hl1, ha⟩ := (H.out.below HB.out).tr (by omega)
            obtain ⟨a0, a1, a2, a3⟩ := ha k hltn
            have hka : a + (k - a) = k := by omega
            have hks : k + 1 - a = (k - a) + 1 := by omega
            have HKA := hid hka
            have HKS := hid hks
            rw [hp]
            clear ha hp hka hks
            by_cases h1 : (l.item k).kind = 1
            · have HK1 := hid h1
              have HE : Hid (evsF l.item (fun _ => true) a (k + 1 - a) = evsF l.item (fun _ => true) a (k - a) ++ [(l.item k).ev]) := by show _ = _; rw [HKS.out, evsF_yes (by rw [HKA.out]; exact HK1.out) rfl, HKA.out]
              have hlen : (evsF l.item (fun _ => true) a (k - a)).length ≤ k - a := evsF_len _ _ _ _
              have h47 := H47.out
              rw [h1] at a0
              clear h1
              go_upto_region 15 with fail
              refine wp_region_calmE 30 (fun wx => Below wr.heap.size wr wx) [(0, true), (1, true), (2, true), (3, true), (4, true), (5, false), (6, true), (7, true), (8, true), (9, true), (10, false), (11, true)] (.one 12 true [] (.one 13 false [(14, true)] .done)) (by kernel_rfl) (by kernel_rfl) (Below.refl _ _).drew ?_
              refine wpPre_e rfl rfl (fun K1 hK1 => ?_)
              apply Exists.intro
              refine And.intro (fun wx hx => ?_) ?_
              · go_simp
                try rfl
              go_simp
              refine hK1 _ ?_
              clear hK1 K1
              refine wpPre_e rfl rfl (fun K1 hK1 => ?_)
              apply Exists.intro
              refine And.intro (fun wx hx => ?_) ?_
              · go_simp
                try rfl
              go_simp
              refine hK1 _ ?_
              clear hK1 K1
              refine wpPre_e rfl rfl (fun K1 hK1 => ?_)
              apply Exists.intro
              refine And.intro (fun wx hx => ?_) ?_
              · go_simp
                try rfl
              go_simp
              refine hK1 _ ?_
              clear hK1 K1
              refine wpPre_e rfl rfl (fun K1 hK1 => ?_)
              apply Exists.intro
              refine And.intro (fun wx hx => ?_) ?_
              · go_simp
                try rfl
              go_simp
              refine hK1 _ ?_
              clear hK1 K1
              refine wpPre_e rfl rfl (fun K1 hK1 => ?_)
              apply Exists.intro
              refine And.intro (fun wx hx => ?_) ?_
              · go_simp
                try rfl
              go_simp
              refine hK1 _ ?_
              clear hK1 K1
              refine wpPre_e rfl rfl (fun K1 hK1 => ?_)
              apply Exists.intro
              refine And.intro (fun wx hx => ?_) ?_
              · have e0 := below_fact hx rfl a0
                have e1 := below_fact hx rfl a1
                have e2 := below_fact hx rfl a2
                have e3 := below_fact hx rfl a3
                go_simp
                try rfl
              go_simp
              refine hK1 _ ?_
              clear hK1 K1
              refine wpPre_e rfl rfl (fun K1 hK1 => ?_)
              apply Exists.intro
              refine And.intro (fun wx hx => ?_) ?_
              · go_simp
                try rfl
              go_simp
              refine hK1 _ ?_
              clear hK1 K1
              refine wpPre_e rfl rfl (fun K1 hK1 => ?_)
              apply Exists.intro
              refine And.intro (fun wx hx => ?_) ?_
              · go_simp
                try rfl
              go_simp
              refine hK1 _ ?_
              clear hK1 K1
              refine wpPre_e rfl rfl (fun K1 hK1 => ?_)
              apply Exists.intro
              refine And.intro (fun wx hx => ?_) ?_
              · go_simp
                try rfl
              go_simp
              refine hK1 _ ?_
              clear hK1 K1
              refine wpPre_e rfl rfl (fun K1 hK1 => ?_)
              apply Exists.intro
              refine And.intro (fun wx hx => ?_) ?_
              · go_simp
                try rfl
              go_simp
              refine hK1 _ ?_
              clear hK1 K1
              refine wpPre_e rfl rfl (fun K1 hK1 => ?_)
              apply Exists.intro
              refine And.intro (fun wx hx => ?_) ?_
              · have e0 := below_fact hx rfl a0
                have e1 := below_fact hx rfl a1
                have e2 := below_fact hx rfl a2
                have e3 := below_fact hx rfl a3
                go_simp
                try rfl
              go_simp
              refine hK1 _ ?_
              clear hK1 K1
              refine wpPre_e rfl rfl (fun K1 hK1 => ?_)
              apply Exists.intro
              refine And.intro (fun wx hx => ?_) ?_
              · go_simp
                try rfl
              go_simp
              refine hK1 _ ?_
              clear hK1 K1
              refine wpPre_nil ?_
              refine wpTr_e rfl (fun K1 hK1 => ?_)
              go_simp
              refine hK1 _ _ (fun _ => (below1 wr _).drew) ?_
              clear hK1 K1
              refine wpPre_nil ?_
              refine wpTr_e rfl (fun K1 hK1 => ?_)
              refine step_app rfl (.tmp 49) (.tmp 61) 31 39 i0 _ 2 16 HKd.out rfl w.heap.size u9 (evsF l.item (fun _ => true) a (k - a)).length _ rfl (World.ownsRow.alloc HR.out _) ⟨wr.heap.size, 0, none⟩ 1 1 [.int .i64 (l.item k).task, .int .i64 (l.item k).port] rfl rfl (news2 wr _ _) (one2 _ _) (by omega) (by omega) (by have := HB.out.size; simp; omega) ?_
              intro v3 w3 ho3 hg3 hn3
              obtain ⟨pp, cc, rfl⟩ := ownsRow_slice ho3
              have HR3 : Hid (EvRow w.heap.size w3 (.slice pp ((evsF l.item (fun _ => true) a (k - a)).length + 1) cc) (evsF l.item (fun _ => true) a (k - a) ++ [(l.item k).ev])) := EvRow.push (by unfold TR.ev EV.cells; exact ho3)
              have HB3 : Hid (Below w.heap.size w w3) := (HB.out.trans ((below1 wr (.cells #[.int .i64 (l.item k).task, .int .i64 (l.item k).port] 39)).mono HB.out.size)).drew.grown hg3 (by have := HB.out.size; simp; omega) (fun q hq => (HR.out.lt q hq).1)
              clear ho3 hg3 hn3
              go_simp
              refine hK1 _ _ (fun h => by cases h) ?_
              clear hK1 K1
              refine wpPre_e rfl rfl (fun K1 hK1 => ?_)
              apply Exists.intro
              refine And.intro (fun wx hx => ?_) ?_
              · go_simp
                try rfl
              go_simp
              refine hK1 _ ?_
              clear hK1 K1
              refine wpPre_nil ?_
              refine wpTr_done ?_
              go_wp2
              go_roundw
              case rel => exact ⟨k + 1, by omega, by omega, by go_num, by rw [HE.out]; exact HR3.out, HB3.out⟩
              case measure => simp [intOf]; omega
            · have HE : Hid (evsF l.item (fun _ => true) a (k + 1 - a) = evsF l.item (fun _ => true) a (k - a)) := by show _ = _; rw [HKS.out]; exact evsF_no (by rw [HKA.out]; exact fun h => h1 h.1)
              go_wp2
              go_roundw
              case rel => exact ⟨k + 1, by omega, by omega, by go_num, by rw [HE.out]; exact HR.out, HB.out⟩
              case measure => simp [intOf]; omega
          · obtain rfl : k = l.n := by omega
            go_wp2_with fail
            go_loopw [7, 9] (fun x y wr => ∃ (fr : Nat) (acc : List EV), x = .int .i64 (fr : Int) ∧ EvRow w.heap.size wr y acc ∧ Below w.heap.size w wr ∧ fr ≤ l.n ∧ acc.length + fr ≤ l.n ∧ ∀ e r, Back l.item T fr acc e r → Back l.item T a (evsF l.item (fun _ => true) a (l.n - a)) e r) (fun x _ _ => (intOf x).toNat)
            case atStart => exact ⟨a, _, rfl, HR.out, HB.out, hal, by have := evsF_len l.item (fun _ => true) a (l.n - a); omega, fun e r h => h⟩
            case round =>
              clear HR HB
              obtain ⟨fr, acc, rfl, hr, hb, hfr, hac, hto⟩ := hrel
              have HR := hid hr
              have HB := hid hb
              have HTo := hid hto
              clear hr hb hto
              obtain ⟨pp, cc, hv⟩ := ownsRow_slice HR.out
              subst hv
              obtain ⟨L, hL⟩ : ∃ L, L = acc.length := ⟨_, rfl⟩
              have HLn := hid hL
              rw [← hL] at HR hac ⊢
              clear hL
              by_cases hz : fr = 0
              · subst hz
                have HBk : Hid (Back l.item T 0 acc 0 acc) := Back.stop (by simp [beganOf])
                go_wp2
                exact bodyPost_ret (v := .tuple #[.slice pp L cc, .int .i64 0]) (by simp [results, Try.results18, go_sem]) rfl ⟨_, 0, acc, .inr ⟨by rw [HT.out]; exact HC.out, a, HCut.out, by rw [HTn.out]; exact HTo.out _ _ HBk.out⟩, rfl, HR.out, HB.out⟩
              · obtain ⟨z, rfl⟩ : ∃ z, fr = z + 1 := ⟨fr - 1, by omega⟩
                have hzl : z < l.n := by omega
                have hzl' : (z : Int) < (l.n : Int) := by omega
                have HBg : Hid (beganOf l.item (z + 1) = (l.item z).id) := by show _ = _; simp [beganOf]
                obtain ⟨b1, o1, hp, _, hl1, ha⟩ := (H.out.below HB.out).tr (by omega)
                obtain ⟨a0, a1, a2, a3⟩ := ha z hzl
                clear ha
                have hcz : ((z + 1 : Nat) : Int) = (z : Int) + 1 := by omega
                rw [hcz]
                have hz0 : (0 : Int) < (z : Int) + 1 := by omega
                clear hz hcz
                by_cases hid0 : 0 < (l.item z).id
                · have HI := hid hid0
                  have HL := hid (rlifeOf_any l z (l.item z).id wr S (H.out.below HB.out) (by omega))
                  have HPp := hid hp
                  rw [hp] at HL ⊢
                  go_wp2_with fail
                  refine HL.out.mono ?_
                  rintro e w2 ⟨hq, rfl⟩
                  clear HL
                  rcases hq with ⟨hno, rfl⟩ | ⟨f, b, hlf, rfl⟩
                  · have HBk : Hid (Back l.item T (z + 1) acc 180 []) := Back.none (by rw [HBg.out]; exact HI.out) (by rw [HBg.out]; exact hno)
                    clear hno
                    go_wp2
                    exact bodyPost_ret (v := .tuple #[.slice none 0 0, .int .i64 180]) (by simp [results, Try.results18, go_sem]) rfl ⟨_, 180, [], .inr ⟨by rw [HT.out]; exact HC.out, a, HCut.out, by rw [HTn.out]; exact HTo.out _ _ HBk.out⟩, rfl, EvRow.nil _ _, HB.out⟩
                  · have hab := hlf.ab
                    have hbn := hlf.bn
                    have ha0 : ¬ (f : Int) < 0 := by omega
                    have HLf := hid hlf
                    have HCp := hid (copies_any l f b (l.item z).id T w2 S (H.out.below HB.out) hab (by omega) hT12)
                    rw [hp] at HCp
                    clear hlf
                    go_wp2_with fail
                    refine HCp.out.mono ?_
                    rintro e w3 ⟨hb3, hq⟩
                    have HB3 : Hid (Below w.heap.size w w3) := HB.out.trans (hb3.mono HB.out.size)
                    have HR3 := hid (EvRow.below HR.out hb3)
                    clear hb3 HCp
                    rcases hq with ⟨m, v, rfl, hrow, hone⟩ | ⟨hno, rfl⟩
                    · have HOne := hid hone
                      obtain ⟨g, c, rfl, hg1, hg2, _, hgc⟩ := hrow.at_ (by simp; omega)
                      have hlen : ((List.range T).map fun k => (m k : Int)).length = T := by simp
                      rw [hlen]
                      have hcell : ∀ t, t < T → w3.cell? ⟨g, t, none⟩ = some (.int .i64 (m t : Int)) := fun t ht => (hgc t _ (by simp [ht])).1
                      have hk1 : ∀ q, f ≤ q → q < b → (l.item q).kind = 1 → 0 ≤ (l.item q).task ∧ (l.item q).task < (T : Int) := fun q _ h2 _ => by
                        have := HC.out.2.2 q (by omega)
                        exact ⟨this.1, this.2.1⟩
                      have hm : ∀ t, t < T → m t ≤ l.n := fun t ht => by have := (hone t ht).2.1; omega
                      have HS1 := hid (sides_any l f b T g c m true w3 S (H.out.below HB3.out) H47.out hab (by omega) hT12 hg2 hcell hm hk1)
                      rw [hp] at HS1
                      clear hone hrow hgc hlen hcell hk1 hm hp a0 a1 a2 a3
                      go_wp2_with fail
                      refine HS1.out.mono ?_
                      rintro e w4 ⟨v1, rfl, hr1, hb4⟩
                      obtain ⟨E, hE⟩ : ∃ E, E = evsF l.item (befP l.item m true) f (b - f) := ⟨_, rfl⟩
                      have hr1' : EvRow w3.heap.size w4 v1 E := by rw [hE]; exact hr1
                      have hEl : E.length ≤ b - f := by rw [hE]; exact evsF_len _ _ _ _
                      have HE := hid hE
                      have HR1 := hid hr1'
                      have HB4 := hid hb4
                      clear hr1 hr1' hE hb4 HS1
                      go_wp2_with fail
                      go_loopw [16, 17] (fun x y wr => ∃ k : Nat, k ≤ L ∧ y = .int .i64 (k : Int) ∧ EvRow w3.heap.size wr x (E ++ acc.take k) ∧ Below w3.heap.size w3 wr) (fun _ y _ => L - (intOf y).toNat)
                      case atStart => exact ⟨0, Nat.zero_le _, rfl, by rw [List.take_zero, List.append_nil]; exact HR1.out, HB4.out⟩
                      case round =>
                        obtain ⟨k, hk, rfl, hr, hb⟩ := hrel
                        have HRk := hid hr
                        have HBk := hid hb
                        clear hr hb
                        have hls := HLn.out
                        by_cases hkl : k < L
                        · have hkl' : (k : Int) < (L : Int) := by omega
                          have h47 := H47.out
                          obtain ⟨p9, c9, hv9, hin⟩ := EvRow.in_ (show EvRow w.heap.size wr (.slice pp L cc) acc from by rw [hls]; rw [hls] at HR3; exact EvRow.below HR3.out HBk.out) (by omega)
                          have hp9 : pp = p9 := (Value.slice.inj hv9).1
                          obtain ⟨b2, o2, hp2, _, hl2, hx⟩ := hin.ev (by dsimp only; omega)
                          obtain ⟨c0, c1⟩ := hx k (by dsimp only; omega)
                          dsimp only at hp2 c0 c1
                          have hp3 : pp = some ⟨b2, o2, none⟩ := hp9.trans hp2
                          have hlen : (E ++ acc.take k).length ≤ l.n := by rw [List.length_append, List.length_take]; omega
                          have HTk : Hid (E ++ acc.take (k + 1) = (E ++ acc.take k) ++ [acc.getD k ⟨0, 0⟩]) := by show _ = _; rw [take_more (by omega), List.append_assoc]
                          obtain ⟨X, hX⟩ : ∃ X, X = acc.getD k ⟨0, 0⟩ := ⟨_, rfl⟩
                          rw [← hX] at c0 c1 HTk
                          obtain ⟨A, hA⟩ : ∃ A, A = E ++ acc.take k := ⟨_, rfl⟩
                          rw [← hA] at HRk hlen HTk
                          rw [hp3]
                          clear hx hp2 hp3 hp9 hv9 hin hX hA hls
                          go_wp2_with (at_builtin; refine wpList_app rfl (.tmp 112) (.tmp 117) 31 39 i0 _ 2 16 HKd.out rfl w3.heap.size u16 A.length _ rfl (World.ownsRow.alloc HRk.out _) ⟨wr.heap.size, 0, none⟩ 1 1 [.int .i64 X.task, .int .i64 X.port] rfl rfl (news2 wr _ _) (one2 _ _) (by omega) (by omega) (by have := HBk.out.size; simp; omega) ?_)
                          intro v5 w5 ho5 hg5 hn5
                          obtain ⟨p5, c5, rfl⟩ := ownsRow_slice ho5
                          have HR5 : Hid (EvRow w3.heap.size w5 (.slice p5 (A.length + 1) c5) (A ++ [X])) := EvRow.push ho5
                          have HB5 : Hid (Below w3.heap.size w3 w5) := (HBk.out.trans ((below1 wr _).mono HBk.out.size)).grown hg5 (by have := HBk.out.size; simp; omega) (fun q hq => (HRk.out.lt q hq).1)
                          clear ho5 hg5 hn5
                          go_wp2
                          go_roundw
                          case rel => exact ⟨k + 1, by omega, by go_num, by rw [HTk.out]; exact HR5.out, HB5.out⟩
                          case measure => simp [intOf]; omega
                        · obtain rfl : k = L := by omega
                          have HRf : Hid (EvRow w.heap.size wr u16 (E ++ acc)) := by
                            have h1 := HRk.out
                            rw [hls, List.take_length] at h1
                            exact h1.mono HB3.out.size
                          have HBf : Hid (Below w.heap.size w wr) := HB3.out.trans (HBk.out.mono HB3.out.size)
                          clear hls
                          go_wp2
                          go_roundw
                          case rel =>
                            refine ⟨f, E ++ acc, rfl, HRf.out, HBf.out, by omega, by rw [List.length_append, ← HLn.out]; omega, fun e r h => HTo.out e r ?_⟩
                            refine Back.go (a := f) (b := b) (m := m) (by rw [HBg.out]; exact HI.out) (by rw [HBg.out]; exact HLf.out) (by rw [HBg.out]; exact HOne.out) ?_
                            rw [← HE.out]
                            exact h
                          case measure => simp [intOf]; omega
                    · have HBk : Hid (Back l.item T (z + 1) acc 181 []) := Back.bad (a := f) (b := b) (by rw [HBg.out]; exact HI.out) (by rw [HBg.out]; exact HLf.out) (by rw [HBg.out]; exact hno)
                      clear hno
                      go_wp2
                      exact bodyPost_ret (v := .tuple #[.slice none 0 0, .int .i64 181]) (by simp [results, Try.results18, go_sem]) rfl ⟨_, 181, [], .inr ⟨by rw [HT.out]; exact HC.out, a, HCut.out, by rw [HTn.out]; exact HTo.out _ _ HBk.out⟩, rfl, EvRow.nil _ _, HB3.out⟩
                · have HI := hid hid0
                  have HBk : Hid (Back l.item T (z + 1) acc 0 acc) := Back.stop (by rw [HBg.out]; exact HI.out)
                  rw [hp]
                  go_wp2
                  exact bodyPost_ret (v := .tuple #[.slice pp L cc, .int .i64 0]) (by simp [results, Try.results18, go_sem]) rfl ⟨_, 0, acc, .inr ⟨by rw [HT.out]; exact HC.out, a, HCut.out, by rw [HTn.out]; exact HTo.out _ _ HBk.out⟩, rfl, HR.out, HB.out⟩
set_option maxHeartbeats 8000000 in
theorem witnessLine_walk (l : LT TR) (n : Int) (w : World) (hl : LT.In elTr w (fun b => b < w.heap.size) l) (h47 : l.n * 32 ≤ 140737488355328) :
    Calls Try.prog 5 #[.slice l.p l.n l.c, .int .i64 n] w fun e w' => e = .returned (.bool true) ∧ Below w.heap.size w w' := by
  have hnn := hl.nn
  obtain ⟨i0, Kd⟩ := kindTr
  have HKd := hid Kd
  have HSrc := hid hl.src
  have HL := hid hl
  have H47 := hid h47
  clear hl Kd h47
  have hb47 : (0 + l.n) * 32 ≤ 140737488355328 := by have := H47.out; omega
  go_enter Try.func5, Try.ntmps5
  go_wp2_with (at_builtin; refine wpList_appS rfl (.const (.slice none 0 0)) (.tmp 10) 22 37 i0 _ 4 32 HKd.out rfl w.heap.size (.slice none 0 0) 0 [] rfl (World.ownsRow_nil _ _ _ _) l.p l.n l.c _ rfl HSrc.out (oneTr l) (by omega) hb47 (Nat.le_refl _) ?_)
  intro v1 w1 ho1 hg1 _
  obtain ⟨p1, c1, rfl, hin1⟩ := copied_in hnn ho1
  have hb1 : Below w.heap.size w w1 := (Below.refl _ _).grown hg1 (Nat.le_refl _) (fun k hk => by cases hk)
  have HSp := hid (line_any ⟨p1, l.n, c1, l.item⟩ n w1 _ hin1 H47.out)
  dsimp only at HSp
  have HB1 := hid hb1
  clear ho1 hg1 hb1 hin1
  go_wp2_with fail
  refine HSp.out.mono ?_
  rintro e w2 ⟨v1, err, xs, hS, rfl, hr1, hb2⟩
  have hb02 : Below w.heap.size w w2 := HB1.out.trans (hb2.mono HB1.out.size)
  have HRs := hid (rline_any l n w2 _ (HL.out.below hb02) H47.out)
  have HB02 := hid hb02
  have HR1 := hid hr1
  have HS := hid hS
  clear hb2 hb02 hr1 hS HSp
  go_wp2_with fail
  refine HRs.out.mono ?_
  rintro e w3 ⟨u1, err', xs', hS', rfl, hq1, hb3⟩
  obtain ⟨rfl, rfl⟩ := LineS.uniq HS.out hS'
  have hx1 := hS'.len
  have hb03 : Below w.heap.size w w3 := HB02.out.trans (hb3.mono HB02.out.size)
  have HC1 := hid (sameRows v1 u1 xs w3 _ _ (HR1.out.below hb3) hq1 (by omega))
  have HB03 := hid hb03
  have herr : (err == err) = true := by simp
  clear hS' hq1 hb3 hb03 hx1 HRs
  go_wp2_with fail
  refine HC1.out.mono ?_
  rintro e w4 ⟨rfl, hb4⟩
  have HB04 : Hid (Below w.heap.size w w4) := HB03.out.trans (hb4.mono HB03.out.size)
  clear hb4 HC1
  go_wp2
  go_ret
  exact ⟨rfl, HB04.out⟩
end Go.Proofs.Ytbkikbhodgjijaa
