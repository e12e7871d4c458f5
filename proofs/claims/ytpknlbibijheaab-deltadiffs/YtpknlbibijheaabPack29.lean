import Derived.Test.YtpknlbibijheaabPack10
import Derived.Test.YtpknlbibijheaabPack28
import Derived.Test.YtpknlbibijheaabDnB
import Derived.Deep.CutRange
namespace Go.Proofs.Ytpknlbibijheaab
open Go.RowKit
set_option maxRecDepth 8000

set_option maxHeartbeats 2000000 in
theorem refCheckState_any (s : ST) (w : World) (S : Nat → Prop) (hin : ST.In w S s) :
    Calls Try.prog 20 #[s.val] w fun e w' => e = .returned (.int .i64 (chkState s)) ∧ Below w.heap.size w w' := by
  have E : Hid (chkState s = if s.num < 0 ∨ 1073741824 < s.num then 26 else if 64 < s.n then 27 else firstC (chkCell s.cell) s.n) := rfl
  generalize chkState s = res at *
  have HI := hid hin
  obtain ⟨num, p, n, c, f⟩ := s
  have hnn := hin.nn
  unfold ST.val
  simp only at E hnn ⊢
  have HW : Hid (Below w.heap.size w (w.alloc (.cells #[.int .i64 num, .slice p n c] 24))) := (Below.refl _ _).alloc (Nat.le_refl _) _
  have HB := hid (Box.new w #[.int .i64 num, .slice p n c] 24)
  clear hin
  by_cases h0 : num < 0
  · have e : Hid (res = 26) := by unfold Hid; rw [E.out, if_pos (.inl h0)]
    go_enter Try.func20, Try.ntmps20
    go_wp2
    go_ret
    exact ⟨by rw [e.out]; rfl, HW.out⟩
  · by_cases h1 : 1073741824 < num
    · have e : Hid (res = 26) := by unfold Hid; rw [E.out, if_pos (.inr h1)]
      go_enter Try.func20, Try.ntmps20
      go_wp2
      go_ret
      exact ⟨by rw [e.out]; rfl, HW.out⟩
    · by_cases h64 : 64 < n
      · have h64' : (64 : Int) < (n : Int) := by omega
        have e : Hid (res = 27) := by unfold Hid; rw [E.out, if_neg (by omega), if_pos h64]
        go_enter Try.func20, Try.ntmps20
        go_wp2
        go_ret
        exact ⟨by rw [e.out]; rfl, HW.out⟩
      · have h64' : ¬ (64 : Int) < (n : Int) := by omega
        have E1 : Hid (res = firstC (chkCell f) n) := by unfold Hid; rw [E.out, if_neg (by omega), if_neg h64]
        go_enter Try.func20, Try.ntmps20
        go_wp2_with fail
        go_loopw [3] (fun x wr => ∃ j : Nat, j ≤ n ∧ x = .int .i64 j ∧ firstC (chkCell f) j = 0 ∧ Box wr w.heap.size #[.int .i64 num, .slice p n c] 24 ∧ Below w.heap.size w wr) (fun x _ => n - (intOf x).toNat)
        case atStart => exact ⟨0, Nat.zero_le _, rfl, rfl, HB.out, HW.out⟩
        case round =>
          obtain ⟨j, hj, rfl, hf, hBx, hbel⟩ := hrel
          have HF := hid hf
          have x1 := hBx.cell 1
          simp at x1
          have hxl := hBx.lt
          have HX := hid (And.intro hBx hbel)
          clear hf hBx
          by_cases hlt : j < n
          · have hlt' : (j : Int) < (n : Int) := by omega
            obtain ⟨bb, o, hp, hSb, hbl, hat⟩ := HI.out.at_ (show 0 < n by omega)
            simp only at hp
            subst hp
            obtain ⟨d0, d1⟩ := (hat j hlt).kept (hbel.block bb hbl)
            simp only at d0 d1
            have hks := (HI.out.each j hlt).fit.s1
            simp only at hks
            have hbl' : bb < wr.heap.size := Nat.lt_of_lt_of_le hbl hbel.size
            have hsw := hbel.size
            obtain ⟨fk, fi, fs, fn, fp, fc, ff, hfe⟩ := (HI.out.each j hlt).mk_
            simp only at hfe
            have HFi : Hid (VT.In wr S (.mk fk fi fs fn fp fc ff)) := by
              have h := (HI.out.each j hlt).kept hbel.size fun b hb hl => hbel.block b hl
              simp only at h
              rw [hfe] at h
              exact h
            have hfn := HFi.out.fit.nn
            simp only [VT.n_mk] at hfn
            have ht : (f j).text = fs := by rw [hfe]; rfl
            have hv : chkVals (f j) = if 6 < fn then 27 else firstC (fun q => (chk (ff q) 0 0).1) fn := by rw [hfe]; rfl
            rw [hfe] at d1
            simp only [VT.p_mk, VT.n_mk, VT.c_mk] at d1
            rw [ht] at d0 hks
            by_cases hk : 12 < fs.size
            · have hk' : (12 : Int) < (fs.size : Int) := by omega
              have hl : chkCell f j = 24 := by unfold chkCell; rw [ht, if_pos hk]
              have e : Hid (res = 24) := by unfold Hid; rw [E1.out, firstC_hit HF.out hlt (by rw [hl]; decide), hl]
              have HB2 : Hid (Below w.heap.size w (wr.alloc (.cells #[.string fs, .slice fp fn fc] 45))) := hbel.alloc hsw _
              clear hat hl hbel hv
              go_wp2
              go_ret
              exact ⟨by rw [e.out]; rfl, HB2.out⟩
            · have hk' : ¬ (12 : Int) < (fs.size : Int) := by omega
              have hB2 : Box (wr.alloc (.cells #[.string fs, .slice fp fn fc] 45)) wr.heap.size #[.string fs, .slice fp fn fc] 45 := Box.new _ _ _
              by_cases hj0 : j = 0
              · subst hj0
                have hl : chkCell f 0 = chkVals (f 0) := by unfold chkCell; rw [ht, if_neg hk, if_neg (by omega)]
                simp only [Nat.zero_mul, Nat.add_zero] at d0 d1
                go_wp2_with fail
                go_region
                all_goals
                  by_cases h6 : 6 < fn
                  · have h6' : (6 : Int) < (fn : Int) := by omega
                    have e : Hid (res = 27) := by unfold Hid; rw [E1.out, firstC_hit HF.out hlt (by rw [hl, hv, if_pos h6]; decide), hl, hv, if_pos h6]
                    have HB3 : Hid (Below w.heap.size w (wr.alloc (.cells #[.string fs, .slice fp fn fc] 45)).drew) := (hbel.alloc hsw _).drew
                    clear hat hl hv hbel
                    go_wp2
                    go_ret
                    exact ⟨by rw [e.out]; rfl, HB3.out⟩
                  · have h6' : ¬ (6 : Int) < (fn : Int) := by omega
                    have HL : Hid (chkCell f (0) = firstC (fun q => (chk (ff q) 0 0).1) fn) := by unfold Hid; rw [hl, hv, if_neg h6]
                    have hB3 : Box (wr.alloc (.cells #[.string fs, .slice fp fn fc] 45)).drew wr.heap.size #[.string fs, .slice fp fn fc] 45 := hB2.below (Below.refl _ _).drew
                    have hb3 : Below wr.heap.size wr (wr.alloc (.cells #[.string fs, .slice fp fn fc] 45)).drew := ((Below.refl _ _).alloc (Nat.le_refl _) _).drew
                    obtain ⟨wo, hwo⟩ : ∃ wo : World, wo = wr := ⟨wr, rfl⟩
                    subst hwo
                    clear hat hl hv hbel hB2 d0 d1
                    go_wp2_with fail
                    go_loopw [5] (fun x wr => ∃ q : Nat, q ≤ fn ∧ x = .int .i64 q ∧ firstC (fun q => (chk (ff q) 0 0).1) q = 0 ∧ Box wr wo.heap.size #[.string fs, .slice fp fn fc] 45 ∧ Below wo.heap.size wo wr) (fun x _ => fn - (intOf x).toNat)
                    case atStart => exact ⟨0, Nat.zero_le _, rfl, rfl, hB3, hb3⟩
                    case round =>
                      obtain ⟨q, hq, rfl, hf2, hB4, hb4⟩ := hrel
                      clear hB3 hb3
                      have HF2 := hid hf2
                      have y1 := hB4.cell 1
                      simp at y1
                      have hyl := hB4.lt
                      have x1' := (hb4.cell (p := ⟨w.heap.size, 1, none⟩) hxl).trans x1
                      have HY := hid (And.intro hB4 hb4)
                      have hs4 := hb4.size
                      clear hf2 hB4 x1
                      by_cases hlq : q < fn
                      · have hlq' : (q : Int) < (fn : Int) := by omega
                        obtain ⟨b2, o2, hp2, hSb2, hbl2, hat2⟩ := HFi.out.at_ (show 0 < (VT.mk fk fi fs fn fp fc ff).n from by simp only [VT.n]; omega)
                        simp only [VT.p_mk] at hp2
                        subst hp2
                        obtain ⟨z0, z1, z2, z3⟩ := (hat2 q hlq).kept (hb4.block b2 hbl2)
                        simp only [VT.item_mk] at z0 z1 z2 z3
                        have HC : Hid (Calls Try.prog 41 #[(ff q).val] wr fun e w' => e = .returned (.int .i64 (chk (ff q) 0 0).1) ∧ Below wr.heap.size wr w') :=
                          refCheck_any (ff q) wr S ((HFi.out.sub hlq).kept hb4.size fun b hb hl => hb4.block b hl)
                        unfold VT.val at HC
                        clear hat2 hb4
                        go_wp2_with fail
                        refine HC.out.mono ?_
                        rintro e w2 ⟨rfl, hb2⟩
                        have HB2 : Hid (Box w2 wo.heap.size #[.string fs, .slice (some ⟨b2, o2, none⟩) fn fc] 45 ∧ Below wo.heap.size wo w2) := ⟨HY.out.1.below hb2, HY.out.2.trans (hb2.mono hs4)⟩
                        have HB5 : Hid (Below w.heap.size w w2) := HX.out.2.trans (HB2.out.2.mono hsw)
                        clear hb2 z0 z1 z2 z3
                        by_cases hc : (chk (ff q) 0 0).1 = 0
                        · have HF3 : Hid (firstC (fun q => (chk (ff q) 0 0).1) (q + 1) = 0) := by unfold Hid; rw [firstC_succ HF2.out]; exact hc
                          rw [hc]
                          clear hc
                          go_wp2
                          go_roundw
                          case rel => exact ⟨q + 1, by omega, by go_num, HF3.out, HB2.out.1, HB2.out.2⟩
                          case measure => simp [intOf]; omega
                        · have hc' : ¬ ((chk (ff q) 0 0).1 : Int) = 0 := by omega
                          have e : Hid (res = (chk (ff q) 0 0).1) := by unfold Hid; rw [E1.out, firstC_hit HF.out hlt (by rw [HL.out, firstC_hit HF2.out hlq hc]; exact hc), HL.out, firstC_hit HF2.out hlq hc]
                          go_wp2
                          go_ret
                          exact ⟨by rw [e.out]; rfl, HB5.out⟩
                      · have hqe : q = fn := by omega
                        have hlq' : ¬ (q : Int) < (fn : Int) := by omega
                        have HF3 : Hid (firstC (chkCell f) (0 + 1) = 0) := by unfold Hid; rw [firstC_succ HF.out, HL.out, ← hqe]; exact HF2.out
                        have HB2 : Hid (Box wr w.heap.size #[.int .i64 num, .slice (some ⟨bb, o, none⟩) n c] 24 ∧ Below w.heap.size w wr) := ⟨HX.out.1.below hb4, HX.out.2.trans (hb4.mono hsw)⟩
                        clear hb4
                        go_wp2
                        go_roundw
                        case rel => exact ⟨0 + 1, by omega, by go_num, HF3.out, HB2.out.1, HB2.out.2⟩
                        case measure => simp [intOf]; omega
              · obtain ⟨m, rfl⟩ : ∃ m, j = m + 1 := ⟨j - 1, by omega⟩
                have c0 := ((hat m (show m < n by omega)).kept (hbel.block bb hbl)).c0
                simp only at c0
                cases hb : Op.bytesLess (f m).text.toList fs.toList with
                | false =>
                  have hl : chkCell f (m + 1) = 27 := by unfold chkCell; rw [ht, if_neg hk, if_pos ⟨by omega, hb⟩]
                  have e : Hid (res = 27) := by unfold Hid; rw [E1.out, firstC_hit HF.out hlt (by rw [hl]; decide), hl]
                  have HB2 : Hid (Below w.heap.size w (wr.alloc (.cells #[.string fs, .slice fp fn fc] 45)).drew) := (hbel.alloc hsw _).drew
                  clear hat hl hbel hv
                  go_wp2_with fail
                  go_region
                  all_goals
                    go_wp2
                    go_ret
                    exact ⟨by rw [e.out]; rfl, HB2.out⟩
                | true =>
                  have hl : chkCell f (m + 1) = chkVals (f (m + 1)) := by unfold chkCell; rw [ht, if_neg hk, if_neg (by intro h; rw [Nat.add_sub_cancel, hb] at h; cases h.2)]
                  go_wp2_with fail
                  go_region
                  all_goals
                    by_cases h6 : 6 < fn
                    · have h6' : (6 : Int) < (fn : Int) := by omega
                      have e : Hid (res = 27) := by unfold Hid; rw [E1.out, firstC_hit HF.out hlt (by rw [hl, hv, if_pos h6]; decide), hl, hv, if_pos h6]
                      have HB3 : Hid (Below w.heap.size w (wr.alloc (.cells #[.string fs, .slice fp fn fc] 45)).drew) := (hbel.alloc hsw _).drew
                      clear hat hl hv hbel
                      go_wp2
                      go_ret
                      exact ⟨by rw [e.out]; rfl, HB3.out⟩
                    · have h6' : ¬ (6 : Int) < (fn : Int) := by omega
                      have HL : Hid (chkCell f (m + 1) = firstC (fun q => (chk (ff q) 0 0).1) fn) := by unfold Hid; rw [hl, hv, if_neg h6]
                      have hB3 : Box (wr.alloc (.cells #[.string fs, .slice fp fn fc] 45)).drew wr.heap.size #[.string fs, .slice fp fn fc] 45 := hB2.below (Below.refl _ _).drew
                      have hb3 : Below wr.heap.size wr (wr.alloc (.cells #[.string fs, .slice fp fn fc] 45)).drew := ((Below.refl _ _).alloc (Nat.le_refl _) _).drew
                      obtain ⟨wo, hwo⟩ : ∃ wo : World, wo = wr := ⟨wr, rfl⟩
                      subst hwo
                      clear hat hl hv hbel hB2 d0 d1
                      go_wp2_with fail
                      go_loopw [5] (fun x wr => ∃ q : Nat, q ≤ fn ∧ x = .int .i64 q ∧ firstC (fun q => (chk (ff q) 0 0).1) q = 0 ∧ Box wr wo.heap.size #[.string fs, .slice fp fn fc] 45 ∧ Below wo.heap.size wo wr) (fun x _ => fn - (intOf x).toNat)
                      case atStart => exact ⟨0, Nat.zero_le _, rfl, rfl, hB3, hb3⟩
                      case round =>
                        obtain ⟨q, hq, rfl, hf2, hB4, hb4⟩ := hrel
                        clear hB3 hb3
                        have HF2 := hid hf2
                        have y1 := hB4.cell 1
                        simp at y1
                        have hyl := hB4.lt
                        have x1' := (hb4.cell (p := ⟨w.heap.size, 1, none⟩) hxl).trans x1
                        have HY := hid (And.intro hB4 hb4)
                        have hs4 := hb4.size
                        clear hf2 hB4 x1
                        by_cases hlq : q < fn
                        · have hlq' : (q : Int) < (fn : Int) := by omega
                          obtain ⟨b2, o2, hp2, hSb2, hbl2, hat2⟩ := HFi.out.at_ (show 0 < (VT.mk fk fi fs fn fp fc ff).n from by simp only [VT.n]; omega)
                          simp only [VT.p_mk] at hp2
                          subst hp2
                          obtain ⟨z0, z1, z2, z3⟩ := (hat2 q hlq).kept (hb4.block b2 hbl2)
                          simp only [VT.item_mk] at z0 z1 z2 z3
                          have HC : Hid (Calls Try.prog 41 #[(ff q).val] wr fun e w' => e = .returned (.int .i64 (chk (ff q) 0 0).1) ∧ Below wr.heap.size wr w') :=
                            refCheck_any (ff q) wr S ((HFi.out.sub hlq).kept hb4.size fun b hb hl => hb4.block b hl)
                          unfold VT.val at HC
                          clear hat2 hb4
                          go_wp2_with fail
                          refine HC.out.mono ?_
                          rintro e w2 ⟨rfl, hb2⟩
                          have HB2 : Hid (Box w2 wo.heap.size #[.string fs, .slice (some ⟨b2, o2, none⟩) fn fc] 45 ∧ Below wo.heap.size wo w2) := ⟨HY.out.1.below hb2, HY.out.2.trans (hb2.mono hs4)⟩
                          have HB5 : Hid (Below w.heap.size w w2) := HX.out.2.trans (HB2.out.2.mono hsw)
                          clear hb2 z0 z1 z2 z3
                          by_cases hc : (chk (ff q) 0 0).1 = 0
                          · have HF3 : Hid (firstC (fun q => (chk (ff q) 0 0).1) (q + 1) = 0) := by unfold Hid; rw [firstC_succ HF2.out]; exact hc
                            rw [hc]
                            clear hc
                            go_wp2
                            go_roundw
                            case rel => exact ⟨q + 1, by omega, by go_num, HF3.out, HB2.out.1, HB2.out.2⟩
                            case measure => simp [intOf]; omega
                          · have hc' : ¬ ((chk (ff q) 0 0).1 : Int) = 0 := by omega
                            have e : Hid (res = (chk (ff q) 0 0).1) := by unfold Hid; rw [E1.out, firstC_hit HF.out hlt (by rw [HL.out, firstC_hit HF2.out hlq hc]; exact hc), HL.out, firstC_hit HF2.out hlq hc]
                            go_wp2
                            go_ret
                            exact ⟨by rw [e.out]; rfl, HB5.out⟩
                        · have hqe : q = fn := by omega
                          have hlq' : ¬ (q : Int) < (fn : Int) := by omega
                          have HF3 : Hid (firstC (chkCell f) (m + 1 + 1) = 0) := by unfold Hid; rw [firstC_succ HF.out, HL.out, ← hqe]; exact HF2.out
                          have HB2 : Hid (Box wr w.heap.size #[.int .i64 num, .slice (some ⟨bb, o, none⟩) n c] 24 ∧ Below w.heap.size w wr) := ⟨HX.out.1.below hb4, HX.out.2.trans (hb4.mono hsw)⟩
                          clear hb4
                          go_wp2
                          go_roundw
                          case rel => exact ⟨m + 1 + 1, by omega, by go_num, HF3.out, HB2.out.1, HB2.out.2⟩
                          case measure => simp [intOf]; omega
          · have hje : j = n := by omega
            have e : Hid (res = 0) := by unfold Hid; rw [E1.out, ← hje]; exact HF.out
            have hlt' : ¬ (j : Int) < (n : Int) := by omega
            go_wp2
            go_ret
            exact ⟨by rw [e.out]; rfl, hbel⟩
end Go.Proofs.Ytpknlbibijheaab

namespace Go.Proofs.Ytpknlbibijheaab
open Go.RowKit
set_option maxRecDepth 8000
/-- the cell of a key: a copy in memory of S, or none -/
structure AtR (l : LT VT) (g : ByteArray) (had : Bool) (u : VT) (W : World) (S : Nat → Prop) : Prop where
  yes : had = true → u.text = g ∧ u.norm ∈ l.nl ∧ VT.In W S u
  no : had = false → ¬ keyIn l.toL g
theorem AtR.keep {l : LT VT} {g : ByteArray} {had : Bool} {u : VT} {W W' : World} {S S' : Nat → Prop} (h : AtR l g had u W S) (hs : W.heap.size ≤ W'.heap.size) (hb : ∀ b, S b → b < W.heap.size → W'.heap[b]? = W.heap[b]?) (hm : ∀ b, S b → b < W.heap.size → S' b) : AtR l g had u W' S' :=
  ⟨fun e => by
    obtain ⟨h1, h2, h3⟩ := h.yes e
    have h4 : VT.In W (fun b => S b ∧ S' b) u := h3.mono fun b hS hl => ⟨hS, hm b hS hl⟩
    exact ⟨h1, h2, (h4.kept hs fun b hS hl => hb b hS.1 hl).mono fun b hS _ => hS.2⟩, h.no⟩
theorem AtR.key {l : LT VT} {g : ByteArray} {had : Bool} {u : VT} {W : World} {S : Nat → Prop} (h : AtR l g had u W S) : had = true ↔ keyIn l.toL g := by
  constructor
  · intro e
    obtain ⟨h1, h2, _⟩ := h.yes e
    rw [← keyIn_norm]
    exact ⟨u.norm, h2, by rw [norm_text, h1]⟩
  · intro hk
    cases had with
    | true => rfl
    | false => exact (h.no rfl hk).elim
theorem rat_one (l : LT VT) (g : ByteArray) (w : World) (S : Nat → Prop) (hl : LT.In elCell w S l) (hz : CSz l) :
    Calls Try.prog 22 #[.slice l.p l.n l.c, .string g] w fun e w' => ∃ (u : VT) (had : Bool), e = .returned (.tuple #[.agg #[.string u.text, .slice u.p u.n u.c], .bool had]) ∧ AtR l g had u w' (fun b => w.heap.size ≤ b) ∧ Below w.heap.size w w' := by
  refine (rat_any l g w S hl hz).mono ?_
  rintro e w' ⟨hb, ⟨j, u, hj, ht, _, rfl, ha, hi⟩ | ⟨hn, rfl⟩⟩
  · have e1 : u.text = g := ha.text.trans ht
    refine ⟨u, true, by rw [e1], ⟨fun _ => ⟨e1, ?_, hi⟩, fun h => by cases h⟩, hb⟩
    rw [← norm_of ha hi]
    exact List.mem_map.2 ⟨_, toL_mem l hj, rfl⟩
  · exact ⟨zC, false, rfl, ⟨fun h => (by cases h), fun _ => hn⟩, hb⟩
theorem hasK_key {xs : List VT} {k : ByteArray} : hasK xs k = true ↔ keyIn xs k := by
  unfold hasK keyIn
  rw [List.any_eq_true]
  constructor
  · rintro ⟨c, hc, he⟩; exact ⟨c, hc, ba_ext (by simpa using he)⟩
  · rintro ⟨c, hc, rfl⟩; exact ⟨c, hc, by simp⟩
theorem firstC_next2 {g : Nat → Nat} {n : Nat} (h : firstC g n = 0) (hg : g n = 0) : firstC g (n + 1) = 0 := by
  show (if firstC g n = 0 then g n else firstC g n) = 0
  rw [if_pos h, hg]
theorem firstC_stay2 {g : Nat → Nat} : ∀ {m n : Nat} {v : Nat}, firstC g m = v → v ≠ 0 → m ≤ n → firstC g n = v := by
  intro m n v h hv hmn
  induction hmn with
  | refl => exact h
  | @step n _ ih =>
    show (if firstC g n = 0 then g n else firstC g n) = v
    rw [ih, if_neg hv]
theorem firstC_hit2 {g : Nat → Nat} {k n v : Nat} (h : firstC g k = 0) (hg : g k = v) (hv : v ≠ 0) (hk : k < n) : firstC g n = v := by
  refine firstC_stay2 (m := k + 1) ?_ hv (by omega)
  show (if firstC g k = 0 then g k else firstC g k) = v
  rw [if_pos h, hg]
end Go.Proofs.Ytpknlbibijheaab

namespace Go.Proofs.Ytpknlbibijheaab
open Go.RowKit
set_option maxRecDepth 8000
theorem OwnL.congr {α : Type} {E : El α} {base : Nat} {w : World} {v : Value} {n : Nat} {g g' : Nat → α} (h : OwnL E base w v n g) (he : ∀ j, j < n → g j = g' j) : OwnL E base w v n g' := by
  have e : ((List.range n).flatMap fun j => E.cells (g j)) = ((List.range n).flatMap fun j => E.cells (g' j)) := by
    rw [List.flatMap_def, List.flatMap_def]
    congr 1
    apply List.map_congr_left
    intro j hj
    rw [he j (List.mem_range.1 hj)]
  exact ⟨by rw [← e]; exact h.own, fun j hj => by rw [← he j hj]; exact h.each j hj⟩
/-- cells in a row of the call's own -/
def CRow (base : Nat) (w : World) (v : Value) (xs : List VT) : Prop := OwnL elCell base w v xs.length (fun j => xs.getD j zC)
theorem CRow.nil (base : Nat) (w : World) : CRow base w (.slice none 0 0) [] := ⟨World.ownsRow_nil _ _ _ _, fun j h => absurd h (by show ¬ j < 0; omega)⟩
theorem CRow.push {base : Nat} {w w' : World} {v v' : Value} {xs : List VT} {u : VT} (h : CRow base w v xs) (hu : VT.In w (fun b => base ≤ b ∧ v.ownBlock ≠ some b) u)
    (hown : w'.ownsRow base 45 2 v' (xs.length + 1) (((List.range xs.length).flatMap fun j => elCell.cells (xs.getD j zC)) ++ elCell.cells u)) (hg : w.grownBy w' v.ownBlock) (hn : Near w v v') : CRow base w' v' (xs ++ [u]) := by
  have h1 := OwnL.push (E := elCell) h hu hown hg hn
  unfold CRow
  rw [List.length_append]
  refine OwnL.congr h1 fun j hj => ?_
  simp only [List.length_singleton] at hj
  by_cases hjn : j < xs.length
  · rw [if_pos hjn]; simp [hjn, List.getElem?_append_left hjn]
  · obtain rfl : j = xs.length := by omega
    rw [if_neg hjn]; simp
theorem CRow.below {base : Nat} {w w' : World} {v : Value} {xs : List VT} (h : CRow base w v xs) (hb : Below w.heap.size w w') : CRow base w' v xs := OwnL.keep h hb.size fun k _ hl => hb.block k hl
theorem CRow.in_ {base : Nat} {w : World} {v : Value} {xs : List VT} (h : CRow base w v xs) (hn : xs.length ≤ 140737488355328) : ∃ p c, v = .slice p xs.length c ∧ LT.In elCell w (fun b => base ≤ b) ⟨p, xs.length, c, fun j => xs.getD j zC⟩ := OwnL.in_ h hn
theorem getD_nl (xs : List VT) (p : Option Addr) (c : Nat) : LT.nl ⟨p, xs.length, c, fun j => xs.getD j zC⟩ = xs.map VT.norm := by
  unfold LT.nl LT.toL
  congr 1
  apply List.ext_getElem
  · simp
  · intro i h1 h2
    simp at h1
    simp [h1]
/-- while the cells are gathered: a variable of a number and a row -/
structure ApI (W3 wr : World) (O : Nat) (num : Int) (vO : Value) (xs : List VT) : Prop where
  box : Box wr O #[.int .i64 num, vO] 24
  own : CRow W3.heap.size wr vO xs
  but : But (fun b => b = O) W3 wr
  lo : O < W3.heap.size
theorem ApI.below {W3 wr w' : World} {O : Nat} {num : Int} {vO : Value} {xs : List VT} (h : ApI W3 wr O num vO xs) (hb : Below wr.heap.size wr w') : ApI W3 w' O num vO xs := ⟨h.box.below hb, h.own.below hb, h.but.trans (But.ofBelow hb), h.lo⟩
theorem ApI.mid {W3 wr w5 : World} {O : Nat} {num : Int} {vO : Value} {xs : List VT} {o : Obj} (h : ApI W3 wr O num vO xs) (hg : (wr.alloc o).grownBy w5 vO.ownBlock) : Box w5 O #[.int .i64 num, vO] 24 := by
  have hl := h.box.lt
  refine (h.box.below (below1 wr o)).kept (hg.block _ (by simp; omega) fun e => ?_)
  have := (h.own.own.lt _ e.symm).1
  have := h.lo
  omega
theorem ApI.step {W3 wr w5 : World} {O : Nat} {num : Int} {vO v5 : Value} {xs : List VT} {o : Obj} {u : VT} (h : ApI W3 wr O num vO xs) (hu : VT.In wr (fun b => W3.heap.size ≤ b ∧ vO.ownBlock ≠ some b) u)
    (hown : w5.ownsRow W3.heap.size 45 2 v5 (xs.length + 1) (((List.range xs.length).flatMap fun j => elCell.cells (xs.getD j zC)) ++ elCell.cells u)) (hg : (wr.alloc o).grownBy w5 vO.ownBlock) (hn : Near (wr.alloc o) vO v5) : ApI W3 (w5.setCell ⟨O, 1, none⟩ v5) O num v5 (xs ++ [u]) := by
  have hlo := h.lo
  have hbs := h.but.size
  have h1 : CRow W3.heap.size w5 v5 (xs ++ [u]) := (h.own.below (below1 wr o)).push (hu.below (below1 wr o)) hown hg hn
  have hb1 : But (fun q => q = O) w5 (w5.setCell ⟨O, 1, none⟩ v5) := (But.one w5 O).setAt _ _
  refine ⟨by simpa using (h.mid hg).set 1 v5, OwnL.keep h1 hb1.size fun k hk hl => hb1.block k hl (by omega), ?_, hlo⟩
  refine ((h.but.trans (But.ofBelow (below1 wr o))).grown hg fun k hk hl => ?_).trans hb1
  have := (h.own.own.lt k hk).1
  omega
theorem newsC (w : World) (x y : Value) : ∀ j' u', [x, y][j']? = some u' → (w.alloc (.cells #[x, y] 45)).cell? ((⟨w.heap.size, 0, none⟩ : Addr).add j') = some u' := fun j' u' hu => by
  rw [Go.WideShapes.add_plain, (Box.new w #[x, y] 45).cell]
  rw [show 0 + j' = j' by omega]
  simpa using hu
theorem oneC (t : ByteArray) (p : Option Addr) (n c : Nat) : ∀ u ∈ [Value.string t, .slice p n c], u.oneCell' = true := by
  intro u hu
  simp only [List.mem_cons, List.not_mem_nil, or_false] at hu
  rcases hu with rfl | rfl <;> rfl
theorem allK_mem {a b : LT VT} {c d : LT ByteArray} {k : ByteArray} : k ∈ allK a b c d ↔ keyIn a.toL k ∨ keyIn b.toL k ∨ k ∈ c.toL ∨ k ∈ d.toL := by
  unfold allK keyIn
  simp only [List.mem_append, List.mem_map]
  constructor
  · rintro (((h | h) | h) | h)
    · exact .inl h
    · exact .inr (.inl h)
    · exact .inr (.inr (.inl h))
    · exact .inr (.inr (.inr h))
  · rintro (h | h | h | h)
    · exact .inl (.inl (.inl h))
    · exact .inl (.inl (.inr h))
    · exact .inl (.inr h)
    · exact .inr h
theorem keyIn_nl2 {l : LT VT} {k : ByteArray} : keyIn l.nl k ↔ keyIn l.toL k := keyIn_norm
/-- what Apply answers, told by its error -/
theorem applyE_val {sn : Int} {s : LT VT} {d : DT} (h1 : chkState ⟨sn, s.p, s.n, s.c, s.item⟩ = 0) (h2 : chkD d = 0) : ((∃ g ∈ d.gone.toL, ¬ keyIn s.toL g) → applyE sn s d = 110) ∧ ((∀ g ∈ d.gone.toL, keyIn s.toL g) → applyE sn s d = if 64 < (jS s.nl d.gone.toL d.nS).length then 111 else 0) := by
  have hg := aGone_has (chkState_rise h1).1 (chkD_ok h2).gone
  unfold applyE
  rw [if_neg (by simpa using h1), if_neg (by simpa using h2)]
  constructor
  · rintro ⟨g, hg1, hg2⟩
    rw [if_pos]
    rcases Nat.eq_zero_or_pos (aGone s d).length with h | h
    · exact (hg2 (hg.1 h g hg1)).elim
    · exact h
  · intro h
    rw [if_neg (by have := hg.2 h; omega)]
    have e : (aSet s d).length = (jS s.nl d.gone.toL d.nS).length := few_nl s d
    rw [e]
/-- one key of Apply -/
structure ApK (s : LT VT) (d : DT) (K : List ByteArray) : Prop where
  hs : Rise VT.text s.nl
  hd : DOk d
  rK : Rise id K
  mK : ∀ k, k ∈ K ↔ keyIn s.toL k ∨ keyIn d.set.toL k ∨ k ∈ d.gone.toL
theorem ApK.rR {s : LT VT} {d : DT} {K : List ByteArray} (h : ApK s d K) : Rise VT.text (jS s.nl d.gone.toL d.nS) := jS_rise h.hs (nS_rise h.hd.set) h.hd.gone
theorem ApK.inK {s : LT VT} {d : DT} {K : List ByteArray} (h : ApK s d K) : ∀ c ∈ jS s.nl d.gone.toL d.nS, c.text ∈ K := by
  intro c hc
  rw [h.mK]
  rcases (keyIn_jS h.hs (nS_rise h.hd.set) h.hd.gone c.text).1 ⟨c, hc, rfl⟩ with h1 | ⟨h1, _⟩
  · exact .inr (.inl (keyIn_norm.1 h1))
  · exact .inl (keyIn_norm.1 h1)
end Go.Proofs.Ytpknlbibijheaab
