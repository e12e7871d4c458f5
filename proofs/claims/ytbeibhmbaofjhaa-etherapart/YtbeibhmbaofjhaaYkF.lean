import Derived.Test.YtbeibhmbaofjhaaPack8
import Derived.Deep.DeepCutAuto
namespace Go.Proofs.Ytbeibhmbaofjhaa
open Go.RowKit
set_option maxRecDepth 8000
theorem kindBs : ∃ i, Kind 22 51 i (.slice none 0 0) 1 24 := by
  obtain ⟨i0, hi, hz0, hz1, hz2⟩ := info_parts (show (Try.prog.info? 51).map (fun i => (i.zero, i.size, i.bytes)) = some (some (.slice none 0 0), 1, 24) by kernel_rfl)
  exact ⟨i0, Try.underlying22, hi, hz0, hz1, hz2, rfl, by decide⟩
theorem one8 (x : Int) : ∀ u ∈ [Value.int .u8 x], u.oneCell' = true := by
  intro u hu
  obtain rfl := List.mem_singleton.1 hu
  rfl
def Yb.st (b : Yb) (own rd : List YS) : Yb := { b with own := own, rd := rd }
theorem set_by {zs : List Int} {i : Nat} {z : Int} (h : ∀ x ∈ zs, 0 ≤ x ∧ x ≤ 255) (hz : 0 ≤ z ∧ z ≤ 255) : ∀ x ∈ zs.set i z, 0 ≤ x ∧ x ≤ 255 := fun x hx => by
  rcases List.mem_or_eq_of_mem_set hx with hx | rfl
  · exact h x hx
  · exact hz
theorem app_by {zs : List Int} {z : Int} (h : ∀ x ∈ zs, 0 ≤ x ∧ x ≤ 255) (hz : 0 ≤ z ∧ z ≤ 255) : ∀ x ∈ zs ++ [z], 0 ≤ x ∧ x ≤ 255 := fun x hx => by
  rcases List.mem_append.1 hx with hx | hx
  · exact h x hx
  · obtain rfl := List.mem_singleton.1 hx
    exact hz
theorem same_p {w w' : World} {x y : YS} (hx : OwnBy 0 w x.val x.zs) (hl : 0 < x.zs.length) (hy : OwnBy 0 w' y.val y.zs) (e : x.val.ownBlock = y.val.ownBlock) : x.p = y.p := by
  obtain ⟨p, c, zs⟩ := x
  obtain ⟨q, d, ys⟩ := y
  have hl' : 0 < zs.length := hl
  obtain ⟨_, ⟨hv, h0⟩ | ⟨g, cap, cur, hv, _⟩⟩ := hx
  · have h0' : zs.length = 0 := h0
    omega
  · obtain ⟨_, ⟨hv2, h02⟩ | ⟨g2, cap2, cur2, hv2, _⟩⟩ := hy
    · rw [hv, hv2] at e
      cases e
    · rw [hv, hv2] at e
      have hg : g = g2 := by simpa [Value.ownBlock] using e
      simp only [YS.val, Value.slice.injEq] at hv hv2
      show p = q
      rw [hv.1, hv2.1, hg]
/-- behind writeBytes: what was written, and what was laid on behind it, are out; two copies tell of them -/
def WrQ (Z : Nat → Prop) (kb : Nat) (b : Yb) (own : List YS) (w : World) (e : Ending) (w' : World) : Prop :=
  e = .returned (.tuple #[]) ∧ Fr Z w w' ∧ ∃ (xo go xt gt : YS) (F' : Nat → Value) (rd' : List YS), xt.zs = xo.zs ∧ gt.zs = go.zs ∧ (∀ y ∈ b.rd, y ∈ rd') ∧ (xo ∈ rd' ∧ go ∈ rd' ∧ xt ∈ rd' ∧ gt ∈ rd') ∧ (∀ i, i ≠ 0 → i ≠ 1 → F' i = b.F i) ∧
    YbM w' Z kb ⟨F', upd (upd b.X 0 (b.X 0 ++ [xo.val, go.val])) 1 (b.X 1 ++ [xt.val, gt.val]), b.sn, own, rd'⟩
set_option maxHeartbeats 16000000 in
theorem writeBytes_any (Z : Nat → Prop) (kb : Nat) (b : Yb) (A B : List YS) (x : YS) (mark : Int) (w : World) (hM : YbM w Z kb b) (ho : b.own = A ++ x :: B) (hl : x.zs.length ≤ 100000) (h0 : (b.X 0).length ≤ 4000000) (h1 : (b.X 1).length ≤ 4000000) :
    Calls Try.prog 54 #[.pointer (some ⟨kb, 0, none⟩), .slice x.p x.zs.length x.c, .int .i64 mark] w fun e w' => WrQ Z kb b (A ++ B) w e w' := by
  obtain ⟨p, c, zs⟩ := x
  obtain ⟨n, hn⟩ : ∃ n, n = zs.length := ⟨_, rfl⟩
  have hl : n ≤ 100000 := by rw [hn]; exact hl
  have HX := hid (And.intro h0 h1)
  have HM : Hid (YbM w Z kb (b.st (A ++ ⟨p, c, zs⟩ :: B) b.rd)) := by
    show YbM _ _ _ _
    have e : b.st (A ++ ⟨p, c, zs⟩ :: B) b.rd = b := by rw [← ho]; rfl
    rw [e]; exact hM
  have HC : Hid (n ≤ c ∧ c ≤ maxLen ∧ (p = none → c = 0)) := by
    have h := wait_ok (HM.out.cw ⟨p, c, zs⟩ (by simp [Yb.st]))
    exact ⟨by rw [hn]; exact h.nc, h.cc, fun e => (h.nil e).2⟩
  show Calls Try.prog 54 #[.pointer (some ⟨kb, 0, none⟩), .slice p zs.length c, .int .i64 mark] w _
  rw [← hn]
  have HNz := hid hn
  clear hM ho h0 h1 hn
  go_enter Try.func54, Try.ntmps54
  go_wp2_with fail
  go_loopw [6] (fun v wr => ∃ (i : Nat) (zs' : List Int), i ≤ n ∧ v = .int .i64 (i : Int) ∧ n = zs'.length ∧ YbM wr Z kb (b.st (A ++ ⟨p, c, zs'⟩ :: B) b.rd) ∧ Fr Z w wr) (fun v _ => n - (intOf v).toNat)
  case atStart => exact ⟨0, zs, Nat.zero_le _, rfl, HNz.out, HM.out, Fr.refl _ _⟩
  case round =>
    obtain ⟨i, zs1, hi, rfl, hn1, hm, hf⟩ := hrel
    have HN1 := hid hn1
    clear hn1
    have HM1 := hid hm
    have HF1 := hid hf
    clear hm hf HM
    by_cases hlt : i < n
    · as_aux_lemma =>
      have hlt' : (i : Int) < (n : Int) := by omega
      have hcw := HM1.out.cw ⟨p, c, zs1⟩ (by simp [Yb.st])
      obtain ⟨g, o, hp, _, hgl, hat⟩ := (wait_ok hcw).at_ (by show 0 < zs1.length; have := HN1.out; omega)
      have hp' : p = some ⟨g, o, none⟩ := hp
      clear hp
      subst hp'
      obtain ⟨h0, hog, hfz, hput⟩ := own_put hcw.1 rfl
      subst h0
      have HPu := hid hput
      have c0 := hat i (by show i < zs1.length; have := HN1.out; omega)
      have f0 := hfz i
      rw [Nat.zero_add] at c0
      have HOg := hid hog
      have HCw := hid hcw.2
      clear hat hfz hput hcw hog
      go_wp2
      go_roundw
      case rel =>
        have hch := HM1.out.chg (A := A) (B := B) (x := ⟨some ⟨g, 0, none⟩, c, zs1⟩) rfl (x' := ⟨some ⟨g, 0, none⟩, c, zs1.set i (wrap64 (mark + 3 * (i : Int)) % 256)⟩) (HPu.out i (wrap64 (mark + 3 * (i : Int)) % 256)) (set_by HCw.out.1 (by omega)) (by show (zs1.set i _).length ≤ _; rw [List.length_set]; exact HCw.out.2) ((But.refl _ _).setCell (p := ⟨g, i, none⟩) (fun _ => ob_mem.2 rfl) _) (fun k hk => .inl hk)
        exact ⟨i + 1, zs1.set i (wrap64 (mark + 3 * (i : Int)) % 256), by omega, by go_num, by rw [List.length_set]; exact HN1.out, hch.1, HF1.out.trans hch.2⟩
      case measure => simp [intOf]; omega
    · as_aux_lemma =>
      have hlt' : ¬ (i : Int) < (n : Int) := by omega
      have hv1 : (Value.slice p n c) = YS.val ⟨p, c, zs1⟩ := by rw [HN1.out]; rfl
      have HV1 := hid hv1
      clear hv1
      go_upto_region 5 with fail
      go_wp2_with fail
      go_loopw [7, 8] (fun v x wr => ∃ (m : Nat) (y : YS) (R : List YS), m ≤ 150 ∧ x = .int .i64 (m : Int) ∧ v = y.val ∧ y.zs.length = n + m ∧ YbM wr Z kb (b.st (A ++ y :: B) (b.rd ++ R)) ∧ Fr Z w wr ∧ ((y.p = p ∧ y.zs.take n = zs1 ∧ R = []) ∨ R = [⟨p, c, zs1⟩])) (fun _ x _ => 150 - (intOf x).toNat)
      case atStart => exact ⟨0, ⟨p, c, zs1⟩, [], Nat.zero_le _, rfl, HV1.out, HN1.out.symm, by rw [List.append_nil]; exact HM1.out, HF1.out, .inl ⟨rfl, by rw [HN1.out, List.take_length], rfl⟩⟩
      case round =>
        obtain ⟨m, y, R, hm, rfl, rfl, hyl, hmm, hf2, hR⟩ := hrel
        have HM2 := hid hmm
        have HF2 := hid hf2
        clear hmm hf2 HM1 HF1 HV1
        by_cases hlm : m < 150
        · as_aux_lemma =>
          have hlt' : (m : Int) < 150 := by omega
          have hcw := HM2.out.cw y (by simp [Yb.st])
          have HRow := hid hcw.1
          have HCw := hid hcw.2
          clear hcw
          obtain ⟨z, hz⟩ : ∃ z, z = wrap64 (wrap64 (mark + 6) + 5 * (m : Int)) % 256 := ⟨_, rfl⟩
          have hzb : 0 ≤ z ∧ z ≤ 255 := by omega
          obtain ⟨i0, Kd⟩ := kindB
          go_wp2_with (at_builtin; refine wpList_app2 rfl (.tmp 28) (.tmp 35) 51 5 i0 _ 1 1 Kd rfl 0 y.val (n + m) (y.zs.map (.int .u8)) rfl (by have h := HRow.out; unfold OwnBy at h; rw [hyl] at h; exact h.alloc _) ⟨wr.heap.size, 0, none⟩ 1 1 [.int .u8 z] rfl rfl (by rw [hz]; exact cell_one_new _ _ _) (one8 _) (by omega) (by omega) (Nat.zero_le _) ?_)
          intro v' w' hown hg
          rw [← hz] at hown hg
          obtain ⟨p', c', hv'⟩ := row_val hown
          obtain ⟨y', hy'⟩ : ∃ y' : YS, y' = ⟨p', c', y.zs ++ [z]⟩ := ⟨_, rfl⟩
          have hyv : y'.val = v' := by rw [hy', hv']; show Value.slice p' (y.zs ++ [z]).length c' = _; rw [List.length_append, hyl]; rfl
          have hyz : y'.zs = y.zs ++ [z] := by rw [hy']
          have hol : OwnBy 0 w' y'.val y'.zs := by
            unfold OwnBy
            rw [hyv, hyz, List.length_append, List.map_append, hyl]
            exact hown
          have hbt : But (fun k => k ∈ ob y.val) wr w' := by
            refine ((But.refl _ wr).alloc (.cells #[.int .u8 z] 5)).grown (row := y.val.ownBlock) ?_ fun k hk _ => ob_mem.2 hk
            rcases hg with ⟨_, hg⟩ | ⟨hg, _⟩
            · exact hg
            · exact grownBy_any hg _
          have hnear : ∀ k ∈ ob y'.val, k ∈ ob y.val ∨ wr.heap.size ≤ k := fun k hk => by
            rw [hyv] at hk
            rcases hg with ⟨e, _⟩ | ⟨_, e⟩
            · exact .inl (ob_mem.2 (e ▸ ob_mem.1 hk))
            · have := e k (ob_mem.1 hk)
              exact .inr (by omega)
          have hch := HM2.out.chg (A := A) (B := B) (x := y) rfl (x' := y') hol (by rw [hyz]; exact app_by HCw.out.1 hzb) (by rw [hyz, List.length_append, hyl]; show n + m + 1 ≤ _; omega) hbt hnear
          have HF3 : Hid (Fr Z w w') := HF2.out.trans hch.2
          have HN : Hid (∃ R', YbM w' Z kb (b.st (A ++ y' :: B) (b.rd ++ R')) ∧ ((y'.p = p ∧ y'.zs.take n = zs1 ∧ R' = []) ∨ R' = [⟨p, c, zs1⟩])) := by
            rcases hR with ⟨hp, htk, hr⟩ | hr
            · subst hr
              rcases hg with ⟨e, _⟩ | ⟨hg, hnew⟩
              · refine ⟨[], hch.1, .inl ⟨?_, ?_, rfl⟩⟩
                · rw [← hyv] at e
                  rw [← hp]
                  exact same_p hol (by rw [hyz, List.length_append]; simp) HRow.out e
                · rw [hyz, List.take_append_of_le_length (by omega)]
                  exact htk
              · have hfr := HM2.out.chg_free (A := A) (B := B) (x := y) rfl (x' := y') fun k hk => by
                  have := hnew k (ob_mem.1 (hyv ▸ hk))
                  omega
                have hok : YS.ok wr ⟨p, c, zs1⟩ := by
                  have h := prefix_ok (wait_ok ⟨HRow.out, HCw.out⟩) (n := n) (c := c) (by omega) HC.out.1 HC.out.2.1 (by rw [hp]; exact HC.out.2.2)
                  rw [htk, hp] at h
                  exact h
                have hblk : ∀ k, YS.blk ⟨p, c, zs1⟩ k → k ∈ ob y.val := fun k hk => blk_ob2 hk hp
                have hrd := hch.1.read (x := ⟨p, c, zs1⟩) (YS.ok_kept hok hbt.size fun k hk hl => (hg.block k (Nat.lt_of_lt_of_le hl ((Below.refl wr.heap.size wr).alloc (Nat.le_refl _) _).size) (by simp)).trans (((Below.refl wr.heap.size wr).alloc (Nat.le_refl _) _).block k hl)) fun k hk => hfr k (hblk k hk)
                have er : (b.rd ++ []) ++ [(⟨p, c, zs1⟩ : YS)] = b.rd ++ [⟨p, c, zs1⟩] := by simp
                refine ⟨[⟨p, c, zs1⟩], ?_, .inr rfl⟩
                rw [← er]
                exact hrd
            · exact ⟨R, hch.1, .inr hr⟩
          have hyl' : y'.zs.length = n + (m + 1) := by rw [hyz, List.length_append, hyl]; rfl
          rw [← hyv]
          clear hch hnear hbt hol hg hown hv' hy' hyz hyv HRow HCw
          go_wp2
          go_roundw
          case rel =>
            obtain ⟨R', hm', hR'⟩ := HN.out
            exact ⟨m + 1, y', R', by omega, by go_num, rfl, hyl', hm', HF3.out, hR'⟩
          case measure => simp [intOf]; omega
        · as_aux_lemma =>
          have hlm' : ¬ (m : Int) < 150 := by omega
          obtain rfl : m = 150 := by omega
          obtain ⟨q, d, ys⟩ := y
          change ys.length = n + 150 at hyl
          have hcw := HM2.out.cw ⟨q, d, ys⟩ (by simp [Yb.st])
          obtain ⟨hu1, hu2⟩ := HM2.out.unown (A := A) (B := B) (x := ⟨q, d, ys⟩) rfl
          have hgo := wait_ok hcw
          have h3 := hu1.read (x := ⟨q, d, ys⟩) hgo fun k hk => hu2 k (blk_ob hk)
          have HE : Hid (∃ rd3 : List YS, YbM wr Z kb (b.st (A ++ B) rd3) ∧ (∀ y ∈ b.rd, y ∈ rd3) ∧ (⟨p, c, zs1⟩ : YS) ∈ rd3 ∧ (⟨q, d, ys⟩ : YS) ∈ rd3) := by
            rcases hR with ⟨hp, htk, hr⟩ | hr
            · subst hr
              have hok : YS.ok wr ⟨p, c, zs1⟩ := by
                have h := prefix_ok hgo (n := n) (c := c) (by show n ≤ ys.length; omega) HC.out.1 HC.out.2.1 (by rw [hp]; exact HC.out.2.2)
                rw [htk, hp] at h
                exact h
              exact ⟨_, h3.read (x := ⟨p, c, zs1⟩) hok fun k hk => hu2 k (blk_ob2 hk hp), fun y hy => by simp [Yb.st, hy], by simp [Yb.st], by simp [Yb.st]⟩
            · subst hr
              exact ⟨_, h3, fun y hy => by simp [Yb.st, hy], by simp [Yb.st], by simp [Yb.st]⟩
          obtain ⟨rd3, hm3, hs3, hx3, hy3⟩ := HE.out
          have HM3 := hid hm3
          have HR3 := hid (And.intro hs3 (And.intro hx3 hy3))
          have HYl := hid hyl
          simp only [YS.val]
          have hrow0 : wr.ownsRow 0 22 1 (b.F 0) (b.X 0).length (b.X 0) ∨ True := .inr trivial
          obtain ⟨pF, cF, hF0⟩ := row_val (hm3.row 0 (by decide))
          have hF0 : b.F 0 = .slice pF (b.X 0).length cF := hF0
          have HRow0 : Hid (wr.ownsRow 0 51 1 (.slice pF (b.X 0).length cF) (b.X 0).length (b.X 0)) := by
            have h := hm3.row 0 (by decide)
            show World.ownsRow _ _ _ _ _ _ _
            rw [← hF0]
            exact h
          have HF0 := hid hF0
          have b2 := hm3.bx.cell 2
          have bl := hm3.bx.lt
          have b2' : wr.cell? ⟨kb, 2, none⟩ = some (.slice pF (b.X 0).length cF) := by rw [← hF0]; exact b2.trans rfl
          obtain ⟨i1, Kd1⟩ := kindBs
          have HKd1 := hid Kd1
          have h00 := HX.out.1
          clear b2 hcw hu1 hu2 hgo h3 HE hm3 hs3 hx3 hy3 hrow0 hR Kd1 hyl hF0
          go_wp2_with (at_builtin; refine wpList_app rfl (.tmp 41) (.tmp 44) 22 51 i1 _ 1 24 HKd1.out rfl 0 (.slice pF (b.X 0).length cF) (b.X 0).length (b.X 0) rfl (HRow0.out.alloc _) ⟨wr.heap.size, 0, none⟩ 2 2 [.slice p n c, .slice q ys.length d] rfl rfl (two_new _ _ _ _) (one_slices _ _ _ _ _ _) (by omega) (by omega) (Nat.zero_le _) ?_)
          intro v4 w3 hown4 hg4 hn4
          rw [← HF0.out] at hg4 hn4
          obtain ⟨pv, cv, hv4⟩ := row_val hown4
          subst hv4
          have hba : But (fun k => k ∈ ob (b.F 0)) wr w3 := ((But.refl _ wr).alloc (.cells #[.slice p n c, .slice q ys.length d] 51)).grown hg4 fun k hk _ => ob_mem.2 hk
          have hnk : ∀ k ∈ ob (.slice pv ((b.X 0).length + 2) cv), k ∈ ob (b.F 0) ∨ wr.heap.size ≤ k := fun k hk => by
            rcases hn4 with e | e
            · exact .inl (ob_mem.2 (e ▸ ob_mem.1 hk))
            · have := e k (ob_mem.1 hk)
              exact .inr (by simp only [World.size_alloc] at this; omega)
          have hnx : (⟨p, c, zs1⟩ : YS).val = .slice p n c := by rw [HN1.out]; rfl
          have hput := HM3.out.put (i := 0) (by decide) (v' := .slice pv ((b.X 0).length + 2) cv) (xs' := b.X 0 ++ [.slice p n c, .slice q ys.length d]) (w2 := w3) (by rw [List.length_append]; exact hown4) hba hnk
          have hbx3 := HM3.out.bx.kept (hba.block kb HM3.out.bx.lt (HM3.out.d1 0 (by decide)))
          have b3 : w3.cell? ⟨kb, 2, none⟩ = some (.slice pF (b.X 0).length cF) := by rw [← HF0.out]; exact (hbx3.cell 2).trans rfl
          have f3 := hbx3.frozen 2
          have bl3 := hbx3.lt
          have HPu := hid hput
          clear hput hbx3 hba hnk hown4 hg4 hn4 b2' bl HRow0
          go_upto_region 10 with fail
          clear b3 f3 bl3
          obtain ⟨w4, hw4⟩ : ∃ W, W = w3.setCell ⟨kb, 2, none⟩ (.slice pv ((b.X 0).length + 2) cv) := ⟨_, rfl⟩
          have hPu := HPu.out
          rw [show (0 : Nat) + 2 = 2 from rfl, ← hw4] at hPu
          rw [← hw4]
          clear hw4 HPu
          have HM4 := hid hPu.1
          have HF4 : Hid (Fr Z w w4) := HF2.out.trans hPu.2
          obtain ⟨pG, cG, hG0⟩ := row_val (hPu.1.row 1 (by decide))
          have hG0 : b.F 1 = .slice pG (b.X 1).length cG := hG0
          have HG0 := hid hG0
          have q3 : w4.cell? ⟨kb, 3, none⟩ = some (.slice pG (b.X 1).length cG) := by rw [← hG0]; exact (hPu.1.bx.cell 3).trans rfl
          have ql := hPu.1.bx.lt
          clear hPu HM3 hG0
          obtain ⟨i0, Kd0⟩ := kindB
          have HKd0 := hid Kd0
          clear Kd0
          have HXs : Hid (∀ W, Below w4.heap.size w4 W → Src W p n c 1 (zs1.map (.int .u8))) := by
            intro W hW
            have h := ok_src ((HM4.out.below hW).cc ⟨p, c, zs1⟩ HR3.out.2.1)
            rw [HN1.out]
            exact h
          have HYs : Hid (∀ W, Below w4.heap.size w4 W → Src W q ys.length d 1 (ys.map (.int .u8))) := fun W hW => ok_src ((HM4.out.below hW).cc ⟨q, d, ys⟩ HR3.out.2.2)
          have HXo := hid ((HM4.out.cc ⟨p, c, zs1⟩ HR3.out.2.1).fit)
          have HYo := hid ((HM4.out.cc ⟨q, d, ys⟩ HR3.out.2.2).fit)
          have HEnd : Hid (∀ (wC : World) (p7 : Option Addr) (c7 : Nat) (p9 : Option Addr) (c9 : Nat), Below w4.heap.size w4 wC → OwnBy 0 wC (.slice p7 n c7) zs1 → OwnBy 0 wC (.slice p9 ys.length c9) ys → (∀ k ∈ ob (.slice p7 n c7), w4.heap.size ≤ k) → (∀ k ∈ ob (.slice p9 ys.length c9), w4.heap.size ≤ k) →
              YbM wC Z kb ⟨upd b.F 0 (.slice pv ((b.X 0).length + 2) cv), upd b.X 0 (b.X 0 ++ [.slice p n c, .slice q ys.length d]), b.sn, A ++ B, rd3 ++ [⟨p7, c7, zs1⟩] ++ [⟨p9, c9, ys⟩]⟩) := by
            intro wC p7 c7 p9 c9 hC h7 h9 g7 g9
            have hM := HM4.out.below hC
            have by1 : ∀ z ∈ zs1, 0 ≤ z ∧ z ≤ 255 := fun z hz => by
              obtain ⟨j, hj, rfl⟩ := List.getElem_of_mem hz
              have h := HXo.out j hj
              simp only [List.getD_eq_getElem?_getD, List.getElem?_eq_getElem hj, Option.getD_some] at h
              omega
            have by2 : ∀ z ∈ ys, 0 ≤ z ∧ z ≤ 255 := fun z hz => by
              obtain ⟨j, hj, rfl⟩ := List.getElem_of_mem hz
              have h := HYo.out j hj
              simp only [List.getD_eq_getElem?_getD, List.getElem?_eq_getElem hj, Option.getD_some] at h
              omega
            have k7 : (⟨p7, c7, zs1⟩ : YS).val = .slice p7 n c7 := by rw [HN1.out]; rfl
            have o7 : YS.ok wC ⟨p7, c7, zs1⟩ := wait_ok ⟨by rw [k7]; exact h7, by1, by show zs1.length ≤ _; have := HN1.out; omega⟩
            have o9 : YS.ok wC ⟨p9, c9, ys⟩ := wait_ok ⟨h9, by2, by show ys.length ≤ _; have := HYl.out; omega⟩
            have fr : ∀ k, w4.heap.size ≤ k → k ∉ Yb.hot (Yb.put (b.st (A ++ B) rd3) 0 (.slice pv ((b.X 0).length + 2) cv) (b.X 0 ++ [.slice p n c, .slice q ys.length d])) kb ∧ ¬ Z k := fun k hk => ⟨fun e => by have := HM4.out.hot_lt e; omega, fun e => by have := HM4.out.zl k e; omega⟩
            have h1 := hM.read o7 fun k hk => fr k (g7 k (by have h := blk_ob hk; rw [k7] at h; exact h))
            exact h1.read o9 fun k hk => fr k (g9 k (blk_ob hk))
          refine wp_region_calmE 30 (fun wx => Below w4.heap.size w4 wx) [(0, true), (1, true), (2, true), (3, true), (4, false), (6, true), (9, true)] (.two 5 true [] (.two 7 true [] (.one 8 true [] (.one 10 true [] (.one 11 true [] (.one 12 false [(13, true), (14, true)] (.one 15 false [] .done))))) 8 true [] (.one 7 true [] (.one 10 true [] (.one 11 true [] (.one 12 false [(13, true), (14, true)] (.one 15 false [] .done)))))) 8 true [] (.one 5 true [] (.one 7 true [] (.one 10 true [] (.one 11 true [] (.one 12 false [(13, true), (14, true)] (.one 15 false [] .done))))))) (by kernel_rfl) (by kernel_rfl) (Below.refl _ _).drew ?_
          refine wpPre_e rfl rfl (fun K1 hK1 => ?_)
          apply Exists.intro
          refine And.intro (fun wx hx => ?_) ?_
          · go_simp
            try rfl
          go_simp
          refine hK1 _ ?_
          clear hK1 K1
          refine wpPre_e rfl rfl (fun K1 hK1 => ?_)
          apply Exists.intro
          refine And.intro (fun wx hx => ?_) ?_
          · go_simp
            try rfl
          go_simp
          refine hK1 _ ?_
          clear hK1 K1
          refine wpPre_e rfl rfl (fun K1 hK1 => ?_)
          apply Exists.intro
          refine And.intro (fun wx hx => ?_) ?_
          · go_simp
            try rfl
          go_simp
          refine hK1 _ ?_
          clear hK1 K1
          refine wpPre_e rfl rfl (fun K1 hK1 => ?_)
          apply Exists.intro
          refine And.intro (fun wx hx => ?_) ?_
          · go_simp
            try rfl
          go_simp
          refine hK1 _ ?_
          clear hK1 K1
          refine wpPre_e rfl rfl (fun K1 hK1 => ?_)
          apply Exists.intro
          refine And.intro (fun wx hx => ?_) ?_
          · have e0 := below_fact hx rfl q3
            go_simp
            try rfl
          go_simp
          refine hK1 _ ?_
          clear hK1 K1
          refine wpPre_e rfl rfl (fun K1 hK1 => ?_)
          apply Exists.intro
          refine And.intro (fun wx hx => ?_) ?_
          · go_simp
            try rfl
          go_simp
          refine hK1 _ ?_
          clear hK1 K1
          refine wpPre_e rfl rfl (fun K1 hK1 => ?_)
          apply Exists.intro
          refine And.intro (fun wx hx => ?_) ?_
          · go_simp
            try rfl
          go_simp
          refine hK1 _ ?_
          clear hK1 K1
          refine wpPre_nil ?_
          refine wpTr_two rfl rfl (fun K1 hK1 => ?_) (fun K1 hK1 => ?_)
          · go_simp
            obtain ⟨x1, hx1⟩ : ∃ V, V = (w4.alloc (.cells #[] 5)).drew := ⟨_, rfl⟩
            rw [← hx1]
            have HBs1 : Hid (Below w4.heap.size w4 x1) := by show Below _ _ _; rw [hx1]; exact ((Below.refl _ _).alloc (Nat.le_refl _) _).drew
            have HZr1 : Hid (x1.ownsRow 0 5 1 (.slice (some ⟨w4.heap.size, 0, none⟩) 0 0) 0 []) := by show World.ownsRow _ _ _ _ _ _ _; rw [hx1]; exact row_zero w4
            have HSz1 : Hid (x1.heap.size = w4.heap.size + 1) := by show _ = _; rw [hx1]; show (World.alloc _ _).heap.size = _; rw [World.size_alloc]
            have HBw1 : Hid (Below w4.heap.size w4 x1) := ((Below.refl w4.heap.size w4)).trans (HBs1.out.mono ((Below.refl w4.heap.size w4)).size)
            have HGe1 : Hid (w4.heap.size ≤ w4.heap.size) := ((Below.refl w4.heap.size w4)).size
            clear hx1
            refine hK1 _ _ (fun _ => HBw1.out) ?_
            clear hK1 K1
            refine wpPre_nil ?_
            refine wpTr_two rfl rfl (fun K1 hK1 => ?_) (fun K1 hK1 => ?_)
            · refine step_appS rfl (.tmp 53) (.tmp 54) 51 5 i0 _ 1 1 HKd0.out rfl 0 (.slice (some ⟨w4.heap.size, 0, none⟩) 0 0) 0 [] rfl (HZr1.out) p n c (zs1.map (.int .u8)) rfl (HXs.out _ (HBw1.out)) (one_u8 _) (by have := HYl.out; omega) (by have := HYl.out; omega) (Nat.zero_le _) ?_
              intro v2 x2 ho2 hg2 hn2
              rw [Nat.zero_add, List.nil_append] at ho2
              obtain ⟨p2, c2, hv2⟩ := row_val ho2
              subst hv2
              have HO2 : Hid (OwnBy 0 x2 (.slice p2 n c2) zs1) := by show World.ownsRow _ _ _ _ _ _ _; rw [← HN1.out]; exact ho2
              have HG2 := hid hg2
              have HBw2 : Hid (Below w4.heap.size w4 x2) := by
                show Below _ _ _
                refine Below.grown (HBw1.out) hg2 (HBw1.out).size (fun k hk => ?_)
                have hk2 : w4.heap.size = k := by simpa [Value.ownBlock] using hk
                have h3 := HGe1.out
                omega
              have HN2 : Hid (∀ k ∈ ob (.slice p2 n c2), k = w4.heap.size ∨ x1.heap.size ≤ k) := by
                intro k hk
                rcases hn2 with e | e
                · rw [ob_mem, e] at hk
                  have hk2 : w4.heap.size = k := by simpa [Value.ownBlock] using hk
                  exact .inl hk2.symm
                · exact .inr (e k (ob_mem.1 hk))
              have HGe2 : Hid (∀ k ∈ ob (.slice p2 n c2), w4.heap.size ≤ k) := by
                intro k hk
                have h3 := HGe1.out
                have h4 := (HBw1.out).size
                rcases HN2.out k hk with e | e <;> omega
              have HLt2 : Hid (∀ k ∈ ob (.slice p2 n c2), k < x2.heap.size) := fun k hk => own_lt HO2.out hk
              clear ho2 hg2 hn2
              refine hK1 _ _ (fun _ => HBw2.out) ?_
              clear hK1 K1
              refine wpPre_nil ?_
              refine wpTr_e rfl (fun K1 hK1 => ?_)
              go_simp
              obtain ⟨x3, hx3⟩ : ∃ V, V = (x2.alloc (.cells #[] 5)) := ⟨_, rfl⟩
              rw [← hx3]
              have HBs3 : Hid (Below x2.heap.size x2 x3) := by show Below _ _ _; rw [hx3]; exact ((Below.refl _ _).alloc (Nat.le_refl _) _)
              have HZr3 : Hid (x3.ownsRow 0 5 1 (.slice (some ⟨x2.heap.size, 0, none⟩) 0 0) 0 []) := by show World.ownsRow _ _ _ _ _ _ _; rw [hx3]; exact row_zero x2
              have HSz3 : Hid (x3.heap.size = x2.heap.size + 1) := by show _ = _; rw [hx3]; rw [World.size_alloc]
              have HBw3 : Hid (Below w4.heap.size w4 x3) := (HBw2.out).trans (HBs3.out.mono (HBw2.out).size)
              have HGe3 : Hid (w4.heap.size ≤ x2.heap.size) := (HBw2.out).size
              clear hx3
              refine hK1 _ _ (fun _ => HBw3.out) ?_
              clear hK1 K1
              refine wpPre_nil ?_
              refine wpTr_e rfl (fun K1 hK1 => ?_)
              have NE4 : ∀ k, some k = (Value.slice (some ⟨x2.heap.size, 0, none⟩) 0 0).ownBlock → k ∈ ob (.slice p2 n c2) → False := by
                intro k e hk
                have h7 : k = x2.heap.size := by simpa [Value.ownBlock] using e
                have l7 := HLt2.out k hk
                have s1 := HSz1.out
                have s3 := HSz3.out
                rcases HN2.out k hk with e7 | e7 <;> omega
              refine step_appS rfl (.tmp 56) (.tmp 57) 51 5 i0 _ 1 1 HKd0.out rfl 0 (.slice (some ⟨x2.heap.size, 0, none⟩) 0 0) 0 [] rfl (HZr3.out) q ys.length d (ys.map (.int .u8)) rfl (HYs.out _ (HBw3.out)) (one_u8 _) (by have := HYl.out; omega) (by have := HYl.out; omega) (Nat.zero_le _) ?_
              intro v4 x4 ho4 hg4 hn4
              rw [Nat.zero_add, List.nil_append] at ho4
              obtain ⟨p4, c4, hv4⟩ := row_val ho4
              subst hv4
              have HO4 : Hid (OwnBy 0 x4 (.slice p4 ys.length c4) ys) := by show World.ownsRow _ _ _ _ _ _ _; exact ho4
              have HG4 := hid hg4
              have HBw4 : Hid (Below w4.heap.size w4 x4) := by
                show Below _ _ _
                refine Below.grown (HBw3.out) hg4 (HBw3.out).size (fun k hk => ?_)
                have hk2 : x2.heap.size = k := by simpa [Value.ownBlock] using hk
                have h3 := HGe3.out
                omega
              have HN4 : Hid (∀ k ∈ ob (.slice p4 ys.length c4), k = x2.heap.size ∨ x3.heap.size ≤ k) := by
                intro k hk
                rcases hn4 with e | e
                · rw [ob_mem, e] at hk
                  have hk2 : x2.heap.size = k := by simpa [Value.ownBlock] using hk
                  exact .inl hk2.symm
                · exact .inr (e k (ob_mem.1 hk))
              have HGe4 : Hid (∀ k ∈ ob (.slice p4 ys.length c4), w4.heap.size ≤ k) := by
                intro k hk
                have h3 := HGe3.out
                have h4 := (HBw3.out).size
                rcases HN4.out k hk with e | e <;> omega
              have HLt4 : Hid (∀ k ∈ ob (.slice p4 ys.length c4), k < x4.heap.size) := fun k hk => own_lt HO4.out hk
              clear ho4 hg4 hn4
              refine hK1 _ _ (fun _ => HBw4.out) ?_
              clear hK1 K1
              refine wpPre_nil ?_
              refine wpTr_e rfl (fun K1 hK1 => ?_)
              have hE := HEnd.out x4 p2 c2 p4 c4 (HBw4.out) ((own_kept ((own_kept (HO2.out) fun k hk => HBs3.out.block k (own_lt (HO2.out) hk))) fun k hk => HG4.out.block k (own_lt ((own_kept (HO2.out) fun k hk => HBs3.out.block k (own_lt (HO2.out) hk))) hk) fun e => by exact NE4 k e hk)) (HO4.out) (HGe2.out) (HGe4.out)
              have HM5 := hid hE
              have HRow1 : Hid (x4.ownsRow 0 51 1 (.slice pG (b.X 1).length cG) (b.X 1).length (b.X 1)) := by
                have h := hE.row 1 (by decide)
                show World.ownsRow _ _ _ _ _ _ _
                rw [← HG0.out]
                exact h
              have h01 := HX.out.2
              clear hE
              go_simp
              refine hK1 _ _ (fun _ => (HBw4.out).trans ((((Below.refl _ _).alloc (Nat.le_refl _) _)).mono (HBw4.out).size)) ?_
              clear hK1 K1
              refine wpPre_nil ?_
              refine wpTr_e rfl (fun K1 hK1 => ?_)
              refine step_app rfl (.tmp 52) (.tmp 59) 22 51 i1 _ 1 24 HKd1.out rfl 0 (.slice pG (b.X 1).length cG) (b.X 1).length (b.X 1) rfl (HRow1.out.alloc _) ⟨x4.heap.size, 0, none⟩ 2 2 [.slice p2 n c2, .slice p4 ys.length c4] rfl rfl (two_new _ _ _ _) (one_slices _ _ _ _ _ _) (by omega) (by omega) (Nat.zero_le _) ?_
              intro v6 y6 ho6 hg6 hn6
              rw [← HG0.out] at hg6 hn6
              obtain ⟨pw, cw, hv6⟩ := row_val ho6
              subst hv6
              have hba : But (fun k => k ∈ ob (b.F 1)) x4 y6 := ((But.refl _ x4).alloc (.cells #[.slice p2 n c2, .slice p4 ys.length c4] 51)).grown hg6 fun k hk _ => ob_mem.2 hk
              have hnk : ∀ k ∈ ob (.slice pw ((b.X 1).length + 2) cw), k ∈ ob (b.F 1) ∨ x4.heap.size ≤ k := fun k hk => by
                rcases hn6 with e | e
                · exact .inl (ob_mem.2 (e ▸ ob_mem.1 hk))
                · have := e k (ob_mem.1 hk)
                  exact .inr (by simp only [World.size_alloc] at this; omega)
              have hput := HM5.out.put (i := 1) (by decide) (v' := .slice pw ((b.X 1).length + 2) cw) (xs' := b.X 1 ++ [.slice p2 n c2, .slice p4 ys.length c4]) (w2 := y6) (by rw [List.length_append]; exact ho6) hba hnk
              have hbx3 := HM5.out.bx.kept (hba.block kb HM5.out.bx.lt (HM5.out.d1 1 (by decide)))
              have b6 : y6.cell? ⟨kb, 3, none⟩ = some (.slice pG (b.X 1).length cG) := by rw [← HG0.out]; exact (hbx3.cell 3).trans rfl
              have f6 := hbx3.frozen 3
              have bl6 := hbx3.lt
              have HPu := hid hput
              have HF6 : Hid (Fr Z w x4) := HF4.out.trans (Fr.below (HBw4.out))
              clear hput hbx3 hba hnk ho6 hg6 hn6
              refine hK1 _ _ (fun h => by cases h) ?_
              clear hK1 K1
              refine wpPre_e rfl rfl (fun K1 hK1 => ?_)
              apply Exists.intro
              refine And.intro (fun wx hx => ?_) ?_
              · go_simp
                try rfl
              go_simp
              refine hK1 _ ?_
              clear hK1 K1
              refine wpPre_e rfl rfl (fun K1 hK1 => ?_)
              apply Exists.intro
              refine And.intro (fun wx hx => ?_) ?_
              · go_simp
                try rfl
              go_simp
              refine hK1 _ ?_
              clear hK1 K1
              refine wpPre_nil ?_
              refine wpTr_e rfl (fun K1 hK1 => ?_)
              go_simp
              refine hK1 _ _ (fun h => by cases h) ?_
              clear hK1 K1
              refine wpPre_nil ?_
              refine wpTr_done ?_
              go_wp2
              refine bodyPost_ret (v := .tuple #[]) (by simp [results, Try.results54, go_sem]) rfl ?_
              refine ⟨rfl, HF6.out.trans HPu.out.2, ⟨p, c, zs1⟩, ⟨q, d, ys⟩, ⟨p2, c2, zs1⟩, ⟨p4, c4, ys⟩, upd (upd b.F 0 (.slice pv ((b.X 0).length + 2) cv)) 1 (.slice pw ((b.X 1).length + 2) cw), rd3 ++ [⟨p2, c2, zs1⟩] ++ [⟨p4, c4, ys⟩], rfl, rfl, fun y hy => by simp [HR3.out.1 y hy], ⟨by simp [HR3.out.2.1], by simp [HR3.out.2.2], by simp, by simp⟩, fun i h1 h2 => (upd_ne _ _ h2).trans (upd_ne _ _ h1), ?_⟩
              have h := HPu.out.1
              have e1 : (⟨p, c, zs1⟩ : YS).val = .slice p n c := by rw [HN1.out]; rfl
              have e2 : (⟨p2, c2, zs1⟩ : YS).val = .slice p2 n c2 := by rw [HN1.out]; rfl
              rw [e1, e2]
              exact h
            · go_simp
              obtain ⟨x8, hx8⟩ : ∃ V, V = (x1.alloc (.cells #[] 5)) := ⟨_, rfl⟩
              rw [← hx8]
              have HBs8 : Hid (Below x1.heap.size x1 x8) := by show Below _ _ _; rw [hx8]; exact ((Below.refl _ _).alloc (Nat.le_refl _) _)
              have HZr8 : Hid (x8.ownsRow 0 5 1 (.slice (some ⟨x1.heap.size, 0, none⟩) 0 0) 0 []) := by show World.ownsRow _ _ _ _ _ _ _; rw [hx8]; exact row_zero x1
              have HSz8 : Hid (x8.heap.size = x1.heap.size + 1) := by show _ = _; rw [hx8]; rw [World.size_alloc]
              have HBw8 : Hid (Below w4.heap.size w4 x8) := (HBw1.out).trans (HBs8.out.mono (HBw1.out).size)
              have HGe8 : Hid (w4.heap.size ≤ x1.heap.size) := (HBw1.out).size
              clear hx8
              refine hK1 _ _ (fun _ => HBw8.out) ?_
              clear hK1 K1
              refine wpPre_nil ?_
              refine wpTr_e rfl (fun K1 hK1 => ?_)
              have NE9 : ∀ k, some k = (Value.slice (some ⟨w4.heap.size, 0, none⟩) 0 0).ownBlock → k ∈ ob (.slice (some ⟨x1.heap.size, 0, none⟩) 0 0) → False := by
                intro k e hk
                have h5 : x1.heap.size = k := by have h6 := ob_mem.1 hk; simpa [Value.ownBlock] using h6
                have h7 : k = w4.heap.size := by simpa [Value.ownBlock] using e
                have s1 := HSz1.out
                have s8 := HSz8.out
                omega
              refine step_appS rfl (.tmp 53) (.tmp 54) 51 5 i0 _ 1 1 HKd0.out rfl 0 (.slice (some ⟨w4.heap.size, 0, none⟩) 0 0) 0 [] rfl ((own_kept (HZr1.out) fun k hk => HBs8.out.block k (own_lt (HZr1.out) hk))) p n c (zs1.map (.int .u8)) rfl (HXs.out _ (HBw8.out)) (one_u8 _) (by have := HYl.out; omega) (by have := HYl.out; omega) (Nat.zero_le _) ?_
              intro v9 x9 ho9 hg9 hn9
              rw [Nat.zero_add, List.nil_append] at ho9
              obtain ⟨p9, c9, hv9⟩ := row_val ho9
              subst hv9
              have HO9 : Hid (OwnBy 0 x9 (.slice p9 n c9) zs1) := by show World.ownsRow _ _ _ _ _ _ _; rw [← HN1.out]; exact ho9
              have HG9 := hid hg9
              have HBw9 : Hid (Below w4.heap.size w4 x9) := by
                show Below _ _ _
                refine Below.grown (HBw8.out) hg9 (HBw8.out).size (fun k hk => ?_)
                have hk2 : w4.heap.size = k := by simpa [Value.ownBlock] using hk
                have h3 := HGe1.out
                omega
              have HN9 : Hid (∀ k ∈ ob (.slice p9 n c9), k = w4.heap.size ∨ x8.heap.size ≤ k) := by
                intro k hk
                rcases hn9 with e | e
                · rw [ob_mem, e] at hk
                  have hk2 : w4.heap.size = k := by simpa [Value.ownBlock] using hk
                  exact .inl hk2.symm
                · exact .inr (e k (ob_mem.1 hk))
              have HGe9 : Hid (∀ k ∈ ob (.slice p9 n c9), w4.heap.size ≤ k) := by
                intro k hk
                have h3 := HGe1.out
                have h4 := (HBw8.out).size
                rcases HN9.out k hk with e | e <;> omega
              have HLt9 : Hid (∀ k ∈ ob (.slice p9 n c9), k < x9.heap.size) := fun k hk => own_lt HO9.out hk
              clear ho9 hg9 hn9
              refine hK1 _ _ (fun _ => HBw9.out) ?_
              clear hK1 K1
              refine wpPre_nil ?_
              refine wpTr_e rfl (fun K1 hK1 => ?_)
              have NE10 : ∀ k, some k = (Value.slice (some ⟨x1.heap.size, 0, none⟩) 0 0).ownBlock → k ∈ ob (.slice p9 n c9) → False := by
                intro k e hk
                have h7 : k = x1.heap.size := by simpa [Value.ownBlock] using e
                have l7 := HLt9.out k hk
                have s1 := HSz1.out
                have s8 := HSz8.out
                rcases HN9.out k hk with e7 | e7 <;> omega
              refine step_appS rfl (.tmp 56) (.tmp 57) 51 5 i0 _ 1 1 HKd0.out rfl 0 (.slice (some ⟨x1.heap.size, 0, none⟩) 0 0) 0 [] rfl ((own_kept (HZr8.out) fun k hk => HG9.out.block k (own_lt (HZr8.out) hk) fun e => by exact NE9 k e hk)) q ys.length d (ys.map (.int .u8)) rfl (HYs.out _ (HBw9.out)) (one_u8 _) (by have := HYl.out; omega) (by have := HYl.out; omega) (Nat.zero_le _) ?_
              intro v10 x10 ho10 hg10 hn10
              rw [Nat.zero_add, List.nil_append] at ho10
              obtain ⟨p10, c10, hv10⟩ := row_val ho10
              subst hv10
              have HO10 : Hid (OwnBy 0 x10 (.slice p10 ys.length c10) ys) := by show World.ownsRow _ _ _ _ _ _ _; exact ho10
              have HG10 := hid hg10
              have HBw10 : Hid (Below w4.heap.size w4 x10) := by
                show Below _ _ _
                refine Below.grown (HBw9.out) hg10 (HBw9.out).size (fun k hk => ?_)
                have hk2 : x1.heap.size = k := by simpa [Value.ownBlock] using hk
                have h3 := HGe8.out
                omega
              have HN10 : Hid (∀ k ∈ ob (.slice p10 ys.length c10), k = x1.heap.size ∨ x9.heap.size ≤ k) := by
                intro k hk
                rcases hn10 with e | e
                · rw [ob_mem, e] at hk
                  have hk2 : x1.heap.size = k := by simpa [Value.ownBlock] using hk
                  exact .inl hk2.symm
                · exact .inr (e k (ob_mem.1 hk))
              have HGe10 : Hid (∀ k ∈ ob (.slice p10 ys.length c10), w4.heap.size ≤ k) := by
                intro k hk
                have h3 := HGe8.out
                have h4 := (HBw9.out).size
                rcases HN10.out k hk with e | e <;> omega
              have HLt10 : Hid (∀ k ∈ ob (.slice p10 ys.length c10), k < x10.heap.size) := fun k hk => own_lt HO10.out hk
              clear ho10 hg10 hn10
              refine hK1 _ _ (fun _ => HBw10.out) ?_
              clear hK1 K1
              refine wpPre_nil ?_
              refine wpTr_e rfl (fun K1 hK1 => ?_)
              have hE := HEnd.out x10 p9 c9 p10 c10 (HBw10.out) ((own_kept (HO9.out) fun k hk => HG10.out.block k (own_lt (HO9.out) hk) fun e => by exact NE10 k e hk)) (HO10.out) (HGe9.out) (HGe10.out)
              have HM5 := hid hE
              have HRow1 : Hid (x10.ownsRow 0 51 1 (.slice pG (b.X 1).length cG) (b.X 1).length (b.X 1)) := by
                have h := hE.row 1 (by decide)
                show World.ownsRow _ _ _ _ _ _ _
                rw [← HG0.out]
                exact h
              have h01 := HX.out.2
              clear hE
              go_simp
              refine hK1 _ _ (fun _ => (HBw10.out).trans ((((Below.refl _ _).alloc (Nat.le_refl _) _)).mono (HBw10.out).size)) ?_
              clear hK1 K1
              refine wpPre_nil ?_
              refine wpTr_e rfl (fun K1 hK1 => ?_)
              refine step_app rfl (.tmp 52) (.tmp 59) 22 51 i1 _ 1 24 HKd1.out rfl 0 (.slice pG (b.X 1).length cG) (b.X 1).length (b.X 1) rfl (HRow1.out.alloc _) ⟨x10.heap.size, 0, none⟩ 2 2 [.slice p9 n c9, .slice p10 ys.length c10] rfl rfl (two_new _ _ _ _) (one_slices _ _ _ _ _ _) (by omega) (by omega) (Nat.zero_le _) ?_
              intro v6 y6 ho6 hg6 hn6
              rw [← HG0.out] at hg6 hn6
              obtain ⟨pw, cw, hv6⟩ := row_val ho6
              subst hv6
              have hba : But (fun k => k ∈ ob (b.F 1)) x10 y6 := ((But.refl _ x10).alloc (.cells #[.slice p9 n c9, .slice p10 ys.length c10] 51)).grown hg6 fun k hk _ => ob_mem.2 hk
              have hnk : ∀ k ∈ ob (.slice pw ((b.X 1).length + 2) cw), k ∈ ob (b.F 1) ∨ x10.heap.size ≤ k := fun k hk => by
                rcases hn6 with e | e
                · exact .inl (ob_mem.2 (e ▸ ob_mem.1 hk))
                · have := e k (ob_mem.1 hk)
                  exact .inr (by simp only [World.size_alloc] at this; omega)
              have hput := HM5.out.put (i := 1) (by decide) (v' := .slice pw ((b.X 1).length + 2) cw) (xs' := b.X 1 ++ [.slice p9 n c9, .slice p10 ys.length c10]) (w2 := y6) (by rw [List.length_append]; exact ho6) hba hnk
              have hbx3 := HM5.out.bx.kept (hba.block kb HM5.out.bx.lt (HM5.out.d1 1 (by decide)))
              have b6 : y6.cell? ⟨kb, 3, none⟩ = some (.slice pG (b.X 1).length cG) := by rw [← HG0.out]; exact (hbx3.cell 3).trans rfl
              have f6 := hbx3.frozen 3
              have bl6 := hbx3.lt
              have HPu := hid hput
              have HF6 : Hid (Fr Z w x10) := HF4.out.trans (Fr.below (HBw10.out))
              clear hput hbx3 hba hnk ho6 hg6 hn6
              refine hK1 _ _ (fun h => by cases h) ?_
              clear hK1 K1
              refine wpPre_e rfl rfl (fun K1 hK1 => ?_)
              apply Exists.intro
              refine And.intro (fun wx hx => ?_) ?_
              · go_simp
                try rfl
              go_simp
              refine hK1 _ ?_
              clear hK1 K1
              refine wpPre_e rfl rfl (fun K1 hK1 => ?_)
              apply Exists.intro
              refine And.intro (fun wx hx => ?_) ?_
              · go_simp
                try rfl
              go_simp
              refine hK1 _ ?_
              clear hK1 K1
              refine wpPre_nil ?_
              refine wpTr_e rfl (fun K1 hK1 => ?_)
              go_simp
              refine hK1 _ _ (fun h => by cases h) ?_
              clear hK1 K1
              refine wpPre_nil ?_
              refine wpTr_done ?_
              go_wp2
              refine bodyPost_ret (v := .tuple #[]) (by simp [results, Try.results54, go_sem]) rfl ?_
              refine ⟨rfl, HF6.out.trans HPu.out.2, ⟨p, c, zs1⟩, ⟨q, d, ys⟩, ⟨p9, c9, zs1⟩, ⟨p10, c10, ys⟩, upd (upd b.F 0 (.slice pv ((b.X 0).length + 2) cv)) 1 (.slice pw ((b.X 1).length + 2) cw), rd3 ++ [⟨p9, c9, zs1⟩] ++ [⟨p10, c10, ys⟩], rfl, rfl, fun y hy => by simp [HR3.out.1 y hy], ⟨by simp [HR3.out.2.1], by simp [HR3.out.2.2], by simp, by simp⟩, fun i h1 h2 => (upd_ne _ _ h2).trans (upd_ne _ _ h1), ?_⟩
              have h := HPu.out.1
              have e1 : (⟨p, c, zs1⟩ : YS).val = .slice p n c := by rw [HN1.out]; rfl
              have e2 : (⟨p9, c9, zs1⟩ : YS).val = .slice p9 n c9 := by rw [HN1.out]; rfl
              rw [e1, e2]
              exact h
          · go_simp
            obtain ⟨x14, hx14⟩ : ∃ V, V = (w4.alloc (.cells #[] 5)).drew := ⟨_, rfl⟩
            rw [← hx14]
            have HBs14 : Hid (Below w4.heap.size w4 x14) := by show Below _ _ _; rw [hx14]; exact ((Below.refl _ _).alloc (Nat.le_refl _) _).drew
            have HZr14 : Hid (x14.ownsRow 0 5 1 (.slice (some ⟨w4.heap.size, 0, none⟩) 0 0) 0 []) := by show World.ownsRow _ _ _ _ _ _ _; rw [hx14]; exact row_zero w4
            have HSz14 : Hid (x14.heap.size = w4.heap.size + 1) := by show _ = _; rw [hx14]; show (World.alloc _ _).heap.size = _; rw [World.size_alloc]
            have HBw14 : Hid (Below w4.heap.size w4 x14) := ((Below.refl w4.heap.size w4)).trans (HBs14.out.mono ((Below.refl w4.heap.size w4)).size)
            have HGe14 : Hid (w4.heap.size ≤ w4.heap.size) := ((Below.refl w4.heap.size w4)).size
            clear hx14
            refine hK1 _ _ (fun _ => HBw14.out) ?_
            clear hK1 K1
            refine wpPre_nil ?_
            refine wpTr_e rfl (fun K1 hK1 => ?_)
            go_simp
            obtain ⟨x15, hx15⟩ : ∃ V, V = (x14.alloc (.cells #[] 5)) := ⟨_, rfl⟩
            rw [← hx15]
            have HBs15 : Hid (Below x14.heap.size x14 x15) := by show Below _ _ _; rw [hx15]; exact ((Below.refl _ _).alloc (Nat.le_refl _) _)
            have HZr15 : Hid (x15.ownsRow 0 5 1 (.slice (some ⟨x14.heap.size, 0, none⟩) 0 0) 0 []) := by show World.ownsRow _ _ _ _ _ _ _; rw [hx15]; exact row_zero x14
            have HSz15 : Hid (x15.heap.size = x14.heap.size + 1) := by show _ = _; rw [hx15]; rw [World.size_alloc]
            have HBw15 : Hid (Below w4.heap.size w4 x15) := (HBw14.out).trans (HBs15.out.mono (HBw14.out).size)
            have HGe15 : Hid (w4.heap.size ≤ x14.heap.size) := (HBw14.out).size
            clear hx15
            refine hK1 _ _ (fun _ => HBw15.out) ?_
            clear hK1 K1
            refine wpPre_nil ?_
            refine wpTr_e rfl (fun K1 hK1 => ?_)
            have NE16 : ∀ k, some k = (Value.slice (some ⟨x14.heap.size, 0, none⟩) 0 0).ownBlock → k ∈ ob (.slice (some ⟨w4.heap.size, 0, none⟩) 0 0) → False := by
              intro k e hk
              have h5 : w4.heap.size = k := by have h6 := ob_mem.1 hk; simpa [Value.ownBlock] using h6
              have h7 : k = x14.heap.size := by simpa [Value.ownBlock] using e
              have s14 := HSz14.out
              have s15 := HSz15.out
              omega
            refine step_appS rfl (.tmp 53) (.tmp 54) 51 5 i0 _ 1 1 HKd0.out rfl 0 (.slice (some ⟨x14.heap.size, 0, none⟩) 0 0) 0 [] rfl (HZr15.out) p n c (zs1.map (.int .u8)) rfl (HXs.out _ (HBw15.out)) (one_u8 _) (by have := HYl.out; omega) (by have := HYl.out; omega) (Nat.zero_le _) ?_
            intro v16 x16 ho16 hg16 hn16
            rw [Nat.zero_add, List.nil_append] at ho16
            obtain ⟨p16, c16, hv16⟩ := row_val ho16
            subst hv16
            have HO16 : Hid (OwnBy 0 x16 (.slice p16 n c16) zs1) := by show World.ownsRow _ _ _ _ _ _ _; rw [← HN1.out]; exact ho16
            have HG16 := hid hg16
            have HBw16 : Hid (Below w4.heap.size w4 x16) := by
              show Below _ _ _
              refine Below.grown (HBw15.out) hg16 (HBw15.out).size (fun k hk => ?_)
              have hk2 : x14.heap.size = k := by simpa [Value.ownBlock] using hk
              have h3 := HGe15.out
              omega
            have HN16 : Hid (∀ k ∈ ob (.slice p16 n c16), k = x14.heap.size ∨ x15.heap.size ≤ k) := by
              intro k hk
              rcases hn16 with e | e
              · rw [ob_mem, e] at hk
                have hk2 : x14.heap.size = k := by simpa [Value.ownBlock] using hk
                exact .inl hk2.symm
              · exact .inr (e k (ob_mem.1 hk))
            have HGe16 : Hid (∀ k ∈ ob (.slice p16 n c16), w4.heap.size ≤ k) := by
              intro k hk
              have h3 := HGe15.out
              have h4 := (HBw15.out).size
              rcases HN16.out k hk with e | e <;> omega
            have HLt16 : Hid (∀ k ∈ ob (.slice p16 n c16), k < x16.heap.size) := fun k hk => own_lt HO16.out hk
            clear ho16 hg16 hn16
            refine hK1 _ _ (fun _ => HBw16.out) ?_
            clear hK1 K1
            refine wpPre_nil ?_
            refine wpTr_e rfl (fun K1 hK1 => ?_)
            have NE17 : ∀ k, some k = (Value.slice (some ⟨w4.heap.size, 0, none⟩) 0 0).ownBlock → k ∈ ob (.slice p16 n c16) → False := by
              intro k e hk
              have h7 : k = w4.heap.size := by simpa [Value.ownBlock] using e
              have l7 := HLt16.out k hk
              have s14 := HSz14.out
              have s15 := HSz15.out
              rcases HN16.out k hk with e7 | e7 <;> omega
            refine step_appS rfl (.tmp 56) (.tmp 57) 51 5 i0 _ 1 1 HKd0.out rfl 0 (.slice (some ⟨w4.heap.size, 0, none⟩) 0 0) 0 [] rfl ((own_kept ((own_kept (HZr14.out) fun k hk => HBs15.out.block k (own_lt (HZr14.out) hk))) fun k hk => HG16.out.block k (own_lt ((own_kept (HZr14.out) fun k hk => HBs15.out.block k (own_lt (HZr14.out) hk))) hk) fun e => by exact NE16 k e hk)) q ys.length d (ys.map (.int .u8)) rfl (HYs.out _ (HBw16.out)) (one_u8 _) (by have := HYl.out; omega) (by have := HYl.out; omega) (Nat.zero_le _) ?_
            intro v17 x17 ho17 hg17 hn17
            rw [Nat.zero_add, List.nil_append] at ho17
            obtain ⟨p17, c17, hv17⟩ := row_val ho17
            subst hv17
            have HO17 : Hid (OwnBy 0 x17 (.slice p17 ys.length c17) ys) := by show World.ownsRow _ _ _ _ _ _ _; exact ho17
            have HG17 := hid hg17
            have HBw17 : Hid (Below w4.heap.size w4 x17) := by
              show Below _ _ _
              refine Below.grown (HBw16.out) hg17 (HBw16.out).size (fun k hk => ?_)
              have hk2 : w4.heap.size = k := by simpa [Value.ownBlock] using hk
              have h3 := HGe14.out
              omega
            have HN17 : Hid (∀ k ∈ ob (.slice p17 ys.length c17), k = w4.heap.size ∨ x16.heap.size ≤ k) := by
              intro k hk
              rcases hn17 with e | e
              · rw [ob_mem, e] at hk
                have hk2 : w4.heap.size = k := by simpa [Value.ownBlock] using hk
                exact .inl hk2.symm
              · exact .inr (e k (ob_mem.1 hk))
            have HGe17 : Hid (∀ k ∈ ob (.slice p17 ys.length c17), w4.heap.size ≤ k) := by
              intro k hk
              have h3 := HGe14.out
              have h4 := (HBw16.out).size
              rcases HN17.out k hk with e | e <;> omega
            have HLt17 : Hid (∀ k ∈ ob (.slice p17 ys.length c17), k < x17.heap.size) := fun k hk => own_lt HO17.out hk
            clear ho17 hg17 hn17
            refine hK1 _ _ (fun _ => HBw17.out) ?_
            clear hK1 K1
            refine wpPre_nil ?_
            refine wpTr_e rfl (fun K1 hK1 => ?_)
            have hE := HEnd.out x17 p16 c16 p17 c17 (HBw17.out) ((own_kept (HO16.out) fun k hk => HG17.out.block k (own_lt (HO16.out) hk) fun e => by exact NE17 k e hk)) (HO17.out) (HGe16.out) (HGe17.out)
            have HM5 := hid hE
            have HRow1 : Hid (x17.ownsRow 0 51 1 (.slice pG (b.X 1).length cG) (b.X 1).length (b.X 1)) := by
              have h := hE.row 1 (by decide)
              show World.ownsRow _ _ _ _ _ _ _
              rw [← HG0.out]
              exact h
            have h01 := HX.out.2
            clear hE
            go_simp
            refine hK1 _ _ (fun _ => (HBw17.out).trans ((((Below.refl _ _).alloc (Nat.le_refl _) _)).mono (HBw17.out).size)) ?_
            clear hK1 K1
            refine wpPre_nil ?_
            refine wpTr_e rfl (fun K1 hK1 => ?_)
            refine step_app rfl (.tmp 52) (.tmp 59) 22 51 i1 _ 1 24 HKd1.out rfl 0 (.slice pG (b.X 1).length cG) (b.X 1).length (b.X 1) rfl (HRow1.out.alloc _) ⟨x17.heap.size, 0, none⟩ 2 2 [.slice p16 n c16, .slice p17 ys.length c17] rfl rfl (two_new _ _ _ _) (one_slices _ _ _ _ _ _) (by omega) (by omega) (Nat.zero_le _) ?_
            intro v6 y6 ho6 hg6 hn6
            rw [← HG0.out] at hg6 hn6
            obtain ⟨pw, cw, hv6⟩ := row_val ho6
            subst hv6
            have hba : But (fun k => k ∈ ob (b.F 1)) x17 y6 := ((But.refl _ x17).alloc (.cells #[.slice p16 n c16, .slice p17 ys.length c17] 51)).grown hg6 fun k hk _ => ob_mem.2 hk
            have hnk : ∀ k ∈ ob (.slice pw ((b.X 1).length + 2) cw), k ∈ ob (b.F 1) ∨ x17.heap.size ≤ k := fun k hk => by
              rcases hn6 with e | e
              · exact .inl (ob_mem.2 (e ▸ ob_mem.1 hk))
              · have := e k (ob_mem.1 hk)
                exact .inr (by simp only [World.size_alloc] at this; omega)
            have hput := HM5.out.put (i := 1) (by decide) (v' := .slice pw ((b.X 1).length + 2) cw) (xs' := b.X 1 ++ [.slice p16 n c16, .slice p17 ys.length c17]) (w2 := y6) (by rw [List.length_append]; exact ho6) hba hnk
            have hbx3 := HM5.out.bx.kept (hba.block kb HM5.out.bx.lt (HM5.out.d1 1 (by decide)))
            have b6 : y6.cell? ⟨kb, 3, none⟩ = some (.slice pG (b.X 1).length cG) := by rw [← HG0.out]; exact (hbx3.cell 3).trans rfl
            have f6 := hbx3.frozen 3
            have bl6 := hbx3.lt
            have HPu := hid hput
            have HF6 : Hid (Fr Z w x17) := HF4.out.trans (Fr.below (HBw17.out))
            clear hput hbx3 hba hnk ho6 hg6 hn6
            refine hK1 _ _ (fun h => by cases h) ?_
            clear hK1 K1
            refine wpPre_e rfl rfl (fun K1 hK1 => ?_)
            apply Exists.intro
            refine And.intro (fun wx hx => ?_) ?_
            · go_simp
              try rfl
            go_simp
            refine hK1 _ ?_
            clear hK1 K1
            refine wpPre_e rfl rfl (fun K1 hK1 => ?_)
            apply Exists.intro
            refine And.intro (fun wx hx => ?_) ?_
            · go_simp
              try rfl
            go_simp
            refine hK1 _ ?_
            clear hK1 K1
            refine wpPre_nil ?_
            refine wpTr_e rfl (fun K1 hK1 => ?_)
            go_simp
            refine hK1 _ _ (fun h => by cases h) ?_
            clear hK1 K1
            refine wpPre_nil ?_
            refine wpTr_done ?_
            go_wp2
            refine bodyPost_ret (v := .tuple #[]) (by simp [results, Try.results54, go_sem]) rfl ?_
            refine ⟨rfl, HF6.out.trans HPu.out.2, ⟨p, c, zs1⟩, ⟨q, d, ys⟩, ⟨p16, c16, zs1⟩, ⟨p17, c17, ys⟩, upd (upd b.F 0 (.slice pv ((b.X 0).length + 2) cv)) 1 (.slice pw ((b.X 1).length + 2) cw), rd3 ++ [⟨p16, c16, zs1⟩] ++ [⟨p17, c17, ys⟩], rfl, rfl, fun y hy => by simp [HR3.out.1 y hy], ⟨by simp [HR3.out.2.1], by simp [HR3.out.2.2], by simp, by simp⟩, fun i h1 h2 => (upd_ne _ _ h2).trans (upd_ne _ _ h1), ?_⟩
            have h := HPu.out.1
            have e1 : (⟨p, c, zs1⟩ : YS).val = .slice p n c := by rw [HN1.out]; rfl
            have e2 : (⟨p16, c16, zs1⟩ : YS).val = .slice p16 n c16 := by rw [HN1.out]; rfl
            rw [e1, e2]
            exact h
end Go.Proofs.Ytbeibhmbaofjhaa
