import Derived.Test.YtehpdhhlggegdaaDoorPack8
import Derived.Test.YtehpdhhlggegdaaDoorPack9
import Derived.Test.YtehpdhhlggegdaaDoorPack7
import Derived.Lib.Strings
import Derived.Test.YtehpdhhlggegdaaDoorPack3
namespace Go.Proofs.YtehpdhhlggegdaaDoor
open Go.RowKit
set_option maxRecDepth 8000

theorem clean_enc_len {w : World} {S : Nat → Prop} {t : VT} (h : VT.In w S t) : (encB (cleanT t)).length ≤ 720 := by
  have h1 := enc_len (clean_val h)
  have h2 := clean_len (t := t)
  omega

set_option maxHeartbeats 1000000 in
theorem encode_any (t : VT) (w : World) (S : Nat → Prop) (hin : VT.In w S t) (hS : ∀ b, S b → b < w.heap.size) :
    Calls Tryd.prog 12 #[t.val] w fun e w' => EPost w.heap.size w (encB (cleanT t)) e w' := by
  have HC : Hid (∀ W, Below w.heap.size w W → Calls Tryd.prog 22 #[t.val] W fun e w' => e = .returned (cleanT t).val ∧ Below W.heap.size W w') := fun W hW => orNone_any t W S (hin.below hW)
  have hcl := clean_enc_len hin
  have HA : Hid (∀ W, Below w.heap.size w W → Calls Tryd.prog 29 #[.slice none 0 0, (cleanT t).val] W fun e w' => EPost w.heap.size W ([] ++ encB (cleanT t)) e w') := fun W hW => by
    have h1 : VT.In W (fun b => b < w.heap.size) (cleanT t) := ((cleanT_in hin).mono fun b hb _ => hS b hb).kept hW.size fun b hb _ => hW.block b hb
    exact appendEncoded_any (cleanT t) w.heap.size W (.slice none 0 0) [] hW.size (World.ownsRow_nil _ _ _ _) h1 (clean_val hin) (by simp; omega)
  simp only [List.nil_append] at HA
  unfold VT.val at HC HA ⊢
  generalize encB (cleanT t) = RES at *
  clear hin hS
  go_enter Tryd.func12, Tryd.ntmps12
  go_wp2_with fail
  refine (HC.out _ ?_).mono ?_
  · exact (Below.refl _ _).alloc (Nat.le_refl _) _
  rintro e w1 ⟨rfl, hb1⟩
  have hbw : Below w.heap.size w w1 := ((Below.refl w.heap.size w).alloc (Nat.le_refl _) _).trans (hb1.mono (by simp))
  have hkw : KeepN w w1 := KeepN.below hbw
  have HBw := hid (And.intro hbw hkw)
  clear hb1 hbw hkw
  go_wp2_with fail
  refine (HA.out _ HBw.out.1).mono ?_
  intro e w2 hP
  obtain ⟨v2, rfl, h2⟩ := hP
  have HF := hid (h2.lift HBw.out.1 HBw.out.2)
  clear h2 HA HC
  go_wp2
  go_ret
  exact ⟨_, rfl, HF.out⟩

/-- what the parts of a valid value are -/
theorem part_fit {t : VT} (h : Val t) : ∀ q ∈ flatP t, (0 ≤ q.kind ∧ q.kind ≤ 3) ∧ q.text.size ≤ 24 ∧ q.n ≤ 6 ∧ -9223372036854775808 ≤ q.int ∧ q.int ≤ 9223372036854775807 := by
  induction t with
  | nil => exact h.elim
  | mk k i s n p c f ih =>
    obtain ⟨⟨h1, h2, h3, h4, h5⟩, h6⟩ := h
    intro q hq
    rw [flatP_eq, List.mem_cons] at hq
    rcases hq with rfl | hq
    · simp only [fitB, Bool.and_eq_true, Bool.or_eq_true, decide_eq_true_eq] at h1
      exact ⟨⟨h1.1.1.1.1, h1.1.1.1.2⟩, h2, h3, h4, h5⟩
    · obtain ⟨j, hj, hq⟩ := List.mem_flatMap.1 hq
      exact ih j (h6 j (List.mem_range.1 hj)) q hq
end Go.Proofs.YtehpdhhlggegdaaDoor

namespace Go.Proofs.YtehpdhhlggegdaaDoor
open Go.RowKit
set_option maxRecDepth 8000
theorem conv_at2 {w : World} {ad : Addr} {c : Nat} {zs : List Int} (h : ∀ j u, (zs.map (Value.int .u8))[j]? = some u → w.cell? (ad.add j) = some u) : (convert 29 9 (.slice (some ad) zs.length c)).run Tryd.prog w = .ok (.string (strOf zs)) w := by
  rw [run_convert_bytes_string (P := Tryd.prog) w 29 9 5 _ _ _ Tryd.underlying29 Tryd.underlying5 Tryd.underlying9]
  have hl := run_loadCells_list (P := Tryd.prog) (w := w) ad (zs.map (Value.int .u8)) h
  rw [List.length_map] at hl
  exact run_bytesToString w ad zs.length c zs hl
/-- do the first bytes begin with the others? -/
def begB (zs ys : List Int) : Bool := decide (ys.length ≤ zs.length) && ((strOf (zs.take ys.length)).toList == (strOf ys).toList)
set_option maxHeartbeats 1000000 in
theorem begins_any (zs ys : List Int) (a b : Value) (w : World) (A B : Nat) (ha : OwnBy A w a zs) (hb : OwnBy B w b ys) (hz : 0 < zs.length) (hy : 0 < ys.length) (_hl : zs.length ≤ 100000) (_hl2 : ys.length ≤ 100000) :
    Calls Tryd.prog 20 #[a, b] w fun e w' => e = .returned (.bool (begB zs ys)) ∧ Below w.heap.size w w' := by
  obtain ⟨g1, c1, rfl, _, _, hc1⟩ := OwnBy.slice ha hz
  obtain ⟨g2, c2, rfl, _, _, hc2⟩ := OwnBy.slice hb hy
  have hcap : zs.length ≤ c1 := by
    obtain ⟨_, ⟨hv, _⟩ | ⟨g, cap, cur, hv, _, _, hnc, _⟩⟩ := ha
    · cases hv
    · simp only [Value.slice.injEq] at hv
      omega
  by_cases hlen : ys.length ≤ zs.length
  · have hlen' : (ys.length : Int) ≤ (zs.length : Int) := by omega
    have hk1 : (convert 29 9 (.slice (some ⟨g1, 0, none⟩) ys.length c1)).run Tryd.prog w.drew = .ok (.string (strOf (zs.take ys.length))) w.drew := by
      have h := conv_at2 (w := w.drew) (ad := ⟨g1, 0, none⟩) (c := c1) (zs := zs.take ys.length) (fun j u hu => by
        rw [List.map_take, List.getElem?_take] at hu
        split at hu
        · exact hc1 j u hu
        · cases hu)
      rw [List.length_take, Nat.min_eq_left hlen] at h
      exact h
    have hk2 : (convert 29 9 (.slice (some ⟨g2, 0, none⟩) ys.length c2)).run Tryd.prog w.drew = .ok (.string (strOf ys)) w.drew := conv_at2 (fun j u hu => hc2 j u hu)
    have HB : Hid (begB zs ys = ((strOf (zs.take ys.length)).toList == (strOf ys).toList)) := by unfold Hid begB; rw [decide_eq_true hlen, Bool.true_and]
    rw [HB.out]
    clear ha hb hc1 hc2 HB
    generalize strOf (zs.take ys.length) = s1 at *
    generalize strOf ys = s2 at *
    go_enter Tryd.func20, Tryd.ntmps20
    go_wp2_with fail
    go_region
    all_goals
      go_wp2
      go_ret
      exact ⟨rfl, (Below.refl _ _).drew⟩
  · have hlen' : ¬ (ys.length : Int) ≤ (zs.length : Int) := by omega
    have HB : Hid (begB zs ys = false) := by unfold Hid begB; rw [decide_eq_false hlen, Bool.false_and]
    rw [HB.out]
    clear ha hb hc1 hc2 HB
    go_enter Tryd.func20, Tryd.ntmps20
    go_wp2_with fail
    go_region
    all_goals
      go_wp2
      go_ret
      exact ⟨rfl, (Below.refl _ _).drew⟩
end Go.Proofs.YtehpdhhlggegdaaDoor

namespace Go.Proofs.YtehpdhhlggegdaaDoor
open Go.RowKit
set_option maxRecDepth 8000
def SamePost (t u : VT) (e : Ending) (w w' : World) : Prop := ∃ r : Bool, e = .returned (.bool r) ∧ (r = true ↔ VT.Alike t u) ∧ Below w.heap.size w w'
theorem same_no {t u : VT} {w w' : World} (h : ¬ VT.Alike t u) (hb : Below w.heap.size w w') : SamePost t u (.returned (.bool false)) w w' := ⟨false, rfl, ⟨fun e => (by cases e), fun e => absurd e h⟩, hb⟩
theorem same_yes {t u : VT} {w w' : World} (h : VT.Alike t u) (hb : Below w.heap.size w w') : SamePost t u (.returned (.bool true)) w w' := ⟨true, rfl, ⟨fun _ => h, fun _ => rfl⟩, hb⟩

set_option maxHeartbeats 1000000 in
theorem sameG_any (t : VT) : ∀ (u : VT) (w : World) (S R : Nat → Prop), VT.In w S t → VT.In w R u →
    Calls Tryd.prog 10 #[t.val, u.val] w fun e w' => SamePost t u e w w' := by
  induction t with
  | nil => intro u w S R hin; exact hin.elim
  | mk k i s n p c f ih =>
    intro u w S R hin hiu
    obtain ⟨k2, i2, s2, n2, p2, c2, f2, rfl⟩ := hiu.mk_
    by_cases h1 : k = k2
    case neg =>
      have HN := hid (fun h : VT.Alike (.mk k i s n p c f) (.mk k2 i2 s2 n2 p2 c2 f2) => h1 h.1.symm)
      simp only [VT.val, VT.kind_mk, VT.int_mk, VT.text_mk, VT.p_mk, VT.n_mk, VT.c_mk]
      clear hin hiu ih
      go_enter Tryd.func10, Tryd.ntmps10
      go_wp2
      go_ret
      exact same_no HN.out (((Below.refl _ _).alloc (Nat.le_refl _) _).alloc (by simp) _)
    by_cases h2 : i = i2
    case neg =>
      have HN := hid (fun h : VT.Alike (.mk k i s n p c f) (.mk k2 i2 s2 n2 p2 c2 f2) => h2 h.2.1.symm)
      simp only [VT.val, VT.kind_mk, VT.int_mk, VT.text_mk, VT.p_mk, VT.n_mk, VT.c_mk]
      subst h1
      clear hin hiu ih
      go_enter Tryd.func10, Tryd.ntmps10
      go_wp2
      go_ret
      exact same_no HN.out (((Below.refl _ _).alloc (Nat.le_refl _) _).alloc (by simp) _)
    by_cases h3 : s = s2
    case neg =>
      have HN := hid (fun h : VT.Alike (.mk k i s n p c f) (.mk k2 i2 s2 n2 p2 c2 f2) => h3 h.2.2.1.symm)
      have h3b : (s.toList == s2.toList) = false := by
        rw [beq_eq_false_iff_ne]
        intro h
        rw [Go.Lib.toList_data, Go.Lib.toList_data] at h
        exact h3 (ByteArray.ext (Array.ext' h))
      simp only [VT.val, VT.kind_mk, VT.int_mk, VT.text_mk, VT.p_mk, VT.n_mk, VT.c_mk]
      subst h1 h2
      clear hin hiu ih
      go_enter Tryd.func10, Tryd.ntmps10
      go_wp2
      go_ret
      exact same_no HN.out (((Below.refl _ _).alloc (Nat.le_refl _) _).alloc (by simp) _)
    by_cases h4 : n = n2
    case neg =>
      have HN := hid (fun h : VT.Alike (.mk k i s n p c f) (.mk k2 i2 s2 n2 p2 c2 f2) => h4 h.2.2.2.1.symm)
      have h4' : ((n : Int) != (n2 : Int)) = true := by rw [bne_iff_ne]; omega
      simp only [VT.val, VT.kind_mk, VT.int_mk, VT.text_mk, VT.p_mk, VT.n_mk, VT.c_mk]
      subst h1 h2 h3
      clear hin hiu ih
      go_enter Tryd.func10, Tryd.ntmps10
      go_wp2
      go_ret
      exact same_no HN.out (((Below.refl _ _).alloc (Nat.le_refl _) _).alloc (by simp) _)
    subst h1 h2 h3 h4
    have hnn := hin.fit.nn
    simp only [VT.n_mk] at hnn
    simp only [VT.val, VT.kind_mk, VT.int_mk, VT.text_mk, VT.p_mk, VT.n_mk, VT.c_mk]
    have HI : Hid (VT.In w S (.mk k i s n p c f)) := hin
    have HU : Hid (VT.In w R (.mk k i s n p2 c2 f2)) := hiu
    clear hin hiu
    go_enter Tryd.func10, Tryd.ntmps10
    go_wp2_with fail
    have hS1 : Box (w.alloc (.cells #[.int .i64 k, .int .i64 i, .string s, .slice p n c] 24)) w.heap.size #[.int .i64 k, .int .i64 i, .string s, .slice p n c] 24 := Box.new _ _ _
    have hS2 := hS1.below ((Below.refl _ _).alloc (Nat.le_refl _) (.cells #[.int .i64 k, .int .i64 i, .string s, .slice p2 n c2] 24))
    have hS3 : Box ((w.alloc (.cells #[.int .i64 k, .int .i64 i, .string s, .slice p n c] 24)).alloc (.cells #[.int .i64 k, .int .i64 i, .string s, .slice p2 n c2] 24)) (w.heap.size + 1) #[.int .i64 k, .int .i64 i, .string s, .slice p2 n c2] 24 := by
      have := Box.new (w.alloc (.cells #[.int .i64 k, .int .i64 i, .string s, .slice p n c] 24)) #[.int .i64 k, .int .i64 i, .string s, .slice p2 n c2] 24
      simpa using this
    have hS4 : Below w.heap.size w ((w.alloc (.cells #[.int .i64 k, .int .i64 i, .string s, .slice p n c] 24)).alloc (.cells #[.int .i64 k, .int .i64 i, .string s, .slice p2 n c2] 24)) := ((Below.refl _ _).alloc (Nat.le_refl _) _).alloc (by simp) _
    go_loopw [5] (fun x wr => ∃ j : Nat, j ≤ n ∧ x = .int .i64 j ∧ (∀ q, q < j → VT.Alike (f q) (f2 q)) ∧ Box wr w.heap.size #[.int .i64 k, .int .i64 i, .string s, .slice p n c] 24 ∧ Box wr (w.heap.size + 1) #[.int .i64 k, .int .i64 i, .string s, .slice p2 n c2] 24 ∧ Below w.heap.size w wr) (fun x _ => n - (intOf x).toNat)
    case atStart => exact ⟨0, Nat.zero_le _, rfl, fun q hq => absurd hq (by omega), hS2, hS3, hS4⟩
    case round =>
      obtain ⟨j, hj, rfl, hA, hB0, hB1, hbel⟩ := hrel
      have HA := hid hA
      clear hA
      clear hS1 hS2 hS3 hS4
      have x3 := hB0.cell 3
      have y3 := hB1.cell 3
      simp at x3 y3
      by_cases hlt : j < n
      · have hlt' : (j : Int) < (n : Int) := by omega
        obtain ⟨bb, o, hp, hSb, hbl, hat⟩ := HI.out.at_ (show 0 < (VT.mk k i s n p c f).n from by simp only [VT.n]; omega)
        obtain ⟨bb2, o2, hp2, hSb2, hbl2, hat2⟩ := HU.out.at_ (show 0 < (VT.mk k i s n p2 c2 f2).n from by simp only [VT.n]; omega)
        simp only [VT.p_mk] at hp hp2
        subst hp hp2
        obtain ⟨a0, a1, a2, a3⟩ := (hat j hlt).kept (hbel.block bb hbl)
        obtain ⟨b0, b1, b2, b3⟩ := (hat2 j hlt).kept (hbel.block bb2 hbl2)
        simp only [VT.item_mk] at a0 a1 a2 a3 b0 b1 b2 b3
        have HC : Hid (∀ W, Below wr.heap.size wr W → Calls Tryd.prog 10 #[(f j).val, (f2 j).val] W fun e w' => SamePost (f j) (f2 j) e W w') := fun W hW =>
          ih j (f2 j) W (fun b => S b ∧ b < w.heap.size) (fun b => R b ∧ b < w.heap.size) ((((HI.out.sub hlt).mono fun b hb hl => ⟨hb, hl⟩).kept hbel.size (fun b hb _ => hbel.block b hb.2)).below hW) ((((HU.out.sub hlt).mono fun b hb hl => ⟨hb, hl⟩).kept hbel.size (fun b hb _ => hbel.block b hb.2)).below hW)
        unfold VT.val at HC
        have HB : Hid (Box wr w.heap.size #[.int .i64 k, .int .i64 i, .string s, .slice (some ⟨bb, o, none⟩) n c] 24 ∧ Box wr (w.heap.size + 1) #[.int .i64 k, .int .i64 i, .string s, .slice (some ⟨bb2, o2, none⟩) n c2] 24) := ⟨hB0, hB1⟩
        have HFG := hid (show True from trivial)
        obtain ⟨xk, xi, xs, xn, xp, xc, xf, hx⟩ := (HI.out.sub hlt).mk_
        obtain ⟨yk, yi, ys, yn, yp, yc, yf, hy⟩ := (HU.out.sub hlt).mk_
        simp only [VT.item_mk] at hx hy
        clear hat hat2 ih HI HU hB0 hB1
        simp only [hx, hy, VT.kind_mk, VT.int_mk, VT.text_mk, VT.p_mk, VT.n_mk, VT.c_mk] at a0 a1 a2 a3 b0 b1 b2 b3
        have HC2 : Hid (∀ W, Below wr.heap.size wr W → Calls Tryd.prog 10 #[.agg #[.int .i64 xk, .int .i64 xi, .string xs, .slice xp xn xc], .agg #[.int .i64 yk, .int .i64 yi, .string ys, .slice yp yn yc]] W fun e w' => SamePost (f j) (f2 j) e W w') := fun W hW => by
          have h := HC.out W hW
          simp only [hx, hy, VT.kind_mk, VT.int_mk, VT.text_mk, VT.p_mk, VT.n_mk, VT.c_mk] at h ⊢
          exact h
        clear hx hy HC HFG
        have HW : Hid (∀ w4, Below wr.heap.size wr.drew w4 → Box w4 w.heap.size #[.int .i64 k, .int .i64 i, .string s, .slice (some ⟨bb, o, none⟩) n c] 24 ∧ Box w4 (w.heap.size + 1) #[.int .i64 k, .int .i64 i, .string s, .slice (some ⟨bb2, o2, none⟩) n c2] 24 ∧ Below w.heap.size w w4) := fun w4 hb4 => by
          have hk : Below wr.heap.size wr w4 := (Below.refl wr.heap.size wr).drew.trans hb4
          exact ⟨HB.out.1.below hk, HB.out.2.below hk, hbel.trans (hk.mono hbel.size)⟩
        go_wp2_with fail
        go_region_with (go_at_call 10; refine (HC2.out _ ?_).mono ?_; exact (Below.refl _ _).drew; intro e w4 hP4; obtain ⟨r4, rfl, hr4, hb4⟩ := hP4)
        all_goals
          cases r4 with
          | false =>
            have HN : Hid (¬ VT.Alike (.mk k i s n (some ⟨bb, o, none⟩) c f) (.mk k i s n (some ⟨bb2, o2, none⟩) c2 f2)) := fun h => absurd (hr4.2 (h.2.2.2.2 j hlt)) (by decide)
            have HBe := hid (HW.out w4 hb4).2.2
            clear hr4 hb4
            go_wp2
            go_ret
            exact same_no HN.out HBe.out
          | true =>
            have HA2 : Hid (∀ q, q < j + 1 → VT.Alike (f q) (f2 q)) := fun q hq => by
              by_cases h : q < j
              · exact HA.out q h
              · obtain rfl : q = j := by omega
                exact hr4.1 rfl
            have HBe := hid (HW.out w4 hb4)
            clear hr4 hb4
            go_wp2
            go_roundw
            case rel => exact ⟨j + 1, by omega, by go_num, HA2.out, HBe.out.1, HBe.out.2.1, HBe.out.2.2⟩
            case measure => simp [intOf]; omega
      · obtain rfl : j = n := by omega
        clear ih HI HU hB0 hB1
        go_wp2
        go_ret
        exact same_yes ⟨rfl, rfl, rfl, rfl, HA.out⟩ hbel
end Go.Proofs.YtehpdhhlggegdaaDoor
