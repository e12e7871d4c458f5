import Derived.Test.YtoifpdnaeogdgabDoorLooB
import Derived.Test.YtoifpdnaeogdgabDoorPack32
import Derived.Test.YtoifpdnaeogdgabDoorPack35
import Derived.Deep.CutRange
namespace Go.Proofs.YtoifpdnaeogdgabDoor
open Go.RowKit
set_option maxRecDepth 8000
/-- how many numbers are used up, at most -/
def costL : VT → Nat
  | .nil => 0
  | .mk _ _ _ n _ _ f => 600 + ((List.range n).map fun j => costL (f j)).sum
def costN (f : Nat → VT) (j : Nat) : Nat := ((List.range j).map fun j => costL (f j)).sum
theorem costN_succ (f : Nat → VT) (j : Nat) : costN f (j + 1) = costN f j + costL (f j) := by simp [costN, List.range_succ]
theorem costN_mono (f : Nat → VT) {a b : Nat} (h : a ≤ b) : costN f a ≤ costN f b := by
  induction h with
  | refl => exact Nat.le_refl _
  | step _ ih => rw [costN_succ]; omega
theorem LsPost.mono {w : World} {lb : Nat} {cp : Option Addr} {cn cc a K K' : Nat} {R R' : List Int → Prop} {x : Ending} {w' : World} (h : LsPost w lb cp cn cc a K R x w') (hK : K ≤ K') (hR : ∀ zs, R zs → R' zs) : LsPost w lb cp cn cc a K' R' x w' := by
  obtain ⟨zs, a', h1, h2, h3, h4, h5⟩ := h
  exact ⟨zs, a', h1, hR zs h2, by omega, h4, h5⟩
theorem take_next {s : ByteArray} {j : Nat} (h : j < s.size) : (txtB s).take (j + 1) = (txtB s).take j ++ [(pk s j : Int)] := by
  rw [List.take_add_one, get_txt s h, get_pk h]
  rfl
theorem ext_one {s : ByteArray} {j : Nat} (h : j < s.size) : s.extract j (j + 1) = strOf [(pk s j : Int)] := by
  have h1 : txtB (s.extract j (j + 1)) = [(pk s j : Int)] := by rw [txt_cut, Nat.add_sub_cancel_left, take1 h, get_pk h]
  rw [← strOf_txt (s.extract j (j + 1)), h1]
theorem LooseQ.len {l t : List Int} (h : LooseQ l t) : t.length ≤ 4 * l.length := by
  induction h with
  | nil => exact Nat.le_refl _
  | raw _ _ _ _ _ ih => simp only [List.length_cons]; omega
  | hex _ _ _ _ _ ih => simp only [List.length_cons]; omega
theorem fits_str {zs : List Int} {y : ByteArray} (h1 : zs.length ≤ 100000) (h2 : y.size ≤ 100000) : ¬ 9223372036854775807 < (strOf zs).size + y.size := by rw [strOf_size]; omega
theorem HexP.size {c : Nat} {h : List Int} (hh : HexP c h) : (strOf h).size ≤ 100000 := by
  obtain ⟨x, y, rfl, _⟩ := hh
  rw [strOf_size]
  simp
theorem leaf_clean {k i : Int} {s : ByteArray} {n : Nat} {p : Option Addr} {c : Nat} {f : Nat → VT} (h : Val (.mk k i s n p c f)) (hk : k = 0 ∨ k = 1) : cleanT (.mk k i s n p c f) = .mk k i s n p c f := by
  obtain ⟨⟨h1, h2, h3, _, _⟩, _⟩ := h
  obtain ⟨_, _, _, hn⟩ := fit_facts h1
  have hn0 : n = 0 := by rcases hn with hn | hn <;> omega
  subst hn0
  unfold cleanT
  rw [if_pos]
  rw [chk_eq, if_neg (by omega), if_neg (by rw [h1]; decide), if_neg (by omega), if_neg (by omega), if_neg (by omega)]
  rfl
/-- the words so far -/
def WRel (w : World) (lb : Nat) (cp : Option Addr) (cn cc a : Nat) (i : Int) (s : ByteArray) (n : Nat) (p : Option Addr) (c : Nat) (x5 x6 : Value) (wr : World) : Prop :=
  ∃ (j a' : Nat) (zs : List Int), j ≤ s.size ∧ x5 = .string (strOf (34 :: zs)) ∧ x6 = .int .i64 (j : Int) ∧ LooseQ ((txtB s).take j) zs ∧ a' ≤ a + 3 * j ∧ Lo wr lb cp cn cc a' ∧ Box wr w.heap.size #[.int .i64 2, .int .i64 i, .string s, .slice p n c] 24 ∧ But (fun y => y = lb) w wr
set_option maxHeartbeats 4000000 in
theorem text_words (lb : Nat) (cp : Option Addr) (cn cc a : Nat) (cf : Nat → Int) (S : Nat → Prop) (w : World) (i : Int) (s : ByteArray) (n : Nat) (p : Option Addr) (c : Nat) (hs : s.size ≤ 24) (hb : Lo w lb cp cn cc a) (hI : Ints w S cp cn cc cf) (hS : ¬ S lb) (ha : a ≤ 800000) :
    Calls Tryd.prog 6 #[.pointer (some ⟨lb, 0, none⟩), .agg #[.int .i64 2, .int .i64 i, .string s, .slice p n c]] w fun x w' => LsPost w lb cp cn cc a 100 (fun zs => ∃ t, LooseQ (txtB s) t ∧ zs = 34 :: (t ++ [34])) x w' := by
  have hlb := hb.lt
  have ha0 : Below w.heap.size w (w.alloc (.cells #[.int .i64 2, .int .i64 i, .string s, .slice p n c] 24)) := (Below.refl _ _).alloc (Nat.le_refl _) _
  have HV0 := hid (Box.new w #[.int .i64 2, .int .i64 i, .string s, .slice p n c] 24)
  have HL0 := hid (Box.below hb ha0)
  have HK0 := hid ((But.one w lb).trans (But.ofBelow ha0))
  have HIk : Hid (∀ W, But (fun y => y = lb) w W → Ints W S cp cn cc cf) := fun W h2 => hI.kept h2.size fun b hb hl => h2.block b hl (fun e => hS (e ▸ hb))
  have hne : w.heap.size ≠ lb := by omega
  clear hb hI ha0
  go_enter Tryd.func6, Tryd.ntmps6
  go_wp2_with fail
  go_loopw [5, 6] (fun x5 x6 wr => WRel w lb cp cn cc a i s n p c x5 x6 wr) (fun _ x6 _ => s.size - (intOf x6).toNat)
  case atStart => exact ⟨0, a, [], Nat.zero_le _, rfl, rfl, .nil, by omega, HL0.out, HV0.out, HK0.out⟩
  case round =>
    obtain ⟨j, a', zs, hj, rfl, rfl, hq, ha', hL, hV, hk⟩ := hrel
    clear HL0 HV0 HK0
    have v2 := hV.cell 2
    simp at v2
    by_cases hlt : j < s.size
    · have hlt' : (j : Int) < (s.size : Int) := by omega
      obtain ⟨C, hC⟩ : ∃ C, pk s j = C := ⟨_, rfl⟩
      have hCl : C < 256 := by rw [← hC]; exact pk_lt s j
      have hsj : ((s[j]'hlt).toNat : Int) = (C : Int) := by rw [← hC, pk_at hlt]; rfl
      have hjw : IntKind.i64.wrap ((j : Int) + 1) = ((j + 1 : Nat) : Int) := by rw [IntKind.wrap_i64]; omega
      have hb1 : (j : Int) ≤ ((j + 1 : Nat) : Int) := by omega
      have hb2 : ((j + 1 : Nat) : Int) ≤ (s.size : Int) := by omega
      have hTk := take_next hlt
      have hEx := ext_one hlt
      rw [hC] at hTk hEx
      have HN := hid (next_anyL lb cp cn cc a' 2 cf S wr hL (HIk.out wr hk) (by omega) (by omega) (by omega))
      have HH := hid (fun W a2 (h1 : Lo W lb cp cn cc a2) (h2 : But (fun y => y = lb) w W) (h3 : a2 ≤ 900000) => hexed_anyL lb cp cn cc a2 C hCl cf S W h1 (HIk.out W h2) hS h3)
      have HA := hid (And.intro hL (And.intro hV hk))
      have HQ := hid (And.intro hq (And.intro hTk hEx))
      have hzl : (34 :: zs).length ≤ 100000 := by have h1 := hq.len; rw [List.length_take, txtB_len] at h1; simp only [List.length_cons]; omega
      have hfe : ¬ 9223372036854775807 < (strOf (34 :: zs)).size + (s.extract j (j + 1)).size := fits_str hzl (by rw [ByteArray.size_extract]; omega)
      -- the byte by its digits
      have HHex : Hid (∀ (W : World) (a2 : Nat) (h : List Int) (a3 : Nat) (W' : World), But (fun y => y = lb) w W → HexP C h → But (fun y => y = lb) W W' → a2 ≤ a + 3 * j + 1 → a3 ≤ a2 + 2 → Lo W' lb cp cn cc a3 → Box W' w.heap.size #[.int .i64 2, .int .i64 i, .string s, .slice p n c] 24 → WRel w lb cp cn cc a i s n p c (Value.string (strOf (34 :: zs) ++ strOf h)) (.int .i64 ((j + 1 : Nat) : Int)) W') := by
        intro W a2 h a3 W' hk1 hh hk2 h2 h3 hL' hV'
        obtain ⟨x, y, rfl, hx, hy⟩ := hh
        refine ⟨j + 1, a3, zs ++ [92, 120, x, y], by omega, by rw [str_app]; rfl, rfl, ?_, by omega, hL', hV', hk1.trans hk2⟩
        rw [HQ.out.2.1]
        refine HQ.out.1.app (.hex (by omega) (by omega) (by simpa using hx) (by simpa using hy) .nil)
      clear hL hV hk hq hTk hEx
      by_cases hpr : 32 ≤ C ∧ C < 127 ∧ C ≠ 34 ∧ C ≠ 92
      · obtain ⟨p1, p2, p3, p4⟩ := hpr
        have e1 : (32 : Int) ≤ (C : Int) := by omega
        have e2 : (C : Int) < 127 := by omega
        have e3 : ((C : Int) != 34) = true := by simp; omega
        have e4 : ((C : Int) != 92) = true := by simp; omega
        go_wp2_with fail
        refine HN.out.mono ?_
        intro x w1 hP
        obtain ⟨r, a2, rfl, hr, ha2, hL1, hk1⟩ := hP
        have hV1 := HA.out.2.1.but hk1 hne
        have v2' := hV1.cell 2
        simp at v2'
        have H1 := hid (And.intro hL1 (And.intro hV1 (HA.out.2.2.trans hk1)))
        clear HN hL1 hV1 hk1
        rcases (by omega : r = 0 ∨ r = 1) with rfl | rfl
        · have HR : Hid (WRel w lb cp cn cc a i s n p c (Value.string (strOf (34 :: zs) ++ s.extract j (j + 1))) (.int .i64 ((j + 1 : Nat) : Int)) w1) := by
            refine ⟨j + 1, a2, zs ++ [(C : Int)], by omega, by rw [HQ.out.2.2, str_app]; rfl, rfl, ?_, by omega, H1.out.1, H1.out.2.1, H1.out.2.2⟩
            rw [HQ.out.2.1]
            exact HQ.out.1.app (.raw (by omega) (by omega) (by omega) (by omega) .nil)
          clear HHex HH
          go_wp2_with fail
          refine ⟨HR.out, ?_⟩
          simp only [intOf]
          omega
        · have HHx := hid (HH.out w1 a2 H1.out.1 H1.out.2.2 (by omega))
          clear HH
          go_wp2_with fail
          refine HHx.out.mono ?_
          intro x w2 hP2
          obtain ⟨h, a3, rfl, hh, ha3, hL2, hk2⟩ := hP2
          have HR := hid (HHex.out w1 a2 h a3 w2 H1.out.2.2 hh hk2 (by omega) ha3 hL2 (H1.out.2.1.but hk2 hne))
          have hfh := fits_str hzl hh.size
          clear HHx HHex hh hL2 hk2
          go_wp2_with fail
          refine ⟨HR.out, ?_⟩
          simp only [intOf]
          omega
      · have HHx := hid (HH.out wr a' HA.out.1 HA.out.2.2 (by omega))
        clear HH HN
        have hcs : C < 32 ∨ (32 ≤ C ∧ 127 ≤ C) ∨ C = 34 ∨ C = 92 := by omega
        have HFin : Hid (∀ (h : List Int) (a3 : Nat) (w2 : World), HexP C h → a3 ≤ a' + 2 → Lo w2 lb cp cn cc a3 → But (fun y => y = lb) wr w2 → WRel w lb cp cn cc a i s n p c (Value.string (strOf (34 :: zs) ++ strOf h)) (.int .i64 ((j + 1 : Nat) : Int)) w2) := fun h a3 w2 hh h3 hL2 hk2 => HHex.out wr a' h a3 w2 HA.out.2.2 hh hk2 (by omega) h3 hL2 (HA.out.2.1.but hk2 hne)
        clear HHex hpr
        rcases hcs with h1 | ⟨h0, h1⟩ | rfl | rfl
        · have e1 : ¬ (32 : Int) ≤ (C : Int) := by omega
          go_wp2_with fail
          refine HHx.out.mono ?_
          intro x w2 hP2
          obtain ⟨h, a3, rfl, hh, ha3, hL2, hk2⟩ := hP2
          have HR := hid (HFin.out h a3 w2 hh ha3 hL2 hk2)
          have hfh := fits_str hzl hh.size
          clear HHx HFin hh hL2 hk2
          go_wp2_with fail
          refine ⟨HR.out, ?_⟩
          simp only [intOf]
          omega
        · have e1 : (32 : Int) ≤ (C : Int) := by omega
          have e2 : ¬ (C : Int) < 127 := by omega
          go_wp2_with fail
          refine HHx.out.mono ?_
          intro x w2 hP2
          obtain ⟨h, a3, rfl, hh, ha3, hL2, hk2⟩ := hP2
          have HR := hid (HFin.out h a3 w2 hh ha3 hL2 hk2)
          have hfh := fits_str hzl hh.size
          clear HHx HFin hh hL2 hk2
          go_wp2_with fail
          refine ⟨HR.out, ?_⟩
          simp only [intOf]
          omega
        · go_wp2_with fail
          refine HHx.out.mono ?_
          intro x w2 hP2
          obtain ⟨h, a3, rfl, hh, ha3, hL2, hk2⟩ := hP2
          have HR := hid (HFin.out h a3 w2 hh ha3 hL2 hk2)
          have hfh := fits_str hzl hh.size
          clear HHx HFin hh hL2 hk2
          go_wp2_with fail
          refine ⟨HR.out, ?_⟩
          simp only [intOf]
          omega
        · go_wp2_with fail
          refine HHx.out.mono ?_
          intro x w2 hP2
          obtain ⟨h, a3, rfl, hh, ha3, hL2, hk2⟩ := hP2
          have HR := hid (HFin.out h a3 w2 hh ha3 hL2 hk2)
          have hfh := fits_str hzl hh.size
          clear HHx HFin hh hL2 hk2
          go_wp2_with fail
          refine ⟨HR.out, ?_⟩
          simp only [intOf]
          omega
    · have hje : j = s.size := by omega
      have hlt' : ¬ (j : Int) < (s.size : Int) := by omega
      have HQ : Hid (LooseQ (txtB s) zs) := by
        unfold Hid
        rw [hje, ← txtB_len s, List.take_length] at hq
        exact hq
      have HF := hid (And.intro hL hk)
      have hzl : (34 :: zs).length ≤ 100000 := by have h1 := HQ.out.len; rw [txtB_len] at h1; simp only [List.length_cons]; omega
      have hfe : ¬ 9223372036854775807 < (strOf (34 :: zs)).size + (⟨#[34]⟩ : ByteArray).size := fits_str hzl (by decide)
      clear hq hL hV hk
      go_wp2
      go_ret
      exact ⟨34 :: (zs ++ [34]), a', by rw [show (⟨#[34]⟩ : ByteArray) = strOf [34] from rfl, str_app]; rfl, ⟨zs, HQ.out, rfl⟩, by omega, HF.out.1, HF.out.2⟩
end Go.Proofs.YtoifpdnaeogdgabDoor

namespace Go.Proofs.YtoifpdnaeogdgabDoor
open Go.RowKit
set_option maxRecDepth 8000
/-- the list so far -/
def IRel (w : World) (lb : Nat) (cp : Option Addr) (cn cc a : Nat) (i : Int) (s : ByteArray) (n : Nat) (p : Option Addr) (c : Nat) (f : Nat → VT) (b0 : List Int) (x8 x9 : Value) (wr : World) : Prop :=
  ∃ (j a' : Nat) (zs : List Int), j ≤ n ∧ x8 = .string (strOf (91 :: (b0 ++ zs))) ∧ x9 = .int .i64 (j : Int) ∧ accL (fun j c => looseT (f j) c) j zs ∧ zs.length ≤ 10 * j + costN f j ∧ a' ≤ a + 1 + 2 * j + costN f j ∧ Lo wr lb cp cn cc a' ∧ Box wr w.heap.size #[.int .i64 3, .int .i64 i, .string s, .slice p n c] 24 ∧ But (fun y => y = lb) w wr
/-- what stands ahead of an item -/
def Sep (j : Nat) (sp : List Int) : Prop := (j = 0 ∧ sp = []) ∨ (0 < j ∧ ∃ b1 b2, Blank b1 ∧ Blank b2 ∧ sp = b1 ++ (44 :: b2))
def SRel (w : World) (lb : Nat) (cp : Option Addr) (cn cc a : Nat) (i : Int) (s : ByteArray) (n : Nat) (p : Option Addr) (c : Nat) (pre : List Int) (j : Nat) (x8 : Value) (wr : World) : Prop :=
  ∃ (a' : Nat) (sp : List Int), x8 = .string (strOf (pre ++ sp)) ∧ Sep j sp ∧ sp.length ≤ 7 ∧ a' ≤ a + 2 ∧ Lo wr lb cp cn cc a' ∧ Box wr w.heap.size #[.int .i64 3, .int .i64 i, .string s, .slice p n c] 24 ∧ But (fun y => y = lb) w wr
theorem acc_next {R : Nat → List Int → Prop} {j : Nat} {zs sp c : List Int} (h : accL R j zs) (hs : Sep j sp) (hc : R j c) : accL R (j + 1) (zs ++ (sp ++ c)) := by
  rcases hs with ⟨h0, rfl⟩ | ⟨h0, b1, b2, h1, h2, rfl⟩
  · exact ⟨zs, c, h, hc, .inl ⟨h0, rfl⟩⟩
  · exact ⟨zs, c, h, hc, .inr ⟨h0, b1, b2, h1, h2, by simp [List.append_assoc]⟩⟩
theorem list_loose {i : Int} {s : ByteArray} {n : Nat} {p : Option Addr} {c : Nat} {f : Nat → VT} {b0 zs b : List Int} (hb0 : Blank b0) (h : accL (fun j c => looseT (f j) c) n zs) (hb : Blank b) : looseT (.mk 3 i s n p c f) (91 :: (b0 ++ zs) ++ b ++ [93]) := by
  rw [looseT_eq]
  simp only [show ¬ (3 : Int) = 1 by decide, show ¬ (3 : Int) = 2 by decide, if_false, if_true]
  cases n with
  | zero =>
    left
    have hz : zs = [] := h
    subst hz
    exact ⟨rfl, b0 ++ b, hb0.app hb, by simp [List.append_assoc]⟩
  | succ n =>
    right
    obtain ⟨c0, r', h1, h2, h3⟩ := acc_rest n 0 zs (b ++ [93]) h ⟨b, hb, rfl⟩
    refine ⟨by omega, b0, c0, r', hb0, h1, by rw [Nat.zero_add] at h2; exact h2, ?_⟩
    rw [← h3]
    simp [List.append_assoc]
set_option maxHeartbeats 4000000 in
theorem text_list (lb : Nat) (cp : Option Addr) (cn cc a : Nat) (cf : Nat → Int) (S R : Nat → Prop) (w : World) (i : Int) (s : ByteArray) (n : Nat) (p : Option Addr) (c : Nat) (f : Nat → VT) (hn6 : n ≤ 6) (hb : Lo w lb cp cn cc a) (hI : Ints w S cp cn cc cf) (hS : ¬ S lb) (hR : ¬ R lb) (hin : VT.In w R (.mk 3 i s n p c f)) (ha : a + (600 + costN f n) ≤ 80000)
    (hIt : ∀ j, j < n → ∀ W a2, Lo W lb cp cn cc a2 → But (fun y => y = lb) w W → a2 + costL (f j) ≤ 80000 → Calls Tryd.prog 6 #[.pointer (some ⟨lb, 0, none⟩), (f j).val] W fun x w' => LsPost W lb cp cn cc a2 (costL (f j)) (fun zs => looseT (f j) zs ∧ zs.length ≤ costL (f j)) x w') :
    Calls Tryd.prog 6 #[.pointer (some ⟨lb, 0, none⟩), .agg #[.int .i64 3, .int .i64 i, .string s, .slice p n c]] w fun x w' => LsPost w lb cp cn cc a (600 + costN f n) (fun zs => looseT (.mk 3 i s n p c f) zs ∧ zs.length ≤ 600 + costN f n) x w' := by
  have hlb := hb.lt
  have ha0 : Below w.heap.size w (w.alloc (.cells #[.int .i64 3, .int .i64 i, .string s, .slice p n c] 24)) := (Below.refl _ _).alloc (Nat.le_refl _) _
  have HV0 := hid (Box.new w #[.int .i64 3, .int .i64 i, .string s, .slice p n c] 24)
  have HK0 := hid ((But.one w lb).trans (But.ofBelow ha0))
  have HIk : Hid (∀ W, But (fun y => y = lb) w W → Ints W S cp cn cc cf) := fun W h2 => hI.kept h2.size fun b hb hl => h2.block b hl (fun e => hS (e ▸ hb))
  have HBl := hid (fun W a2 (h1 : Lo W lb cp cn cc a2) (h2 : But (fun y => y = lb) w W) (h3 : a2 ≤ 1000000) => blanks_anyL lb cp cn cc a2 cf S W h1 (HIk.out W h2) h3)
  have hne : w.heap.size ≠ lb := by omega
  have HB0 := hid (HBl.out _ a (Box.below hb ha0) HK0.out (by omega))
  have HIt := hid hIt
  have HIn := hid hin
  clear hb hI ha0 hIt hin HIk
  go_enter Tryd.func6, Tryd.ntmps6
  go_wp2_with fail
  refine HB0.out.mono ?_
  intro x w1 hP
  obtain ⟨b0, a1, rfl, ⟨hb0, hb0l⟩, ha1, hL1, hk1⟩ := hP
  have hV1 := HV0.out.but hk1 hne
  have hf0 : ¬ 9223372036854775807 < (⟨#[91]⟩ : ByteArray).size + (strOf b0).size := by rw [strOf_size]; show ¬ _ < 1 + b0.length; omega
  have HR1 : Hid (IRel w lb cp cn cc a i s n p c f b0 (.string ((⟨#[91]⟩ : ByteArray) ++ strOf b0)) (.int .i64 0) w1) := ⟨0, a1, [], Nat.zero_le _, by rw [List.append_nil, show (⟨#[91]⟩ : ByteArray) = strOf [91] from rfl, str_app]; rfl, rfl, rfl, by simp, by have : costN f 0 = 0 := rfl; omega, hL1, hV1, HK0.out.trans hk1⟩
  clear HB0 HV0 HK0 hL1 hk1 hV1
  go_wp2_with fail
  go_loopw [8, 9] (fun x8 x9 wr => IRel w lb cp cn cc a i s n p c f b0 x8 x9 wr) (fun _ x9 _ => n - (intOf x9).toNat)
  case atStart => exact HR1.out
  case round =>
    obtain ⟨j, a', zs, hj, rfl, rfl, hacc, hzl, ha', hL, hV, hk⟩ := hrel
    clear HR1
    have v3 := hV.cell 3
    simp at v3
    have hcm := costN_mono f hj
    by_cases hlt : j < n
    · have hlt' : (j : Int) < (n : Int) := by omega
      have hcs := costN_succ f j
      have hcm2 := costN_mono f (show j + 1 ≤ n from hlt)
      have hjw : IntKind.i64.wrap ((j : Int) + 1) = ((j + 1 : Nat) : Int) := by rw [IntKind.wrap_i64]; omega
      have hpl : (91 :: (b0 ++ zs)).length ≤ 90000 := by simp only [List.length_cons, List.length_append]; omega
      obtain ⟨pre, hpre⟩ : ∃ pre, pre = 91 :: (b0 ++ zs) := ⟨_, rfl⟩
      rw [← hpre] at hpl ⊢
      have HPre := hid hpre
      have HAcc := hid hacc
      have HB1 := hid (HBl.out wr a' hL hk (by omega))
      have HA := hid (And.intro hL (And.intro hV hk))
      clear hpre hacc hL hV hk
      go_upto_if 75 with fail
      go_cut [8] from 67 to 92 (fun s8 wx => SRel w lb cp cn cc a' i s n p c pre j s8 wx)
      case first =>
        by_cases h0 : 0 < j
        · have h0' : (0 : Int) < (j : Int) := by omega
          go_wp2_with fail
          refine HB1.out.mono ?_
          intro x w2 hP2
          obtain ⟨b1, a2, rfl, ⟨hb1, hb1l⟩, ha2, hL2, hk2⟩ := hP2
          have hf1 : ¬ 9223372036854775807 < (strOf pre).size + (strOf b1).size := fits_str (by omega) (by rw [strOf_size]; omega)
          have hf2 : ¬ 9223372036854775807 < (strOf pre ++ strOf b1).size + (⟨#[44]⟩ : ByteArray).size := by rw [str_app]; exact fits_str (by rw [List.length_append]; omega) (by decide)
          have HB2 := hid (HBl.out w2 a2 hL2 (HA.out.2.2.trans hk2) (by omega))
          have HV2 := hid (And.intro (HA.out.2.1.but hk2 hne) (HA.out.2.2.trans hk2))
          clear HB1 hL2 hk2
          go_wp2_with fail
          refine HB2.out.mono ?_
          intro x w3 hP3
          obtain ⟨b2, a3, rfl, ⟨hb2, hb2l⟩, ha3, hL3, hk3⟩ := hP3
          have hf3 : ¬ 9223372036854775807 < (strOf pre ++ strOf b1 ++ (⟨#[44]⟩ : ByteArray)).size + (strOf b2).size := by rw [show (⟨#[44]⟩ : ByteArray) = strOf [44] from rfl, str_app, str_app]; exact fits_str (by simp only [List.length_append, List.length_cons, List.length_nil]; omega) (by rw [strOf_size]; omega)
          have HS : Hid (SRel w lb cp cn cc a' i s n p c pre j (.string (strOf pre ++ strOf b1 ++ (⟨#[44]⟩ : ByteArray) ++ strOf b2)) w3) := ⟨a3, b1 ++ (44 :: b2), by rw [show (⟨#[44]⟩ : ByteArray) = strOf [44] from rfl, str_app, str_app, str_app]; simp [List.append_assoc], .inr ⟨h0, b1, b2, hb1, hb2, rfl⟩, by simp only [List.length_append, List.length_cons]; omega, by omega, hL3, HV2.out.1.but hk3 hne, HV2.out.2.trans hk3⟩
          clear HB2 hL3 hk3 HV2
          go_wp2_with fail
          go_meet
          exact HS.out
        · have h0' : ¬ (0 : Int) < (j : Int) := by omega
          have HS : Hid (SRel w lb cp cn cc a' i s n p c pre j (.string (strOf pre)) wr) := ⟨a', [], by rw [List.append_nil], .inl ⟨by omega, rfl⟩, by simp, by omega, HA.out.1, HA.out.2.1, HA.out.2.2⟩
          go_wp2_with fail
          go_meet
          exact HS.out
      case rest =>
        obtain ⟨a2, sp, h8, hsep, hspl, ha2, hL2, hV2, hk2⟩ := hcut
        subst h8
        generalize hw2 : wc = w2 at *
        obtain ⟨bb, o, hp, hSb, hbl, hat⟩ := HIn.out.at_ (show 0 < (VT.mk 3 i s n p c f).n from by simp only [VT.n]; omega)
        simp only [VT.p_mk] at hp
        subst hp
        obtain ⟨d0, d1, d2, d3⟩ := (hat j hlt).kept (hk2.block bb hbl (fun e => hR (e ▸ hSb)))
        simp only [VT.item_mk] at d0 d1 d2 d3
        have y3 := hV2.cell 3
        simp at y3
        have HT := hid (HIt.out j hlt w2 a2 hL2 hk2 (by omega))
        unfold VT.val at HT
        have H2 := hid (And.intro hV2 hk2)
        have hj0 : (0 : Int) ≤ (j : Int) := by omega
        clear hw2 hL2 hV2 hk2 HB1 HA v3 hat
        go_wp2_with fail
        refine HT.out.mono ?_
        intro x w3 hP3
        obtain ⟨cz, a3, rfl, ⟨hcz, hczl⟩, ha3, hL3, hk3⟩ := hP3
        have hf4 : ¬ 9223372036854775807 < (strOf (pre ++ sp)).size + (strOf cz).size := fits_str (by rw [List.length_append]; omega) (by rw [strOf_size]; omega)
        have HR : Hid (IRel w lb cp cn cc a i s n (some ⟨bb, o, none⟩) c f b0 (.string (strOf (pre ++ sp) ++ strOf cz)) (.int .i64 ((j + 1 : Nat) : Int)) w3) := ⟨j + 1, a3, zs ++ (sp ++ cz), by omega, by rw [str_app, HPre.out]; simp [List.append_assoc], rfl, acc_next HAcc.out hsep hcz, by simp only [List.length_append]; omega, by omega, hL3, H2.out.1.but hk3 hne, H2.out.2.trans hk3⟩
        clear HT H2 hL3 hk3 hcz hsep HAcc HPre
        go_wp2_with fail
        refine ⟨HR.out, ?_⟩
        simp only [intOf]
        omega
    · have hje : j = n := by omega
      subst hje
      have hlt' : ¬ (j : Int) < (j : Int) := by omega
      have HB1 := hid (HBl.out wr a' hL hk (by omega))
      have hpl : (91 :: (b0 ++ zs)).length ≤ 90000 := by simp only [List.length_cons, List.length_append]; omega
      have HAcc := hid hacc
      have HK := hid hk
      clear hL hV hk hacc
      go_wp2_with fail
      refine HB1.out.mono ?_
      intro x w2 hP2
      obtain ⟨b, a2, rfl, ⟨hb2, hbl⟩, ha2, hL2, hk2⟩ := hP2
      have hf1 : ¬ 9223372036854775807 < (strOf (91 :: (b0 ++ zs))).size + (strOf b).size := fits_str (by omega) (by rw [strOf_size]; omega)
      have hf2 : ¬ 9223372036854775807 < (strOf (91 :: (b0 ++ zs)) ++ strOf b).size + (⟨#[93]⟩ : ByteArray).size := by rw [str_app]; exact fits_str (by rw [List.length_append]; omega) (by decide)
      have HF := hid (And.intro hL2 (HK.out.trans hk2))
      have HZ := hid (list_loose (i := i) (s := s) (p := p) (c := c) hb0 HAcc.out hb2)
      have hlen : (91 :: (b0 ++ zs) ++ b ++ [93]).length ≤ 600 + costN f j := by simp only [List.length_append, List.length_cons, List.length_nil] at hpl ⊢; omega
      clear HB1 hL2 hk2 hb2 hb0 HAcc
      go_wp2
      go_ret
      exact ⟨91 :: (b0 ++ zs) ++ b ++ [93], a2, by rw [show (⟨#[93]⟩ : ByteArray) = strOf [93] from rfl, str_app, str_app]; rfl, ⟨HZ.out, hlen⟩, by omega, HF.out.1, HF.out.2⟩
end Go.Proofs.YtoifpdnaeogdgabDoor

namespace Go.Proofs.YtoifpdnaeogdgabDoor
open Go.RowKit
set_option maxRecDepth 8000
set_option maxHeartbeats 4000000 in
theorem text_anyL (t : VT) : ∀ (B lb : Nat) (cp : Option Addr) (cn cc a : Nat) (cf : Nat → Int) (S R : Nat → Prop) (w : World), Lo w lb cp cn cc a → Ints w S cp cn cc cf → ¬ S lb → ¬ R lb → VT.In w R t → (∀ b, R b → b < w.heap.size) → Val t → a + costL t ≤ 80000 → Tabs B w → B ≤ lb →
    Calls Tryd.prog 6 #[.pointer (some ⟨lb, 0, none⟩), t.val] w fun x w' => LsPost w lb cp cn cc a (costL t) (fun zs => looseT t zs ∧ zs.length ≤ costL t) x w' := by
  induction t with
  | nil => intro B lb cp cn cc a cf S R w _ _ _ _ hin; exact hin.elim
  | mk k i s n p c f ih =>
    intro B lb cp cn cc a cf S R w hb hI hS hR hin hRb hv ha hT hB
    have hco : costL (.mk k i s n p c f) = 600 + costN f n := rfl
    rw [hco] at ha ⊢
    obtain ⟨⟨h1, h2, h3, _, _⟩, hvi⟩ := id hv
    obtain ⟨⟨k0, k3⟩, _, _, hn⟩ := fit_facts h1
    have hlb := hb.lt
    rcases (by omega : (k = 0 ∨ k = 1) ∨ k = 2 ∨ k = 3) with hk | rfl | rfl
    · have hcl := leaf_clean hv hk
      have ha0 : Below w.heap.size w (w.alloc (.cells #[.int .i64 k, .int .i64 i, .string s, .slice p n c] 24)) := (Below.refl _ _).alloc (Nat.le_refl _) _
      have HPr := hid (print_any (.mk k i s n p c f) _ R (hin.below ha0) (fun b hb => Nat.lt_of_lt_of_le (hRb b hb) ha0.size) ((hT.on (ha0.mono (by omega))).mono (by have := ha0.size; omega)))
      rw [hcl] at HPr
      have hlen : (prB (.mk k i s n p c f)).length ≤ 600 := by
        have h5 := prB_len hv
        have hn0 : n = 0 := by rcases hn with hn | hn <;> omega
        subst hn0
        rw [flatP_eq] at h5
        simp at h5
        omega
      have HL : Hid (looseT (.mk k i s n p c f) (prB (.mk k i s n p c f))) := by
        unfold Hid
        rw [looseT_eq, prB_eq]
        rcases hk with rfl | rfl <;> simp
      have HF := hid (And.intro (Box.below hb ha0) ((But.one w lb).trans (But.ofBelow ha0)))
      have HZ : Hid ((prB (.mk k i s n p c f)).length ≤ 600 + costN f n) := by unfold Hid; omega
      simp only [VT.val, VT.kind_mk, VT.int_mk, VT.text_mk, VT.p_mk, VT.n_mk, VT.c_mk] at HPr ⊢
      generalize prB (.mk k i s n p c f) = Z at *
      clear hb hI hin hT ha0 hcl hlen ih hv hvi
      rcases hk with rfl | rfl
      · go_enter Tryd.func6, Tryd.ntmps6
        go_wp2_with fail
        refine HPr.out.mono ?_
        rintro x w1 ⟨rfl, hb1⟩
        have HG := hid (And.intro (HF.out.1.below hb1) (HF.out.2.trans (But.ofBelow hb1)))
        clear HF hb1 HPr
        go_wp2
        go_ret
        exact ⟨Z, a, rfl, ⟨HL.out, HZ.out⟩, by omega, HG.out.1, HG.out.2⟩
      · go_enter Tryd.func6, Tryd.ntmps6
        go_wp2_with fail
        refine HPr.out.mono ?_
        rintro x w1 ⟨rfl, hb1⟩
        have HG := hid (And.intro (HF.out.1.below hb1) (HF.out.2.trans (But.ofBelow hb1)))
        clear HF hb1 HPr
        go_wp2
        go_ret
        exact ⟨Z, a, rfl, ⟨HL.out, HZ.out⟩, by omega, HG.out.1, HG.out.2⟩
    · simp only [VT.val, VT.kind_mk, VT.int_mk, VT.text_mk, VT.p_mk, VT.n_mk, VT.c_mk]
      refine (text_words lb cp cn cc a cf S w i s n p c h2 hb hI hS (by omega)).mono ?_
      intro x w' hP
      refine hP.mono (by omega) fun zs hz => ⟨?_, ?_⟩
      · rw [looseT_eq]
        simp only [show ¬ (2 : Int) = 1 by decide, if_false, if_true]
        exact hz
      · obtain ⟨t, ht, rfl⟩ := hz
        have h5 := ht.len
        rw [txtB_len] at h5
        simp only [List.length_cons, List.length_append, List.length_nil]
        omega
    · simp only [VT.val, VT.kind_mk, VT.int_mk, VT.text_mk, VT.p_mk, VT.n_mk, VT.c_mk]
      exact text_list lb cp cn cc a cf S R w i s n p c f h3 hb hI hS hR hin ha (fun j hj W a2 hL hk hc => by
        exact ih j B lb cp cn cc a2 cf S R W hL (hI.kept hk.size fun b hb hl => hk.block b hl (fun e => hS (e ▸ hb))) hS hR ((hin.sub hj).but hk (fun b hb _ e => hR (e ▸ hb))) (fun b hb => Nat.lt_of_lt_of_le (hRb b hb) hk.size) (hvi j hj) hc (hT.on (hk.below (by omega) (fun q hq => by omega))) hB)
end Go.Proofs.YtoifpdnaeogdgabDoor
