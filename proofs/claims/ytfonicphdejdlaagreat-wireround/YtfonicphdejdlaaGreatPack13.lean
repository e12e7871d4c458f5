import Derived.Test.YtfonicphdejdlaaGreatPack2
import Derived.Test.YtfonicphdejdlaaGreatPack12
import Derived.Test.YtfonicphdejdlaaGreatPack3
namespace Go.Proofs.YtfonicphdejdlaaGreat
open Go.RowKit
set_option maxRecDepth 8000

set_option maxHeartbeats 1000000 in
theorem orNone_any (t : VT) (w : World) (S : Nat → Prop) (hin : VT.In w S t) :
    Calls Tryz.prog 119 #[t.val] w fun e w' => e = .returned (cleanT t).val ∧ Below w.heap.size w w' := by
  have HC : Hid (∀ W, Below w.heap.size w W → Calls Tryz.prog 84 #[t.val] W fun e w' => e = .returned (.int .i64 (chk t 0 0).1) ∧ Below W.heap.size W w') :=
    fun W hW => check_any t W (fun b => b < W.heap.size) ((hin.below hW).mono fun b _ hl => hl) (fun b hb => hb)
  obtain ⟨k, i, s, n, p, c, f, ht⟩ := hin.mk_
  clear hin
  unfold cleanT
  by_cases h : (chk t 0 0).1 = 0
  · rw [if_pos h]
    rw [h] at HC
    simp only [VT.val, ht, VT.kind_mk, VT.int_mk, VT.text_mk, VT.p_mk, VT.n_mk, VT.c_mk] at HC ⊢
    go_enter Tryz.func119, Tryz.ntmps119
    go_wp2_with fail
    refine (HC.out _ ?_).mono ?_
    · exact ((Below.refl _ _).alloc (Nat.le_refl _) _).alloc (by simp) _
    rintro e w1 ⟨rfl, hb1⟩
    have hv1 : Box w1 w.heap.size #[.int .i64 k, .int .i64 i, .string s, .slice p n c] 24 := ((Box.new w _ 24).below ((Below.refl _ _).alloc (Nat.le_refl _) _)).below hb1
    have hv2 : Box w1 (w.heap.size + 1) #[.int .i64 0, .int .i64 0, .string ⟨#[]⟩, .slice none 0 0] 24 := by
      have h := Box.new (w.alloc (.cells #[.int .i64 k, .int .i64 i, .string s, .slice p n c] 24)) #[.int .i64 0, .int .i64 0, .string ⟨#[]⟩, .slice none 0 0] 24
      rw [show (w.alloc (.cells #[.int .i64 k, .int .i64 i, .string s, .slice p n c] 24)).heap.size = w.heap.size + 1 by simp] at h
      exact h.below hb1
    have hbw : Below w.heap.size w w1 := (((Below.refl w.heap.size w).alloc (Nat.le_refl _) _).alloc (by simp) _).trans (hb1.mono (by simp; omega))
    have x0 := hv1.cell 0
    have x1 := hv1.cell 1
    have x2 := hv1.cell 2
    have x3 := hv1.cell 3
    have d0 := hv2.cell 0
    have d1 := hv2.cell 1
    have d2 := hv2.cell 2
    have d3 := hv2.cell 3
    have e0 := hv2.frozen 0
    have e1 := hv2.frozen 1
    have e2 := hv2.frozen 2
    have e3 := hv2.frozen 3
    have z2 := hv2.lt
    simp at x0 x1 x2 x3 d0 d1 d2 d3
    clear hb1 hv1 hv2 HC
    go_wp2
    refine bodyPost_ret (v := .agg #[.int .i64 k, .int .i64 i, .string s, .slice p n c]) (by simp [results, Tryz.results119, go_sem, d0, d1, d2, d3]) rfl ⟨rfl, ?_⟩
    exact (((hbw.setCell (Nat.le_succ _) _).setCell (Nat.le_succ _) _).setCell (Nat.le_succ _) _).setCell (Nat.le_succ _) _
  · rw [if_neg h]
    have h' : ¬ (((chk t 0 0).1 : Int) = 0) := by omega
    generalize (chk t 0 0).1 = r at *
    simp only [VT.val, zeroT, ht, VT.kind_mk, VT.int_mk, VT.text_mk, VT.p_mk, VT.n_mk, VT.c_mk] at HC ⊢
    go_enter Tryz.func119, Tryz.ntmps119
    go_wp2_with fail
    refine (HC.out _ ?_).mono ?_
    · exact ((Below.refl _ _).alloc (Nat.le_refl _) _).alloc (by simp) _
    rintro e w1 ⟨rfl, hb1⟩
    have hv1 : Box w1 w.heap.size #[.int .i64 k, .int .i64 i, .string s, .slice p n c] 24 := ((Box.new w _ 24).below ((Below.refl _ _).alloc (Nat.le_refl _) _)).below hb1
    have hv2 : Box w1 (w.heap.size + 1) #[.int .i64 0, .int .i64 0, .string ⟨#[]⟩, .slice none 0 0] 24 := by
      have h := Box.new (w.alloc (.cells #[.int .i64 k, .int .i64 i, .string s, .slice p n c] 24)) #[.int .i64 0, .int .i64 0, .string ⟨#[]⟩, .slice none 0 0] 24
      rw [show (w.alloc (.cells #[.int .i64 k, .int .i64 i, .string s, .slice p n c] 24)).heap.size = w.heap.size + 1 by simp] at h
      exact h.below hb1
    have hbw : Below w.heap.size w w1 := (((Below.refl w.heap.size w).alloc (Nat.le_refl _) _).alloc (by simp) _).trans (hb1.mono (by simp; omega))
    have x0 := hv1.cell 0
    have x1 := hv1.cell 1
    have x2 := hv1.cell 2
    have x3 := hv1.cell 3
    have d0 := hv2.cell 0
    have d1 := hv2.cell 1
    have d2 := hv2.cell 2
    have d3 := hv2.cell 3
    have e0 := hv2.frozen 0
    have e1 := hv2.frozen 1
    have e2 := hv2.frozen 2
    have e3 := hv2.frozen 3
    have z2 := hv2.lt
    simp at x0 x1 x2 x3 d0 d1 d2 d3
    clear hb1 hv1 hv2 HC
    go_wp2
    refine bodyPost_ret (v := .agg #[.int .i64 0, .int .i64 0, .string ⟨#[]⟩, .slice none 0 0]) (by simp [results, Tryz.results119, go_sem, d0, d1, d2, d3]) rfl ⟨rfl, ?_⟩
    exact (((hbw.setCell (Nat.le_succ _) _).setCell (Nat.le_succ _) _).setCell (Nat.le_succ _) _).setCell (Nat.le_succ _) _
end Go.Proofs.YtfonicphdejdlaaGreat

namespace Go.Proofs.YtfonicphdejdlaaGreat
open Go.RowKit
set_option maxRecDepth 8000

theorem clean_enc_len {w : World} {S : Nat → Prop} {t : VT} (h : VT.In w S t) : (encB (cleanT t)).length ≤ 720 := by
  have h1 := enc_len (clean_val h)
  have h2 := clean_len (t := t)
  omega

set_option maxHeartbeats 1000000 in
theorem encode_any (t : VT) (w : World) (S : Nat → Prop) (hin : VT.In w S t) (hS : ∀ b, S b → b < w.heap.size) :
    Calls Tryz.prog 107 #[t.val] w fun e w' => EPost w.heap.size w (encB (cleanT t)) e w' := by
  have HC : Hid (∀ W, Below w.heap.size w W → Calls Tryz.prog 119 #[t.val] W fun e w' => e = .returned (cleanT t).val ∧ Below W.heap.size W w') := fun W hW => orNone_any t W S (hin.below hW)
  have hcl := clean_enc_len hin
  have HA : Hid (∀ W, Below w.heap.size w W → Calls Tryz.prog 118 #[.slice none 0 0, (cleanT t).val] W fun e w' => EPost w.heap.size W ([] ++ encB (cleanT t)) e w') := fun W hW => by
    have h1 : VT.In W (fun b => b < w.heap.size) (cleanT t) := ((cleanT_in hin).mono fun b hb _ => hS b hb).kept hW.size fun b hb _ => hW.block b hb
    exact appendEncoded_any (cleanT t) w.heap.size W (.slice none 0 0) [] hW.size (World.ownsRow_nil _ _ _ _) h1 (clean_val hin) (by simp; omega)
  simp only [List.nil_append] at HA
  unfold VT.val at HC HA ⊢
  generalize encB (cleanT t) = RES at *
  clear hin hS
  go_enter Tryz.func107, Tryz.ntmps107
  go_wp2_with fail
  refine (HC.out _ ?_).mono ?_
  · exact (Below.refl _ _).alloc (Nat.le_refl _) _
  rintro e w1 ⟨rfl, hb1⟩
  have hbw : Below w.heap.size w w1 := ((Below.refl w.heap.size w).alloc (Nat.le_refl _) _).trans (hb1.mono (by simp))
  have hkw : KeepN w w1 := KeepN.below hbw
  have HBw := hid (And.intro hbw hkw)
  clear hb1 hbw hkw
  go_wp2_with fail
  refine (HA.out _ HBw.out.1).mono ?_
  intro e w2 hP
  obtain ⟨v2, rfl, h2⟩ := hP
  have HF := hid (h2.lift HBw.out.1 HBw.out.2)
  clear h2 HA HC
  go_wp2
  go_ret
  exact ⟨_, rfl, HF.out⟩

/-- what the parts of a valid value are -/
theorem part_fit {t : VT} (h : Val t) : ∀ q ∈ flatP t, (0 ≤ q.kind ∧ q.kind ≤ 3) ∧ q.text.size ≤ 24 ∧ q.n ≤ 6 ∧ -9223372036854775808 ≤ q.int ∧ q.int ≤ 9223372036854775807 := by
  induction t with
  | nil => exact h.elim
  | mk k i s n p c f ih =>
    obtain ⟨⟨h1, h2, h3, h4, h5⟩, h6⟩ := h
    intro q hq
    rw [flatP_eq, List.mem_cons] at hq
    rcases hq with rfl | hq
    · simp only [fitB, Bool.and_eq_true, Bool.or_eq_true, decide_eq_true_eq] at h1
      exact ⟨⟨h1.1.1.1.1, h1.1.1.1.2⟩, h2, h3, h4, h5⟩
    · obtain ⟨j, hj, hq⟩ := List.mem_flatMap.1 hq
      exact ih j (h6 j (List.mem_range.1 hj)) q hq
end Go.Proofs.YtfonicphdejdlaaGreat

namespace Go.Proofs.YtfonicphdejdlaaGreat
open Go.RowKit
set_option maxRecDepth 8000
set_option maxHeartbeats 1000000 in
theorem wpNumber_any (u : Nat) (hu : u < 34359738368) (base : Nat) (w : World) (v : Value) (zs : List Int) (hv : OwnBy base w v zs) (hb : base ≤ w.heap.size) (hz : zs.length ≤ 100000000) :
    Calls Tryz.prog 72 #[v, .int .i64 u] w fun e w' => EPost base w (zs ++ grpB u) e w' := by
  obtain ⟨i0, Kd⟩ := kindB
  have hul : (grpB u).length ≤ 10 := grpB_len 9 u (Nat.lt_of_lt_of_le hu (by decide))
  have HU : Hid ((grpB u).length ≤ 10) := hul
  have HV := hid hv
  clear hv hul
  go_enter Tryz.func72, Tryz.ntmps72
  go_wp2_with fail
  go_loopw [0, 1] (fun v x wr => ∃ (ys : List Int) (m : Nat), x = .int .i64 (m : Int) ∧ m < 34359738368 ∧ LayB base w (zs ++ ys) v wr ∧ ys ++ grpB m = grpB u) (fun _ x _ => (intOf x).toNat)
  case atStart => exact ⟨[], u, rfl, hu, by simpa using LayB.refl HV.out, rfl⟩
  case round =>
    obtain ⟨ys, m, rfl, hm, hO, hg⟩ := hrel
    have hyl : ys.length ≤ 10 := by
      have h1 := HU.out
      rw [← hg, List.length_append] at h1
      omega
    have hsw := hO.bel.size
    have hzl : (zs ++ ys).length ≤ 100000010 := by rw [List.length_append]; omega
    have HG := hid hg
    obtain ⟨L, hL⟩ : ∃ L, L = zs ++ ys := ⟨_, rfl⟩
    rw [← hL] at hO hzl
    have HL := hid hL
    have HO := hid hO
    have hrow : wr.ownsRow base 5 1 u0 L.length (L.map (Value.int .u8)) := hO.own
    clear hO hg hL
    by_cases hs : m < 128
    · have hs' : ¬ (128 : Int) ≤ (m : Int) := by omega
      have e1 : (m : Int) % 256 = (m : Int) := by omega
      go_wp2_with (at_builtin; refine wpList_app rfl (.tmp 15) (.tmp 18) 49 5 i0 _ 1 1 Kd rfl base u0 L.length _ rfl (hrow.alloc _) ⟨wr.heap.size, 0, none⟩ 1 1 [.int .u8 (m : Int)] rfl rfl (cell_one_new _ _ _) (one8 _) (by omega) (by omega) (by simp; omega) ?_)
      intro v3 w3 ho3 hg3 hn3
      have HF := hid (HO.out.one (by omega) ho3 hg3)
      clear ho3 hg3 hn3 hrow
      go_wp2
      go_ret
      refine ⟨_, rfl, ?_⟩
      have e : zs ++ grpB u = L ++ [(m : Int)] := by rw [← HG.out, grpB_small hs, HL.out, List.append_assoc]
      rw [e]
      exact HF.out
    · have hs' : (128 : Int) ≤ (m : Int) := by omega
      have e2 : bits BinOp.or IntKind.u8 ((m : Int) % 256) 128 = ((m % 128 + 128 : Nat) : Int) := by
        have h := bits_or128 m
        rw [show ((m % 256 : Nat) : Int) = (m : Int) % 256 by omega] at h
        exact h
      go_wp2_with (at_builtin; refine wpList_app rfl (.tmp 7) (.tmp 11) 49 5 i0 _ 1 1 Kd rfl base u0 L.length _ rfl (hrow.alloc _) ⟨wr.heap.size, 0, none⟩ 1 1 [.int .u8 ((m : Int) % 128 + 128)] rfl rfl (cell_one_new _ _ _) (one8 _) (by omega) (by omega) (by simp; omega) ?_)
      intro v3 w3 ho3 hg3 hn3
      have HF := hid (HO.out.one (by omega) ho3 hg3)
      clear ho3 hg3 hn3 hrow e2
      go_wp2
      go_roundw
      case rel =>
        have e3 : ((m % 128 + 128 : Nat) : Int) = (m : Int) % 128 + 128 := by omega
        refine ⟨ys ++ [(m : Int) % 128 + 128], m / 128, ?_, by omega, by rw [← List.append_assoc, ← HL.out]; exact HF.out, ?_⟩
        · go_num
        · rw [List.append_assoc, List.singleton_append, ← e3, ← grpB_great hs]; exact HG.out
      case measure => simp [intOf]; omega
end Go.Proofs.YtfonicphdejdlaaGreat

namespace Go.Proofs.YtfonicphdejdlaaGreat
open Go.RowKit
set_option maxRecDepth 8000

/-- four bytes of a number -/
def wordB (u : Nat) : List Int := [((u % 256 : Nat) : Int), ((u / 256 % 256 : Nat) : Int), ((u / 65536 % 256 : Nat) : Int), ((u / 16777216 % 256 : Nat) : Int)]
def wordC (u k : Nat) : List Int := (wordB u).take k
def keyB (s : ByteArray) : List Int := grpB s.size ++ txtB s
theorem take_succ_get {l : List Int} {k : Nat} {x : Int} (h : l[k]? = some x) : l.take (k + 1) = l.take k ++ [x] := by
  rw [List.take_add_one, h]
  rfl
theorem word_get (u k : Nat) (hk : k < 4) : (wordB u)[k]? = some (((u / 256 ^ k) % 256 : Nat) : Int) := by
  rcases (by omega : k = 0 ∨ k = 1 ∨ k = 2 ∨ k = 3) with rfl | rfl | rfl | rfl <;> simp [wordB]
set_option maxHeartbeats 2000000 in
theorem wpWord_any (u : Nat) (hu : u < 4294967296) (base : Nat) (w : World) (v : Value) (zs : List Int) (hv : OwnBy base w v zs) (hb : base ≤ w.heap.size) (hz : zs.length ≤ 100000000) :
    Calls Tryz.prog 78 #[v, .int .u32 u] w fun e w' => EPost base w (zs ++ wordB u) e w' := by
  obtain ⟨i0, Kd⟩ := kindB
  have HV := hid hv
  have HKd := hid Kd
  clear hv Kd
  go_enter Tryz.func78, Tryz.ntmps78
  go_wp2_with fail
  go_loopw [0, 1, 5] (fun v y x wr => ∃ (k m : Nat), k ≤ 4 ∧ x = .int .i64 (k : Int) ∧ y = .int .u32 (m : Int) ∧ m = u / 256 ^ k ∧ LayB base w (zs ++ wordC u k) v wr) (fun _ _ x _ => 4 - (intOf x).toNat)
  case atStart => exact ⟨0, u, by omega, rfl, rfl, by simp, by simpa [wordC] using LayB.refl HV.out⟩
  case round =>
    obtain ⟨k, m, hk, rfl, rfl, hm, hO⟩ := hrel
    have hsw := hO.bel.size
    have hml : m < 4294967296 := by rw [hm]; exact Nat.lt_of_le_of_lt (Nat.div_le_self _ _) hu
    by_cases hlt : k < 4
    · have hlt' : (k : Int) < 4 := by omega
      have hget := word_get u k hlt
      rw [← hm] at hget
      have hnx : zs ++ wordC u (k + 1) = (zs ++ wordC u k) ++ [((m % 256 : Nat) : Int)] := by
        unfold wordC
        rw [take_succ_get hget, List.append_assoc]
      have hzl : (zs ++ wordC u k).length ≤ 100000010 := by
        rw [List.length_append]
        have : (wordC u k).length ≤ 4 := by unfold wordC; simp [wordB]; omega
        omega
      have hm2 : m / 256 = u / 256 ^ (k + 1) := by rw [hm, Nat.pow_succ, Nat.div_div_eq_div_mul]
      have HNx := hid hnx
      have HM2 := hid hm2
      obtain ⟨Lk, hLk⟩ : ∃ Lk, Lk = zs ++ wordC u k := ⟨_, rfl⟩
      rw [← hLk] at hO hzl HNx
      have HO := hid hO
      have hrow : wr.ownsRow base 5 1 u0 Lk.length (Lk.map (Value.int .u8)) := hO.own
      have HRow := hid hrow
      clear hO hrow hnx hm2 hget hm hLk
      go_wp2_with (at_builtin; refine wpList_app rfl (.tmp 7) (.tmp 10) 49 5 i0 _ 1 1 HKd.out rfl base u0 Lk.length _ rfl (HRow.out.alloc _) ⟨wr.heap.size, 0, none⟩ 1 1 [.int .u8 ((m : Int) % 256)] rfl rfl (cell_one_new _ _ _) (one8 _) (by omega) (by omega) (by simp; omega) ?_)
      intro v3 w3 ho3 hg3 hn3
      have HF := hid (HO.out.one (by omega) ho3 hg3)
      clear ho3 hg3 hn3 HRow
      go_wp2
      go_roundw
      case rel =>
        have e3 : ((m % 256 : Nat) : Int) = (m : Int) % 256 := by omega
        refine ⟨k + 1, m / 256, by omega, by go_num, by go_num, HM2.out, ?_⟩
        rw [HNx.out, e3]
        exact HF.out
      case measure => simp [intOf]; omega
    · obtain rfl : k = 4 := by omega
      have HF := hid hO
      clear hO hm
      go_wp2
      go_ret
      refine ⟨_, rfl, ?_⟩
      have e : zs ++ wordB u = zs ++ wordC u 4 := by simp [wordC, wordB]
      rw [e]
      exact HF.out

set_option maxHeartbeats 2000000 in
theorem wpKey_any (s : ByteArray) (hs : s.size ≤ 1000) (base : Nat) (w : World) (v : Value) (zs : List Int) (hv : OwnBy base w v zs) (hb : base ≤ w.heap.size) (hz : zs.length ≤ 90000000) :
    Calls Tryz.prog 85 #[v, .string s] w fun e w' => EPost base w (zs ++ keyB s) e w' := by
  obtain ⟨i0, Kd⟩ := kindB
  have HN := hid (wpNumber_any s.size (by omega) base w v zs hv hb (by omega))
  have HKd := hid Kd
  clear hv Kd
  have hgl : (grpB s.size).length ≤ 10 := grpB_len 9 _ (Nat.lt_of_le_of_lt hs (by decide))
  have e : Hid (zs ++ keyB s = (zs ++ grpB s.size) ++ txtB s) := by unfold Hid keyB; rw [List.append_assoc]
  go_enter Tryz.func85, Tryz.ntmps85
  go_wp2_with fail
  refine HN.out.mono ?_
  rintro x w1 ⟨v1, rfl, h1⟩
  obtain ⟨L1, hL1⟩ : ∃ L1, L1 = zs ++ grpB s.size := ⟨_, rfl⟩
  have hl1 : L1.length ≤ 90000010 := by rw [hL1, List.length_append]; omega
  rw [← hL1] at h1 e
  have HL1 := hid h1
  have hrow : w1.ownsRow base 5 1 v1 L1.length (L1.map (Value.int .u8)) := h1.own
  have HRow := hid hrow
  have hsw := h1.bel.size
  clear h1 hrow hL1 HN
  go_wp2_with (at_builtin; go_loud (refine Go.Lib.wpList_append_own_string _ rfl (.tmp 8) (.tmp 9) 49 9 rfl base 5 i0 HKd.out.ht Tryz.underlying9 HKd.out.hi HKd.out.hz HKd.out.hsize HKd.out.hby v1 L1.length _ rfl HRow.out s rfl (by unfold maxLen; omega) (by omega) (by omega) ?_))
  intro v3 w3 ho3 hg3 _
  have HF := hid (HL1.out.text (by omega) ho3 hg3)
  clear ho3 hg3 HRow
  go_wp2
  go_ret
  exact ⟨_, rfl, by rw [e.out]; exact HF.out⟩
theorem encB_pos (t : VT) : 0 < (encB t).length := by cases t <;> simp [encB]
set_option maxHeartbeats 2000000 in
theorem wpValue_any (t : VT) (base : Nat) (w : World) (v : Value) (zs : List Int) (hv : OwnBy base w v zs) (hb : base ≤ w.heap.size) (hin : VT.In w (fun b => b < base) t) (hz : zs.length ≤ 90000000) :
    Calls Tryz.prog 86 #[v, t.val] w fun e w' => EPost base w (zs ++ encB (cleanT t)) e w' := by
  obtain ⟨i0, Kd⟩ := kindB
  have ha : Below w.heap.size w (w.alloc (.cells #[.int .i64 t.kind, .int .i64 t.int, .string t.text, .slice t.p t.n t.c] 24)) := (Below.refl _ _).alloc (Nat.le_refl _) _
  have HE := hid (encode_any t _ _ (hin.below ha) (fun b hb2 => by have := ha.size; omega))
  have hcl := clean_enc_len hin
  have hpos := encB_pos (cleanT t)
  have HKd := hid Kd
  have HV := hid hv
  have HA := hid ha
  unfold VT.val at *
  clear hv Kd hin ha
  generalize encB (cleanT t) = ys at *
  go_enter Tryz.func86, Tryz.ntmps86
  go_wp2_with fail
  refine HE.out.mono ?_
  rintro x w1 ⟨v1, rfl, h1⟩
  have hb1 := h1.bel
  have hbw : Below w.heap.size w w1 := HA.out.trans (hb1.mono (by have := HA.out.size; omega))
  obtain ⟨b1, c1, rfl, hbb, hbl, hcell⟩ := h1.own.slice hpos
  have hrow : w1.ownsRow base 5 1 v zs.length (zs.map (Value.int .u8)) := HV.out.below hbw
  have HRow := hid hrow
  have HC := hid hcell
  have HB := hid hbw
  have hsw := hbw.size
  have H1 : Hid (∀ u ∈ ys.map (Value.int .u8), u.oneCell' = true) := fun u hu => by
    obtain ⟨z, _, rfl⟩ := List.mem_map.1 hu
    rfl
  clear h1 hb1 hbw hrow hcell HE
  go_wp2_with (at_builtin; refine wpList_app rfl (.tmp 5) (.tmp 7) 49 5 i0 _ 1 1 HKd.out rfl base v zs.length _ rfl HRow.out ⟨b1, 0, none⟩ ys.length c1 (ys.map (Value.int .u8)) rfl (by simp) HC.out H1.out (by omega) (by omega) (by omega) ?_)
  intro v3 w3 ho3 hg3 hn3
  have HF : Hid (LayB base w (zs ++ ys) v3 w3) := ⟨(show OwnBy base w1 v zs from HRow.out).app ho3, (HB.out.mono hb).trans ((Below.refl base w1).grown hg3 (by omega) (fun k hk => (World.ownsRow.lt HRow.out k hk).1)), (KeepN.below HB.out).trans (KeepN.grown (show OwnBy base w1 v zs from HRow.out) hg3)⟩
  clear ho3 hg3 hn3 HRow
  go_wp2
  go_ret
  exact ⟨_, rfl, HF.out⟩
end Go.Proofs.YtfonicphdejdlaaGreat

namespace Go.Proofs.YtfonicphdejdlaaGreat
open Go.RowKit
set_option maxRecDepth 8000
/-- a list's bytes -/
def listB {α : Type} (enc : α → List Int) (n : Nat) (f : Nat → α) : List Int := grpB n ++ (List.range n).flatMap fun j => enc (f j)
theorem listB_part {α : Type} (enc : α → List Int) (f : Nat → α) (C : Nat) : ∀ n, (∀ j, j < n → (enc (f j)).length ≤ C) → ((List.range n).flatMap fun j => enc (f j)).length ≤ n * C := by
  intro n
  induction n with
  | zero => intro _; simp
  | succ n ih =>
    intro h
    rw [List.range_succ, List.flatMap_append, List.length_append, Nat.add_mul]
    have h1 := ih fun j hj => h j (by omega)
    have h2 := h n (by omega)
    simp only [List.flatMap_cons, List.flatMap_nil, List.append_nil]
    omega
theorem grp_len_small {n : Nat} (h : n ≤ 2000000000) : (grpB n).length ≤ 10 := grpB_len 9 _ (Nat.lt_of_le_of_lt h (by decide))
theorem listB_len {α : Type} {enc : α → List Int} {f : Nat → α} {C n : Nat} (hn : n ≤ 1000000000) (h : ∀ j, j < n → (enc (f j)).length ≤ C) : (listB enc n f).length ≤ 10 + n * C := by
  unfold listB
  rw [List.length_append]
  have := listB_part enc f C n h
  have := grp_len_small (n := n) (by omega)
  omega
end Go.Proofs.YtfonicphdejdlaaGreat
