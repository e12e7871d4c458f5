import Derived.Test.YtnjgojbmlmadiaaGreatPack17
import Derived.Test.YtnjgojbmlmadiaaGreatPack2
import Derived.Test.YtnjgojbmlmadiaaGreatPack4
import Derived.Test.YtnjgojbmlmadiaaGreatPack14
namespace Go.Proofs.YtnjgojbmlmadiaaGreat
open Go.RowKit
set_option maxRecDepth 8000

set_option maxHeartbeats 1000000 in
theorem check_any (t : VT) (w : World) (S : Nat → Prop) (hin : VT.In w S t) (hS : ∀ b, S b → b < w.heap.size) :
    Calls Tryz.prog 84 #[t.val] w fun e w' => e = .returned (.int .i64 (chk t 0 0).1) ∧ Below w.heap.size w w' := by
  have HC : Hid (∀ W b, Below w.heap.size w W → w.heap.size ≤ b → Box W b #[.int .i64 ((0 : Nat) : Int)] 3 → Calls Tryz.prog 106 #[t.val, .int .i64 ((0 : Nat) : Int), .pointer (some ⟨b, 0, none⟩)] W fun e w' => e = .returned (.int .i64 (chk t 0 0).1) ∧ Box w' b #[.int .i64 (chk t 0 0).2] 3 ∧ But (fun k => k = b) W w') :=
    fun W b hW hb hB => checkPart_any t W S b 0 0 (hin.below hW) (fun h => by have := hS b h; omega) hB (by omega) (by omega)
  obtain ⟨k, i, s, n, p, c, f, rfl⟩ := hin.mk_
  clear hin hS
  generalize chk (.mk k i s n p c f) 0 0 = r at *
  simp only [VT.val, VT.kind_mk, VT.int_mk, VT.text_mk, VT.p_mk, VT.n_mk, VT.c_mk] at HC ⊢
  go_enter Tryz.func84, Tryz.ntmps84
  go_wp2_with fail
  refine (HC.out _ (w.heap.size + 1) ?_ ?_ ?_).mono ?_
  · exact ((Below.refl _ _).alloc (Nat.le_refl _) _).alloc (by simp) _
  · omega
  · have h := Box.new (w.alloc (.cells #[.int .i64 k, .int .i64 i, .string s, .slice p n c] 24)) #[.int .i64 0] 3
    simpa using h
  · rintro e w1 ⟨rfl, _, hK⟩
    have hb1 : Below w.heap.size w w1 := (((Below.refl w.heap.size w).alloc (Nat.le_refl _) _).alloc (by simp) _).trans (hK.below (by simp; omega) (fun x hx => by omega))
    clear hK HC
    go_wp2
    go_ret
    exact ⟨rfl, hb1⟩
end Go.Proofs.YtnjgojbmlmadiaaGreat

namespace Go.Proofs.YtnjgojbmlmadiaaGreat
open Go.RowKit
set_option maxRecDepth 8000

set_option maxHeartbeats 1000000 in
theorem orNone_any (t : VT) (w : World) (S : Nat → Prop) (hin : VT.In w S t) :
    Calls Tryz.prog 119 #[t.val] w fun e w' => e = .returned (cleanT t).val ∧ Below w.heap.size w w' := by
  have HC : Hid (∀ W, Below w.heap.size w W → Calls Tryz.prog 84 #[t.val] W fun e w' => e = .returned (.int .i64 (chk t 0 0).1) ∧ Below W.heap.size W w') :=
    fun W hW => check_any t W (fun b => b < W.heap.size) ((hin.below hW).mono fun b _ hl => hl) (fun b hb => hb)
  obtain ⟨k, i, s, n, p, c, f, ht⟩ := hin.mk_
  clear hin
  unfold cleanT
  by_cases h : (chk t 0 0).1 = 0
  · rw [if_pos h]
    rw [h] at HC
    simp only [VT.val, ht, VT.kind_mk, VT.int_mk, VT.text_mk, VT.p_mk, VT.n_mk, VT.c_mk] at HC ⊢
    go_enter Tryz.func119, Tryz.ntmps119
    go_wp2_with fail
    refine (HC.out _ ?_).mono ?_
    · exact ((Below.refl _ _).alloc (Nat.le_refl _) _).alloc (by simp) _
    rintro e w1 ⟨rfl, hb1⟩
    have hv1 : Box w1 w.heap.size #[.int .i64 k, .int .i64 i, .string s, .slice p n c] 24 := ((Box.new w _ 24).below ((Below.refl _ _).alloc (Nat.le_refl _) _)).below hb1
    have hv2 : Box w1 (w.heap.size + 1) #[.int .i64 0, .int .i64 0, .string ⟨#[]⟩, .slice none 0 0] 24 := by
      have h := Box.new (w.alloc (.cells #[.int .i64 k, .int .i64 i, .string s, .slice p n c] 24)) #[.int .i64 0, .int .i64 0, .string ⟨#[]⟩, .slice none 0 0] 24
      rw [show (w.alloc (.cells #[.int .i64 k, .int .i64 i, .string s, .slice p n c] 24)).heap.size = w.heap.size + 1 by simp] at h
      exact h.below hb1
    have hbw : Below w.heap.size w w1 := (((Below.refl w.heap.size w).alloc (Nat.le_refl _) _).alloc (by simp) _).trans (hb1.mono (by simp; omega))
    have x0 := hv1.cell 0
    have x1 := hv1.cell 1
    have x2 := hv1.cell 2
    have x3 := hv1.cell 3
    have d0 := hv2.cell 0
    have d1 := hv2.cell 1
    have d2 := hv2.cell 2
    have d3 := hv2.cell 3
    have e0 := hv2.frozen 0
    have e1 := hv2.frozen 1
    have e2 := hv2.frozen 2
    have e3 := hv2.frozen 3
    have z2 := hv2.lt
    simp at x0 x1 x2 x3 d0 d1 d2 d3
    clear hb1 hv1 hv2 HC
    go_wp2
    refine bodyPost_ret (v := .agg #[.int .i64 k, .int .i64 i, .string s, .slice p n c]) (by simp [results, Tryz.results119, go_sem, d0, d1, d2, d3]) rfl ⟨rfl, ?_⟩
    exact (((hbw.setCell (Nat.le_succ _) _).setCell (Nat.le_succ _) _).setCell (Nat.le_succ _) _).setCell (Nat.le_succ _) _
  · rw [if_neg h]
    have h' : ¬ (((chk t 0 0).1 : Int) = 0) := by omega
    generalize (chk t 0 0).1 = r at *
    simp only [VT.val, zeroT, ht, VT.kind_mk, VT.int_mk, VT.text_mk, VT.p_mk, VT.n_mk, VT.c_mk] at HC ⊢
    go_enter Tryz.func119, Tryz.ntmps119
    go_wp2_with fail
    refine (HC.out _ ?_).mono ?_
    · exact ((Below.refl _ _).alloc (Nat.le_refl _) _).alloc (by simp) _
    rintro e w1 ⟨rfl, hb1⟩
    have hv1 : Box w1 w.heap.size #[.int .i64 k, .int .i64 i, .string s, .slice p n c] 24 := ((Box.new w _ 24).below ((Below.refl _ _).alloc (Nat.le_refl _) _)).below hb1
    have hv2 : Box w1 (w.heap.size + 1) #[.int .i64 0, .int .i64 0, .string ⟨#[]⟩, .slice none 0 0] 24 := by
      have h := Box.new (w.alloc (.cells #[.int .i64 k, .int .i64 i, .string s, .slice p n c] 24)) #[.int .i64 0, .int .i64 0, .string ⟨#[]⟩, .slice none 0 0] 24
      rw [show (w.alloc (.cells #[.int .i64 k, .int .i64 i, .string s, .slice p n c] 24)).heap.size = w.heap.size + 1 by simp] at h
      exact h.below hb1
    have hbw : Below w.heap.size w w1 := (((Below.refl w.heap.size w).alloc (Nat.le_refl _) _).alloc (by simp) _).trans (hb1.mono (by simp; omega))
    have x0 := hv1.cell 0
    have x1 := hv1.cell 1
    have x2 := hv1.cell 2
    have x3 := hv1.cell 3
    have d0 := hv2.cell 0
    have d1 := hv2.cell 1
    have d2 := hv2.cell 2
    have d3 := hv2.cell 3
    have e0 := hv2.frozen 0
    have e1 := hv2.frozen 1
    have e2 := hv2.frozen 2
    have e3 := hv2.frozen 3
    have z2 := hv2.lt
    simp at x0 x1 x2 x3 d0 d1 d2 d3
    clear hb1 hv1 hv2 HC
    go_wp2
    refine bodyPost_ret (v := .agg #[.int .i64 0, .int .i64 0, .string ⟨#[]⟩, .slice none 0 0]) (by simp [results, Tryz.results119, go_sem, d0, d1, d2, d3]) rfl ⟨rfl, ?_⟩
    exact (((hbw.setCell (Nat.le_succ _) _).setCell (Nat.le_succ _) _).setCell (Nat.le_succ _) _).setCell (Nat.le_succ _) _
end Go.Proofs.YtnjgojbmlmadiaaGreat

namespace Go.Proofs.YtnjgojbmlmadiaaGreat
open Go.RowKit
set_option maxRecDepth 8000

theorem clean_enc_len {w : World} {S : Nat → Prop} {t : VT} (h : VT.In w S t) : (encB (cleanT t)).length ≤ 720 := by
  have h1 := enc_len (clean_val h)
  have h2 := clean_len (t := t)
  omega

set_option maxHeartbeats 1000000 in
theorem encode_any (t : VT) (w : World) (S : Nat → Prop) (hin : VT.In w S t) (hS : ∀ b, S b → b < w.heap.size) :
    Calls Tryz.prog 107 #[t.val] w fun e w' => EPost w.heap.size w (encB (cleanT t)) e w' := by
  have HC : Hid (∀ W, Below w.heap.size w W → Calls Tryz.prog 119 #[t.val] W fun e w' => e = .returned (cleanT t).val ∧ Below W.heap.size W w') := fun W hW => orNone_any t W S (hin.below hW)
  have hcl := clean_enc_len hin
  have HA : Hid (∀ W, Below w.heap.size w W → Calls Tryz.prog 118 #[.slice none 0 0, (cleanT t).val] W fun e w' => EPost w.heap.size W ([] ++ encB (cleanT t)) e w') := fun W hW => by
    have h1 : VT.In W (fun b => b < w.heap.size) (cleanT t) := ((cleanT_in hin).mono fun b hb _ => hS b hb).kept hW.size fun b hb _ => hW.block b hb
    exact appendEncoded_any (cleanT t) w.heap.size W (.slice none 0 0) [] hW.size (World.ownsRow_nil _ _ _ _) h1 (clean_val hin) (by simp; omega)
  simp only [List.nil_append] at HA
  unfold VT.val at HC HA ⊢
  generalize encB (cleanT t) = RES at *
  clear hin hS
  go_enter Tryz.func107, Tryz.ntmps107
  go_wp2_with fail
  refine (HC.out _ ?_).mono ?_
  · exact (Below.refl _ _).alloc (Nat.le_refl _) _
  rintro e w1 ⟨rfl, hb1⟩
  have hbw : Below w.heap.size w w1 := ((Below.refl w.heap.size w).alloc (Nat.le_refl _) _).trans (hb1.mono (by simp))
  have hkw : KeepN w w1 := KeepN.below hbw
  have HBw := hid (And.intro hbw hkw)
  clear hb1 hbw hkw
  go_wp2_with fail
  refine (HA.out _ HBw.out.1).mono ?_
  intro e w2 hP
  obtain ⟨v2, rfl, h2⟩ := hP
  have HF := hid (h2.lift HBw.out.1 HBw.out.2)
  clear h2 HA HC
  go_wp2
  go_ret
  exact ⟨_, rfl, HF.out⟩

/-- what the parts of a valid value are -/
theorem part_fit {t : VT} (h : Val t) : ∀ q ∈ flatP t, (0 ≤ q.kind ∧ q.kind ≤ 3) ∧ q.text.size ≤ 24 ∧ q.n ≤ 6 ∧ -9223372036854775808 ≤ q.int ∧ q.int ≤ 9223372036854775807 := by
  induction t with
  | nil => exact h.elim
  | mk k i s n p c f ih =>
    obtain ⟨⟨h1, h2, h3, h4, h5⟩, h6⟩ := h
    intro q hq
    rw [flatP_eq, List.mem_cons] at hq
    rcases hq with rfl | hq
    · simp only [fitB, Bool.and_eq_true, Bool.or_eq_true, decide_eq_true_eq] at h1
      exact ⟨⟨h1.1.1.1.1, h1.1.1.1.2⟩, h2, h3, h4, h5⟩
    · obtain ⟨j, hj, hq⟩ := List.mem_flatMap.1 hq
      exact ih j (h6 j (List.mem_range.1 hj)) q hq
end Go.Proofs.YtnjgojbmlmadiaaGreat

namespace Go.Proofs.YtnjgojbmlmadiaaGreat
open Go.RowKit
set_option maxRecDepth 8000
set_option maxHeartbeats 1000000 in
theorem wpNumber_any (u : Nat) (hu : u < 34359738368) (base : Nat) (w : World) (v : Value) (zs : List Int) (hv : OwnBy base w v zs) (hb : base ≤ w.heap.size) (hz : zs.length ≤ 100000000) :
    Calls Tryz.prog 72 #[v, .int .i64 u] w fun e w' => EPost base w (zs ++ grpB u) e w' := by
  obtain ⟨i0, Kd⟩ := kindB
  have hul : (grpB u).length ≤ 10 := grpB_len 9 u (Nat.lt_of_lt_of_le hu (by decide))
  have HU : Hid ((grpB u).length ≤ 10) := hul
  have HV := hid hv
  clear hv hul
  go_enter Tryz.func72, Tryz.ntmps72
  go_wp2_with fail
  go_loopw [0, 1] (fun v x wr => ∃ (ys : List Int) (m : Nat), x = .int .i64 (m : Int) ∧ m < 34359738368 ∧ LayB base w (zs ++ ys) v wr ∧ ys ++ grpB m = grpB u) (fun _ x _ => (intOf x).toNat)
  case atStart => exact ⟨[], u, rfl, hu, by simpa using LayB.refl HV.out, rfl⟩
  case round =>
    obtain ⟨ys, m, rfl, hm, hO, hg⟩ := hrel
    have hyl : ys.length ≤ 10 := by
      have h1 := HU.out
      rw [← hg, List.length_append] at h1
      omega
    have hsw := hO.bel.size
    have hzl : (zs ++ ys).length ≤ 100000010 := by rw [List.length_append]; omega
    have HG := hid hg
    obtain ⟨L, hL⟩ : ∃ L, L = zs ++ ys := ⟨_, rfl⟩
    rw [← hL] at hO hzl
    have HL := hid hL
    have HO := hid hO
    have hrow : wr.ownsRow base 5 1 u0 L.length (L.map (Value.int .u8)) := hO.own
    clear hO hg hL
    by_cases hs : m < 128
    · have hs' : ¬ (128 : Int) ≤ (m : Int) := by omega
      have e1 : (m : Int) % 256 = (m : Int) := by omega
      go_wp2_with (at_builtin; refine wpList_app rfl (.tmp 15) (.tmp 18) 49 5 i0 _ 1 1 Kd rfl base u0 L.length _ rfl (hrow.alloc _) ⟨wr.heap.size, 0, none⟩ 1 1 [.int .u8 (m : Int)] rfl rfl (cell_one_new _ _ _) (one8 _) (by omega) (by omega) (by simp; omega) ?_)
      intro v3 w3 ho3 hg3 hn3
      have HF := hid (HO.out.one (by omega) ho3 hg3)
      clear ho3 hg3 hn3 hrow
      go_wp2
      go_ret
      refine ⟨_, rfl, ?_⟩
      have e : zs ++ grpB u = L ++ [(m : Int)] := by rw [← HG.out, grpB_small hs, HL.out, List.append_assoc]
      rw [e]
      exact HF.out
    · have hs' : (128 : Int) ≤ (m : Int) := by omega
      have e2 : bits BinOp.or IntKind.u8 ((m : Int) % 256) 128 = ((m % 128 + 128 : Nat) : Int) := by
        have h := bits_or128 m
        rw [show ((m % 256 : Nat) : Int) = (m : Int) % 256 by omega] at h
        exact h
      go_wp2_with (at_builtin; refine wpList_app rfl (.tmp 7) (.tmp 11) 49 5 i0 _ 1 1 Kd rfl base u0 L.length _ rfl (hrow.alloc _) ⟨wr.heap.size, 0, none⟩ 1 1 [.int .u8 ((m : Int) % 128 + 128)] rfl rfl (cell_one_new _ _ _) (one8 _) (by omega) (by omega) (by simp; omega) ?_)
      intro v3 w3 ho3 hg3 hn3
      have HF := hid (HO.out.one (by omega) ho3 hg3)
      clear ho3 hg3 hn3 hrow e2
      go_wp2
      go_roundw
      case rel =>
        have e3 : ((m % 128 + 128 : Nat) : Int) = (m : Int) % 128 + 128 := by omega
        refine ⟨ys ++ [(m : Int) % 128 + 128], m / 128, ?_, by omega, by rw [← List.append_assoc, ← HL.out]; exact HF.out, ?_⟩
        · go_num
        · rw [List.append_assoc, List.singleton_append, ← e3, ← grpB_great hs]; exact HG.out
      case measure => simp [intOf]; omega
end Go.Proofs.YtnjgojbmlmadiaaGreat
