import Derived.Test.YtikfpoabaaiegaaPack27
import Derived.Test.YtikfpoabaaiegaaPack23
import Derived.Test.YtikfpoabaaiegaaPack21
import Derived.Test.YtikfpoabaaiegaaPack8
import Derived.Test.YtikfpoabaaiegaaPack0
namespace Go.Proofs.Ytikfpoabaaiegaa
open Go.RowKit
set_option maxRecDepth 8000
theorem But.skip {X : Nat → Prop} {w wr w9 : World} (h : But X w wr) (hz : But (fun y => y = w.heap.size) wr w9) : But X w w9 :=
  ⟨hz.os.trans h.os, hz.tape.trans h.tape, hz.output.trans h.output, Nat.le_trans h.size hz.size, fun g hg hx => (hz.block g (Nat.lt_of_lt_of_le hg h.size) (Nat.ne_of_lt hg)).trans (h.block g hg hx)⟩
structure RecO (rb : Nat) (w1 w : World) (bv : Value) (pa : Int) (a b c : Value) (i j k n : Nat) (key : ByteArray) (x : VT) (lp : List Int) (r : RT) (w' : World) : Prop where
  fk : r.key = key
  fv : r.v = x
  fn : r.n = n
  fl : ∀ t, t < n → r.loop t = lp.getD t 0
  fi : Ints w' (fun q => w.heap.size ≤ q) r.p r.n r.c r.loop
  gw : GW rb w1 w' bv pa a b c (i + 1 + n) (j + 1) (k + 1)
  but : But (fun q => q = rb) w w'
set_option maxHeartbeats 8000000 in
theorem refRecord3 {w0 : World} {rb : Nat} {w1 w : World} {bv : Value} {pa : Int} {a b c : Value} {N : List Int} {K : List ByteArray} {V : List VT} {i j k : Nat} (h : GM w0 rb w1 bv pa 0 a b c N K V) (hb : GW rb w1 w bv pa a b c i j k) (hlN : N.length ≤ 1000000) (hlK : K.length ≤ 1000000) (hlV : V.length ≤ 1000000) {key : ByteArray} {x : VT} {n : Nat} {lp : List Int} (hK : K[j]? = some key) (hV : V[k]? = some x) (hN : N[i]? = some (n : Int)) (hn : lp.length = n) (hL : ∀ t, t < n → N[i + 1 + t]? = some (lp.getD t 0)) (hnb : n ≤ 1000000) (hf : ∀ t, t < n → -9223372036854775808 ≤ lp.getD t 0 ∧ lp.getD t 0 ≤ 9223372036854775807) :
    Calls Try.prog 73 #[.pointer (some ⟨rb, 3, none⟩)] w fun e w' => ∃ r : RT, e = .returned r.val ∧ RecO rb w1 w bv pa a b c i j k n key x lp r w' := by
  obtain ⟨iI, KdI⟩ := kindI
  have HKI := hid KdI
  have H := hid h
  have hrw := hb.box.lt
  have hal : Below w.heap.size w (w.alloc (.cells #[.string ⟨#[]⟩, .int .i64 0, .int .i64 0, .string ⟨#[]⟩, .slice none 0 0, .slice none 0 0] 27)) := (Below.refl _ _).alloc (Nat.le_refl _) _
  have HZ0 := hid (Box.new w #[.string ⟨#[]⟩, .int .i64 0, .int .i64 0, .string ⟨#[]⟩, .slice none 0 0, .slice none 0 0] 27)
  have HB1 := hid (hb.kept hal)
  have HK1 := hid (refKey3 h (hb.kept hal) (by omega) hK)
  have HNn := hid (And.intro hn (And.intro hL hf))
  have HBw := hid hb.but
  have HVk := hid hV
  have HNi := hid hN
  clear hb hK hV hN hn hL h hf KdI
  go_enter Try.func73, Try.ntmps73
  go_wp2_with fail
  refine HK1.out.mono ?_
  rintro e w2 ⟨rfl, hb2, hbut2⟩
  have HZ2 := hid (HZ0.out.but hbut2 (by omega))
  have HV1 := hid (refVal3 H.out hb2 (by omega) HVk.out)
  have HBu2 : Hid (But (fun q => q = rb) w w2) := (But.ofBelow hal).trans hbut2
  clear hb2 hbut2 HK1 HB1 HZ0 hal
  go_wp2_with fail
  refine HV1.out.mono ?_
  rintro e w3 ⟨rfl, hb3, hbut3⟩
  have HBu3 : Hid (But (fun q => q = rb) w w3) := HBu2.out.trans hbut3
  have HZ3 := hid (HZ2.out.but hbut3 (by omega))
  have hw3s : w.heap.size < w3.heap.size := HZ3.out.lt
  have hal3 : Below w3.heap.size w3 (w3.alloc (.cells #[.string key, .int .i64 x.kind, .int .i64 x.int, .string x.text, .slice x.p x.n x.c, .slice none 0 0] 27)) := (Below.refl _ _).alloc (Nat.le_refl _) _
  have HN1 := hid (refNum3 H.out (hb3.kept hal3) (by omega) HNi.out)
  have HQ3 := hid (Box.new w3 #[.string key, .int .i64 x.kind, .int .i64 x.int, .string x.text, .slice x.p x.n x.c, .slice none 0 0] 27)
  have HZ4 := hid (HZ3.out.below hal3)
  have HBu4 : Hid (But (fun q => q = rb) w (w3.alloc (.cells #[.string key, .int .i64 x.kind, .int .i64 x.int, .string x.text, .slice x.p x.n x.c, .slice none 0 0] 27))) := HBu3.out.trans (But.ofBelow hal3)
  clear hb3 hbut3 HV1 HZ2 HBu2 HZ3 HBu3 hal3
  unfold VT.val
  go_wp2_with fail
  refine HN1.out.mono ?_
  rintro e w5 ⟨rfl, hb5, hbut5⟩
  obtain ⟨q, hq⟩ : ∃ q, q = w3.heap.size := ⟨_, rfl⟩
  rw [← hq] at HQ3 hw3s ⊢
  have hqr : q ≠ rb := by omega
  have HQ5 := hid (HQ3.out.but hbut5 hqr)
  have HZ5 := hid (HZ4.out.but hbut5 (by omega))
  have HB5 := hid hb5
  have HBu5 : Hid (But (fun q => q = rb) w w5) := HBu4.out.trans hbut5
  have hq5 := HQ5.out.lt
  clear hb5 hbut5 HN1 HQ3 HZ4 HBu4 hq HVk HNi
  go_wp2_with fail
  go_loopw [6] (fun y wr => ∃ (t : Nat) (v : Value), t ≤ n ∧ y = .int .i64 (t : Int) ∧ Box wr q #[.string key, .int .i64 x.kind, .int .i64 x.int, .string x.text, .slice x.p x.n x.c, v] 27 ∧ wr.ownsRow (q + 1) 3 1 v t (intC (lp.take t)) ∧ GW rb w1 wr bv pa a b c (i + 1 + t) (j + 1) (k + 1) ∧ But (fun q => q = rb) w wr ∧ Box wr w.heap.size #[.string ⟨#[]⟩, .int .i64 0, .int .i64 0, .string ⟨#[]⟩, .slice none 0 0, .slice none 0 0] 27) (fun y _ => n - (intOf y).toNat)
  case atStart => exact ⟨0, _, Nat.zero_le _, rfl, HQ5.out, by simpa [intC] using World.ownsRow_nil w5 (q + 1) 3 1, HB5.out, HBu5.out, HZ5.out⟩
  case round =>
    obtain ⟨t, v, ht, rfl, hqb, hov, hgw, hbu, hzb⟩ := hrel
    clear HQ5 HZ5 HB5 HBu5
    have hqs := hqb.lt
    obtain ⟨pv, cv, rfl⟩ := ownsRow_slice hov
    have d0 := hqb.cell 0
    have d1 := hqb.cell 1
    have d2 := hqb.cell 2
    have d3 := hqb.cell 3
    have d4 := hqb.cell 4
    have d5 := hqb.cell 5
    simp at d0 d1 d2 d3 d4 d5
    by_cases htn : t < n
    · have htn' : (t : Int) < (n : Int) := by omega
      have HNt := hid (refNum3 H.out hgw.drew (by omega) (HNn.out.2.1 t htn))
      have HS := hid (And.intro hqb (And.intro hov (And.intro hbu hzb)))
      have hlt := HNn.out.1
      obtain ⟨z, hz⟩ : ∃ z, z = lp.getD t 0 := ⟨_, rfl⟩
      rw [← hz] at HNt
      have HTk : Hid (lp.take (t + 1) = lp.take t ++ [z]) := by
        unfold Hid
        rw [List.take_add_one, hz]
        simp [List.getD_eq_getElem?_getD, List.getElem?_eq_getElem (show t < lp.length by omega)]
      clear hqb hov hgw hbu hzb hz d0 d1 d2 d3 d4
      go_wp2_with fail
      refine wp_region_calmE 30 (fun wx => wx.cell? ⟨q, 5, none⟩ = some (.slice pv t cv)) [(0, true), (1, false), (2, true)] (.one 3 true [] (.one 4 true [] (.one 5 false [(6, true)] (.one 7 false [] .done)))) (by kernel_rfl) (by kernel_rfl) d5 ?_
      refine wpPre_e rfl rfl (fun K1 hK1 => ?_)
      apply Exists.intro
      refine And.intro (fun wx hx => ?_) ?_
      · go_simp
        try rfl
      go_simp
      refine hK1 _ ?_
      clear hK1 K1
      refine wpPre_e rfl rfl (fun K1 hK1 => ?_)
      apply Exists.intro
      refine And.intro (fun wx hx => ?_) ?_
      · have e0 := hx.resolve_left (by decide)
        go_simp
        try rfl
      go_simp
      refine hK1 _ ?_
      clear hK1 K1
      refine wpPre_e rfl rfl (fun K1 hK1 => ?_)
      apply Exists.intro
      refine And.intro (fun wx hx => ?_) ?_
      · go_simp
        try rfl
      go_simp
      refine hK1 _ ?_
      clear hK1 K1
      refine wpPre_nil ?_
      refine wpTr_e rfl (fun K1 hK1 => ?_)
      refine step_call rfl 68 #[.tmp 22] _ rfl Try.f68 Try.func68 (by kernel_rfl) rfl #[.pointer (some ⟨rb, 3, none⟩)] rfl _ HNt.out (fun e w6 h6 => ?_)
      obtain ⟨rfl, hb6, hbut6⟩ := h6
      have hbut6' : But (fun q => q = rb) wr w6 := (But.refl _ _).drew.trans hbut6
      have hqb6 := HS.out.1.but hbut6' hqr
      have e5 := hqb6.cell 5
      simp at e5
      refine ⟨_, rfl, ?_⟩
      go_simp
      refine hK1 _ _ (fun _ => e5) ?_
      clear hK1 K1 hbut6 HNt
      refine wpPre_nil ?_
      have hal6 : Below w6.heap.size w6 (w6.alloc (.cells #[.int .i64 z] 3)) := (Below.refl _ _).alloc (Nat.le_refl _) _
      have hqb7 := hqb6.below hal6
      have e6 := hqb7.cell 5
      simp at e6
      have hov7 : (w6.alloc (.cells #[.int .i64 z] 3)).ownsRow (q + 1) 3 1 (.slice pv t cv) t (intC (lp.take t)) := ownsRow_keep (ownsRow_keep HS.out.2.1 (fun g hg hl => hbut6'.block g hl (by have := (HS.out.2.1.lt g hg).1; omega))) (fun g hg hl => hal6.block g hl)
      have HNw := hid (new_many0 w6 [.int .i64 z] 3)
      have hq7 := hqb7.lt
      have hqs6 := hqb6.lt
      refine wpTr_e rfl (fun K1 hK1 => ?_)
      go_simp
      refine hK1 _ _ (fun _ => e6) ?_
      clear hK1 K1
      refine wpPre_nil ?_
      refine wpTr_e rfl (fun K1 hK1 => ?_)
      refine step_app rfl (.tmp 21) (.tmp 24) 25 3 iI _ 1 8 HKI.out rfl (q + 1) _ t (intC (lp.take t)) rfl hov7 ⟨w6.heap.size, 0, none⟩ 1 1 [.int .i64 z] rfl rfl HNw.out (fun u hu => by simp at hu; rw [hu]; rfl) (by omega) (by omega) (by simp; omega) ?_
      intro v3 w8 ho3 hg3 hn3
      have hne5 : ∀ g, Value.ownBlock (.slice pv t cv) = some g → q + 1 ≤ g := fun g hg => (hov7.lt g hg).1
      have hqb8 := hqb7.kept (hg3.block q hq7 fun e => by have := hne5 q e.symm; omega)
      obtain ⟨p3, c3, rfl⟩ := ownsRow_slice ho3
      have y5 := hqb8.cell 5
      have g5 := hqb8.frozen 5
      simp at y5
      go_simp
      refine hK1 _ _ (fun h => by cases h) ?_
      clear hK1 K1
      refine wpPre_e rfl rfl (fun K1 hK1 => ?_)
      apply Exists.intro
      refine And.intro (fun wx hx => ?_) ?_
      · go_simp
        try rfl
      go_simp
      refine hK1 _ ?_
      clear hK1 K1
      refine wpPre_nil ?_
      refine wpTr_e rfl (fun K1 hK1 => ?_)
      go_simp
      refine hK1 _ _ (fun h => by cases h) ?_
      clear hK1 K1
      refine wpPre_nil ?_
      refine wpTr_done ?_
      have hbq : But (fun y => y = q) w8 (w8.setCell ⟨q, 5, none⟩ (.slice p3 (t + 1) c3)) := (But.one w8 q).setAt 5 _
      have HQ9 : Hid (Box (w8.setCell ⟨q, 5, none⟩ (.slice p3 (t + 1) c3)) q #[.string key, .int .i64 x.kind, .int .i64 x.int, .string x.text, .slice x.p x.n x.c, .slice p3 (t + 1) c3] 27) := by
        have h9 := hqb8.set 5 (.slice p3 (t + 1) c3)
        unfold Hid
        simpa using h9
      have HO9 : Hid ((w8.setCell ⟨q, 5, none⟩ (.slice p3 (t + 1) c3)).ownsRow (q + 1) 3 1 (.slice p3 (t + 1) c3) (t + 1) (intC (lp.take (t + 1)))) := by
        unfold Hid
        rw [HTk.out, intC_app]
        exact ownsRow_keep ho3 (fun g hg hl => hbq.block g hl (by have := (ho3.lt g hg).1; omega))
      have hbut9 : Hid (But (fun y => y = rb) w (w8.setCell ⟨q, 5, none⟩ (.slice p3 (t + 1) c3))) := by
        have hbu := HS.out.2.2.1
        have s0 := hbu.size
        have s1 := hbut6'.size
        have s2 := hal6.size
        have s3 := hg3.size
        refine ⟨hbq.os.trans (hg3.os.trans (hal6.os.trans (hbut6'.os.trans hbu.os))), hbq.tape.trans (hg3.tape.trans (hal6.tape.trans (hbut6'.tape.trans hbu.tape))), hbq.output.trans (hg3.output.trans (hal6.output.trans (hbut6'.output.trans hbu.output))), Nat.le_trans s0 (Nat.le_trans s1 (Nat.le_trans s2 (Nat.le_trans s3 hbq.size))), fun g hg hne => ?_⟩
        refine (hbq.block g (by omega) (by omega)).trans ((hg3.block g (by omega) fun e => ?_).trans ((hal6.block g (by omega)).trans ((hbut6'.block g (by omega) hne).trans (hbu.block g hg hne))))
        have := hne5 g e.symm
        omega
      have HZ9 : Hid (Box (w8.setCell ⟨q, 5, none⟩ (.slice p3 (t + 1) c3)) w.heap.size #[.string ⟨#[]⟩, .int .i64 0, .int .i64 0, .string ⟨#[]⟩, .slice none 0 0, .slice none 0 0] 27) := by
        have h6 := HS.out.2.2.2.but hbut6' (by omega)
        have h7 := h6.below hal6
        exact (h7.kept (hg3.block _ h7.lt fun e => by have := hne5 _ e.symm; omega)).but hbq (by omega)
      have HG9 : Hid (GW rb w1 (w8.setCell ⟨q, 5, none⟩ (.slice p3 (t + 1) c3)) bv pa a b c (i + 1 + (t + 1)) (j + 1) (k + 1)) := by
        have h7 := hb6.box.below hal6
        have h8 := (h7.kept (hg3.block _ h7.lt fun e => by have := hne5 _ e.symm; omega)).but hbq (by omega)
        exact ⟨h8, HBw.out.trans hbut9.out⟩
      clear hbq hqb8 hqb7 hqb6 hov7 hg3 ho3 hn3 HS hb6 hbut6' hal6 hne5 HNw e5 e6 y5 g5 d5
      generalize w8.setCell ⟨q, 5, none⟩ (.slice p3 (t + 1) c3) = w9 at HQ9 HO9 hbut9 HZ9 HG9 ⊢
      go_wp2
      go_roundw
      case rel => exact ⟨t + 1, _, by omega, by go_num, HQ9.out, HO9.out, HG9.out, hbut9.out, HZ9.out⟩
      case measure => simp [intOf]; omega
    · obtain rfl : t = n := by omega
      have htn' : ¬ (t : Int) < (t : Int) := by omega
      have HTk : Hid (intC (lp.take t) = (List.range t).map fun j => .int .i64 (lp.getD j 0)) := by
        have hlt := HNn.out.1
        unfold Hid intC
        refine List.ext_getElem (by simp; omega) (fun m h1 h2 => ?_)
        simp at h1 h2
        simp [List.getD_eq_getElem?_getD, List.getElem?_eq_getElem (show m < lp.length by omega)]
      have hov' : wr.ownsRow (q + 1) 3 1 (.slice pv t cv) t ((List.range t).map fun j => .int .i64 (lp.getD j 0)) := by rw [← HTk.out]; exact hov
      obtain ⟨p', c', e', hi'⟩ := Ints.own hov' (by omega) HNn.out.2.2
      obtain ⟨rfl, rfl⟩ : pv = p' ∧ cv = c' := by simpa using e'
      have hzl := hzb.lt
      have z0 := hzb.cell 0
      have z1 := hzb.cell 1
      have z2 := hzb.cell 2
      have z3 := hzb.cell 3
      have z4 := hzb.cell 4
      have z5 := hzb.cell 5
      have f0 := hzb.frozen 0
      have f1 := hzb.frozen 1
      have f2 := hzb.frozen 2
      have f3 := hzb.frozen 3
      have f4 := hzb.frozen 4
      have f5 := hzb.frozen 5
      simp at z0 z1 z2 z3 z4 z5
      have HS := hid (And.intro hgw (And.intro hbu (And.intro hzb hi')))
      clear hgw hbu hzb hi' e' hov' hov HTk hqb
      go_wp2_with fail
      have hbz : But (fun y => y = w.heap.size) wr ((((((wr.setCell ⟨w.heap.size, 0, none⟩ (.string key)).setCell ⟨w.heap.size, 1, none⟩ (.int .i64 x.kind)).setCell ⟨w.heap.size, 2, none⟩ (.int .i64 x.int)).setCell ⟨w.heap.size, 3, none⟩ (.string x.text)).setCell ⟨w.heap.size, 4, none⟩ (.slice x.p x.n x.c)).setCell ⟨w.heap.size, 5, none⟩ (.slice pv t cv)) := ((((((But.one wr w.heap.size).setAt 0 _).setAt 1 _).setAt 2 _).setAt 3 _).setAt 4 _).setAt 5 _
      have hz9 : Box ((((((wr.setCell ⟨w.heap.size, 0, none⟩ (.string key)).setCell ⟨w.heap.size, 1, none⟩ (.int .i64 x.kind)).setCell ⟨w.heap.size, 2, none⟩ (.int .i64 x.int)).setCell ⟨w.heap.size, 3, none⟩ (.string x.text)).setCell ⟨w.heap.size, 4, none⟩ (.slice x.p x.n x.c)).setCell ⟨w.heap.size, 5, none⟩ (.slice pv t cv)) w.heap.size #[.string key, .int .i64 x.kind, .int .i64 x.int, .string x.text, .slice x.p x.n x.c, .slice pv t cv] 27 := by
        have h9 := (((((HS.out.2.2.1.set 0 (.string key)).set 1 (.int .i64 x.kind)).set 2 (.int .i64 x.int)).set 3 (.string x.text)).set 4 (.slice x.p x.n x.c)).set 5 (.slice pv t cv)
        simpa using h9
      generalize ((((((wr.setCell ⟨w.heap.size, 0, none⟩ (.string key)).setCell ⟨w.heap.size, 1, none⟩ (.int .i64 x.kind)).setCell ⟨w.heap.size, 2, none⟩ (.int .i64 x.int)).setCell ⟨w.heap.size, 3, none⟩ (.string x.text)).setCell ⟨w.heap.size, 4, none⟩ (.slice x.p x.n x.c)).setCell ⟨w.heap.size, 5, none⟩ (.slice pv t cv)) = w9 at hbz hz9 ⊢
      have r0 := hz9.cell 0
      have r1 := hz9.cell 1
      have r2 := hz9.cell 2
      have r3 := hz9.cell 3
      have r4 := hz9.cell 4
      have r5 := hz9.cell 5
      simp at r0 r1 r2 r3 r4 r5
      refine bodyPost_ret (v := RT.val ⟨key, x, pv, t, cv, fun j => lp.getD j 0⟩) (by simp [results, Try.results73, go_sem, RT.val, r0, r1, r2, r3, r4, r5]) rfl ⟨⟨key, x, pv, t, cv, fun j => lp.getD j 0⟩, rfl, rfl, rfl, rfl, fun _ _ => rfl, ?_, ?_, ?_⟩
      · exact (HS.out.2.2.2.kept hbz.size fun g hg hl => hbz.block g hl (by omega)).mono fun g hg _ => by omega
      · obtain ⟨hgb, hgt⟩ := HS.out.1
        have hr9 := hgb.but hbz (by omega)
        refine ⟨hr9, HBw.out.trans ?_⟩
        exact But.skip HS.out.2.1 hbz
      · exact But.skip HS.out.2.1 hbz
end Go.Proofs.Ytikfpoabaaiegaa

namespace Go.Proofs.Ytikfpoabaaiegaa
open Go.RowKit
set_option maxRecDepth 8000
def lft (N : List Int) (K : List ByteArray) (V : List VT) (i j k : Nat) : Bg := ⟨N.drop i, K.drop j, V.drop k⟩
theorem drop_cons {α : Type} {l r : List α} {i : Nat} {x : α} (h : l.drop i = x :: r) : l[i]? = some x ∧ l.drop (i + 1) = r := by
  have h1 : i < l.length := by
    rcases Nat.lt_or_ge i l.length with h1 | h1
    · exact h1
    · rw [List.drop_of_length_le h1] at h; cases h
  rw [List.drop_eq_getElem_cons h1] at h
  injection h with h2 h3
  exact ⟨by rw [List.getElem?_eq_getElem h1, h2], h3⟩
theorem mS_bound : ∀ (l : List Nat) (d m : Nat), mS d l = some m → m < l.length := by
  intro l
  induction l with
  | nil => intro d m h; cases h
  | cons c cs ih =>
    intro d m h
    unfold mS at h
    simp only [List.length_cons]
    by_cases h1 : c = 91 ∨ c = 60
    · rw [if_pos h1] at h
      obtain ⟨n, e, rfl⟩ := Option.map_eq_some_iff.1 h
      have := ih _ _ e
      omega
    · rw [if_neg h1] at h
      by_cases h2 : c = 93 ∨ c = 62
      · rw [if_pos h2] at h
        by_cases h3 : d = 0
        · rw [if_pos h3] at h; cases h
        · rw [if_neg h3] at h
          by_cases h4 : d = 1
          · rw [if_pos h4] at h; simp at h; omega
          · rw [if_neg h4] at h
            obtain ⟨n, e, rfl⟩ := Option.map_eq_some_iff.1 h
            have := ih _ _ e
            omega
      · rw [if_neg h2] at h
        obtain ⟨n, e, rfl⟩ := Option.map_eq_some_iff.1 h
        have := ih _ _ e
        omega
end Go.Proofs.Ytikfpoabaaiegaa

namespace Go.Proofs.Ytikfpoabaaiegaa
open Go.RowKit
set_option maxRecDepth 8000
theorem drop_app {α : Type} {l A r : List α} {i : Nat} (h : l.drop i = A ++ r) : (∀ t, t < A.length → l[i + t]? = A[t]?) ∧ l.drop (i + A.length) = r := by
  constructor
  · intro t ht
    rw [← List.getElem?_drop, h, List.getElem?_append_left ht]
  · rw [← List.drop_drop, h, List.drop_left]
structure BRec where
  key : ByteArray
  v : VT
  lp : List Int
def BRec.N (r : BRec) : List Int := (r.lp.length : Int) :: r.lp
def BRec.Ok (r : BRec) : Prop := r.key.size ≤ 1000 ∧ r.lp.length ≤ 1000 ∧ ∀ t, t < r.lp.length → -9223372036854775808 ≤ r.lp.getD t 0 ∧ r.lp.getD t 0 ≤ 9223372036854775807
def BRec.Is (r : BRec) (q : RT) : Prop := q.key = r.key ∧ q.v = r.v ∧ q.n = r.lp.length ∧ ∀ t, t < r.lp.length → q.loop t = r.lp.getD t 0
def bagRs (rs : List BRec) (g : Bg) : Bg := ⟨rs.flatMap BRec.N ++ g.N, rs.map BRec.key ++ g.K, rs.map BRec.v ++ g.V⟩
theorem bagRs_cons {N : List Int} {K : List ByteArray} {V : List VT} {i j k : Nat} {r : BRec} {rs : List BRec} {g : Bg} (h : lft N K V i j k = bagRs (r :: rs) g) :
    K[j]? = some r.key ∧ V[k]? = some r.v ∧ N[i]? = some (r.lp.length : Int) ∧ (∀ t, t < r.lp.length → N[i + 1 + t]? = some (r.lp.getD t 0)) ∧ lft N K V (i + 1 + r.lp.length) (j + 1) (k + 1) = bagRs rs g := by
  simp only [lft, bagRs, List.flatMap_cons, List.map_cons, BRec.N, List.cons_append, List.append_assoc, Bg.mk.injEq] at h
  obtain ⟨h1, h2, h3⟩ := h
  obtain ⟨a1, a2⟩ := drop_cons h1
  obtain ⟨b1, b2⟩ := drop_cons h2
  obtain ⟨c1, c2⟩ := drop_cons h3
  obtain ⟨d1, d2⟩ := drop_app a2
  refine ⟨b1, c1, a1, fun t ht => ?_, ?_⟩
  · rw [d1 t ht]
    simp [List.getD_eq_getElem?_getD, List.getElem?_eq_getElem ht]
  · simp only [lft, bagRs, d2, b2, c2]
structure TkL {α β : Type} (E : El α) (Is : β → α → Prop) (bag : List β → Bg → Bg) (rb : Nat) (w1 w wr : World) (bv : Value) (pa : Int) (a b c : Value) (N : List Int) (K : List ByteArray) (V : List VT) (rs : List β) (g : Bg) (v : Value) (t : Nat) (it : Nat → α) (i j k : Nat) : Prop where
  own : OwnL E (rb + 1) wr v t it
  hi : ∀ o, v.ownBlock = some o → w.heap.size ≤ o
  is_ : ∀ s r, s < t → rs[s]? = some r → Is r (it s)
  gw : GW rb w1 wr bv pa a b c i j k
  left : lft N K V i j k = bag (rs.drop t) g
  but : But (fun q => q = rb) w wr
theorem TkL.step {α β : Type} {E : El α} {Is : β → α → Prop} {bag : List β → Bg → Bg} {rb : Nat} {w1 w wr W1 w3 : World} {bv : Value} {pa : Int} {a b c : Value} {N : List Int} {K : List ByteArray} {V : List VT} {rs : List β} {g : Bg} {v v3 : Value} {t : Nat} {it : Nat → α} {i j k i' j' k' : Nat} {r : β} {q : α} {o : Obj}
    (h : TkL E Is bag rb w1 w wr bv pa a b c N K V rs g v t it i j k) (h1 : But (fun q => q = rb) w1 w) (hr : rs[t]? = some r) (hrb : rb < w.heap.size) (his : Is r q) (hin : E.In W1 (fun b => rb < b ∧ (b < w1.heap.size ∨ wr.heap.size ≤ b)) q)
    (hgw : GW rb w1 W1 bv pa a b c i' j' k') (hlf : lft N K V i' j' k' = bag (rs.drop (t + 1)) g) (hbu : But (fun q => q = rb) wr W1)
    (ho : w3.ownsRow (rb + 1) E.ty E.size v3 (t + 1) (((List.range t).flatMap fun j => E.cells (it j)) ++ E.cells q)) (hg : (W1.alloc o).grownBy w3 v.ownBlock) (hn : Near (W1.alloc o) v v3) :
    TkL E Is bag rb w1 w w3 bv pa a b c N K V rs g v3 (t + 1) (fun j => if j < t then it j else q) i' j' k' := by
  have hal : Below W1.heap.size W1 (W1.alloc o) := (Below.refl _ _).alloc (Nat.le_refl _) _
  have hlt := h.own.own.lt
  have s1 := h1.size
  have s2 := h.but.size
  have s3 := hbu.size
  have s4 := hal.size
  have s5 := hg.size
  have hb3 : But (fun q => q = rb) w w3 := by
    refine ⟨hg.os.trans (hal.os.trans (hbu.os.trans h.but.os)), hg.tape.trans (hal.tape.trans (hbu.tape.trans h.but.tape)), hg.output.trans (hal.output.trans (hbu.output.trans h.but.output)), by omega, fun x hx hne => ?_⟩
    refine (hg.block x (by omega) fun e => ?_).trans ((hal.block x (by omega)).trans ((hbu.block x (by omega) hne).trans (h.but.block x hx hne)))
    have := h.hi x e.symm
    omega
  refine ⟨?_, ?_, ?_, ?_, hlf, hb3⟩
  · refine OwnL.push (h.own.keep (by omega) fun x hx hl => (hal.block x (by omega)).trans (hbu.block x hl (by omega))) ?_ ho hg hn
    refine E.mono (E.kept hin hal.size fun b _ hl => hal.block b hl) fun b hb _ => ⟨hb.1, fun e => ?_⟩
    have e1 := h.hi b e
    have e2 := hlt b e
    rcases hb.2 with e3 | e3 <;> omega
  · intro x hx
    rcases hn with e | e
    · exact h.hi x (e ▸ hx)
    · have := e x hx
      omega
  · intro s r' hs hr'
    show Is r' (if s < t then it s else q)
    by_cases hst : s < t
    · rw [if_pos hst]; exact h.is_ s r' hst hr'
    · obtain rfl : s = t := by omega
      rw [if_neg hst]
      rw [hr] at hr'
      cases hr'
      exact his
  · have hbx := hgw.box.below hal
    refine ⟨hbx.kept (hg.block rb hbx.lt fun e => ?_), h1.trans hb3⟩
    have := h.hi rb e.symm
    omega
theorem refRecord4 {w0 : World} {rb : Nat} {w1 w : World} {bv : Value} {pa : Int} {a b c : Value} {N : List Int} {K : List ByteArray} {V : List VT} {i j k : Nat} {r : BRec} {rs : List BRec} {g : Bg} (h : GM w0 rb w1 bv pa 0 a b c N K V) (hb : GW rb w1 w bv pa a b c i j k) (hlN : N.length ≤ 1000000) (hlK : K.length ≤ 1000000) (hlV : V.length ≤ 1000000) (hG : lft N K V i j k = bagRs (r :: rs) g) (ho : r.Ok) :
    Calls Try.prog 73 #[.pointer (some ⟨rb, 3, none⟩)] w fun e w' => ∃ q : RT, e = .returned q.val ∧ r.Is q ∧ RT.In w' (fun b => rb < b ∧ (b < w1.heap.size ∨ w.heap.size ≤ b)) q ∧ GW rb w1 w' bv pa a b c (i + 1 + r.lp.length) (j + 1) (k + 1) ∧ lft N K V (i + 1 + r.lp.length) (j + 1) (k + 1) = bagRs rs g ∧ But (fun q => q = rb) w w' := by
  obtain ⟨g1, g2, g3, g4, g5⟩ := bagRs_cons hG
  have hrb := hb.box.lt
  have h1r := h.box.lt
  refine (refRecord3 h hb hlN hlK hlV g1 g2 g3 rfl g4 (by have := ho.2.1; omega) ho.2.2).mono ?_
  rintro e w' ⟨q, rfl, hq⟩
  refine ⟨q, rfl, ⟨hq.fk, hq.fv, hq.fn, hq.fl⟩, ⟨?_, hq.fi.mono fun b hb _ => ⟨by omega, .inr hb⟩, by rw [hq.fk]; have := ho.1; omega⟩, hq.gw, g5, hq.but⟩
  rw [hq.fv]
  have hv := h.vin _ (List.mem_of_getElem? g2)
  have hv1 := hv.mono (S' := fun b => rb < b ∧ b < w1.heap.size) fun b hb hl => ⟨hb.1, hl⟩
  exact (hv1.kept hq.gw.but.size fun b hb hl => hq.gw.but.block b hl (by omega)).mono fun b hb _ => ⟨hb.1, .inl hb.2⟩
end Go.Proofs.Ytikfpoabaaiegaa

namespace Go.Proofs.Ytikfpoabaaiegaa
open Go.RowKit
set_option maxRecDepth 8000
def El.wth {α : Type} (E : El α) (Q : Nat → Prop) : El α where
  ty := E.ty
  size := E.size
  cells := E.cells
  len := E.len
  one := E.one
  In := fun w S x => E.In w (fun b => S b ∧ Q b) x
  kept := fun h hs hb => E.kept h hs (fun b hS hl => hb b hS.1 hl)
  mono := fun h hb => E.mono h (fun b hS hl => ⟨hb b hS.1 hl, hS.2⟩)
structure TkO {α β : Type} (E : El α) (Is : β → α → Prop) (rb : Nat) (w1 w : World) (bv : Value) (pa : Int) (a b c : Value) (N : List Int) (K : List ByteArray) (V : List VT) (rs : List β) (g : Bg) (l : LT α) (w' : World) : Prop where
  n : l.n = rs.length
  is_ : ∀ s r, rs[s]? = some r → Is r (l.item s)
  in_ : LT.In E w' (fun b => rb < b ∧ (b < w1.heap.size ∨ w.heap.size ≤ b)) l
  but : But (fun q => q = rb) w w'
  gw : ∃ i j k, GW rb w1 w' bv pa a b c i j k ∧ lft N K V i j k = g
theorem TkL.done {α β : Type} {E : El α} {Is : β → α → Prop} {bag : List β → Bg → Bg} {rb : Nat} {w1 w wr : World} {bv : Value} {pa : Int} {a b c : Value} {N : List Int} {K : List ByteArray} {V : List VT} {rs : List β} {g : Bg} {v : Value} {it : Nat → α} {i j k : Nat}
    (hb0 : bag [] g = g) (hl : rs.length ≤ 140737488355328) (h : TkL (E.wth (fun b => b < w1.heap.size ∨ w.heap.size ≤ b)) Is bag rb w1 w wr bv pa a b c N K V rs g v rs.length it i j k) : ∃ l : LT α, v = .slice l.p l.n l.c ∧ TkO E Is rb w1 w bv pa a b c N K V rs g l wr := by
  obtain ⟨p, cc, hv, hin⟩ := h.own.in_ hl
  refine ⟨⟨p, rs.length, cc, it⟩, hv, rfl, fun s r hs => h.is_ s r (List.getElem?_eq_some_iff.1 hs).1 hs, ?_, h.but, i, j, k, h.gw, ?_⟩
  · refine ⟨fun hn => ?_, fun s hs => E.mono (hin.each s hs) fun b hb _ => ⟨hb.1, hb.2⟩, hin.nc, hin.nn, hin.cc, hin.nil⟩
    obtain ⟨b, o, e, hS, hl, ha⟩ := hin.at_ hn
    refine ⟨b, o, e, ⟨hS, .inr (h.hi b ?_)⟩, hl, ha⟩
    rw [hv]
    simp only at e
    rw [e]
    rfl
  rw [h.left, List.drop_length, hb0]
theorem bagRs_nil (g : Bg) : bagRs [] g = g := rfl
def numsG (x : Int) (g : Bg) : Bg := ⟨x :: g.N, g.K, g.V⟩
theorem numsG_at {N : List Int} {K : List ByteArray} {V : List VT} {i j k : Nat} {x : Int} {g : Bg} (h : lft N K V i j k = numsG x g) : N[i]? = some x ∧ lft N K V (i + 1) j k = g := by
  simp only [lft, numsG, Bg.mk.injEq] at h
  obtain ⟨h1, h2, h3⟩ := h
  obtain ⟨a1, a2⟩ := drop_cons h1
  exact ⟨a1, by simp only [lft, a2, h2, h3]⟩
set_option maxHeartbeats 8000000 in
theorem refRecords3 {w0 : World} {rb : Nat} {w1 w : World} {bv : Value} {pa : Int} {a b c : Value} {N : List Int} {K : List ByteArray} {V : List VT} {i j k : Nat} {rs : List BRec} {g : Bg} (h : GM w0 rb w1 bv pa 0 a b c N K V) (hb : GW rb w1 w bv pa a b c i j k) (hlN : N.length ≤ 1000000) (hlK : K.length ≤ 1000000) (hlV : V.length ≤ 1000000) (hG : lft N K V i j k = numsG (rs.length : Int) (bagRs rs g)) (hok : ∀ r ∈ rs, r.Ok) (hl : rs.length ≤ 1000000) :
    Calls Try.prog 72 #[.pointer (some ⟨rb, 3, none⟩)] w fun e w' => ∃ l : LT RT, e = .returned (.slice l.p l.n l.c) ∧ TkO elRec BRec.Is rb w1 w bv pa a b c N K V rs g l w' := by
  obtain ⟨i0, Kd⟩ := kindRe
  have HKd := hid Kd
  have H := hid h
  have hrw := hb.box.lt
  obtain ⟨hn, hG2⟩ := numsG_at hG
  have HN1 := hid (refNum3 h hb (by omega) hn)
  have HBw := hid hb.but
  have HOk := hid hok
  have HG := hid hG2
  clear hb hn hG hG2 h hok Kd
  obtain ⟨n, hnl⟩ : ∃ n, n = rs.length := ⟨_, rfl⟩
  rw [← hnl] at HN1
  go_enter Try.func72, Try.ntmps72
  go_wp2_with fail
  refine HN1.out.mono ?_
  rintro e w2 ⟨rfl, hb2, hbut2⟩
  have HL2 : Hid (TkL (elRec.wth (fun b => b < w1.heap.size ∨ w.heap.size ≤ b)) BRec.Is bagRs rb w1 w w2 bv pa a b c N K V rs g (.slice none 0 0) 0 (fun _ => ⟨⟨#[]⟩, .nil, none, 0, 0, fun _ => 0⟩) (i + 1) j k) := ⟨⟨World.ownsRow_nil w2 (rb + 1) _ _, fun _ h => absurd h (by omega)⟩, fun _ h => (by cases h), fun _ _ h => absurd h (by omega), hb2, HG.out, hbut2⟩
  clear hb2 hbut2 HN1 HG
  go_wp2_with fail
  go_loopw [3, 5] (fun v x wr => ∃ (t i j k : Nat) (it : Nat → RT), t ≤ n ∧ x = .int .i64 (t : Int) ∧ TkL (elRec.wth (fun b => b < w1.heap.size ∨ w.heap.size ≤ b)) BRec.Is bagRs rb w1 w wr bv pa a b c N K V rs g v t it i j k) (fun _ x _ => n - (intOf x).toNat)
  case atStart => exact ⟨0, _, _, _, _, Nat.zero_le _, rfl, HL2.out⟩
  case round =>
    obtain ⟨t, i3, j3, k3, it, ht, rfl, hL⟩ := hrel
    clear HL2
    have HL := hid hL
    clear hL
    by_cases htn : t < n
    · have htn' : (t : Int) < (n : Int) := by omega
      have htr : t < rs.length := by omega
      have HRt : Hid (rs[t]? = some rs[t]) := List.getElem?_eq_getElem htr
      have HC := hid (refRecord4 H.out HL.out.gw hlN hlK hlV (by rw [HL.out.left, List.drop_eq_getElem_cons htr]) (HOk.out _ (List.getElem_mem htr)))
      generalize rs[t] = r at HRt HC
      go_wp2_with fail
      refine HC.out.mono ?_
      rintro e w4 ⟨q, rfl, his, hin, hgw, hlf, hbu⟩
      have HQ := hid (And.intro his (And.intro hin (And.intro hgw (And.intro hlf hbu))))
      have hrow : w4.ownsRow (rb + 1) 27 6 u3 t ((List.range t).flatMap fun j => (elRec).cells (it j)) := ownsRow_keep HL.out.own.own fun k hk hl => hbu.block k hl (by have := (HL.out.own.own.lt k hk).1; omega)
      have HRow := hid hrow
      have hs4 : w.heap.size ≤ w4.heap.size := Nat.le_trans HL.out.but.size hbu.size
      clear his hin hgw hlf hbu hrow HC
      unfold RT.val
      go_wp2_with (at_builtin; refine wpList_app rfl (.tmp 13) (.tmp 16) 36 27 i0 _ 6 96 HKd.out rfl (rb + 1) u3 t _ rfl (HRow.out.alloc _) ⟨w4.heap.size, 0, none⟩ 1 1 ([.string q.key, .int .i64 q.v.kind, .int .i64 q.v.int, .string q.v.text, .slice q.v.p q.v.n q.v.c, .slice q.p q.n q.c]) rfl rfl (fun j x hx => by rw [cell_new, ← hx]; simp) ((elRec).one q) (by omega) (by omega) (by simp; omega) ?_)
      intro v3 w3 ho3 hg3 hn3
      have HL3 := hid (HL.out.step HBw.out HRt.out hrw HQ.out.1 (RT.In.mono HQ.out.2.1 fun b hb _ => ⟨hb, Or.imp_right (fun h => Nat.le_trans HL.out.but.size h) hb.2⟩) HQ.out.2.2.1 HQ.out.2.2.2.1 HQ.out.2.2.2.2 ho3 hg3 hn3)
      clear ho3 hg3 hn3 HRow HQ HL HRt
      go_wp2
      go_roundw
      case rel => exact ⟨t + 1, _, _, _, _, by omega, by go_num, HL3.out⟩
      case measure => simp [intOf]; omega
    · obtain rfl : t = n := by omega
      have htn' : ¬ (t : Int) < (t : Int) := by omega
      have hL := HL.out
      rw [hnl] at hL
      obtain ⟨l, hv, hT⟩ := hL.done (bagRs_nil g) (by omega)
      have HT := hid hT
      clear hT hL HL
      subst hv
      go_wp2
      go_ret
      exact ⟨l, rfl, HT.out⟩
end Go.Proofs.Ytikfpoabaaiegaa

namespace Go.Proofs.Ytikfpoabaaiegaa
open Go.RowKit
set_option maxRecDepth 8000
def Byt (L : List Int) : Prop := ∀ x ∈ L, 0 ≤ x ∧ x < 256
end Go.Proofs.Ytikfpoabaaiegaa
