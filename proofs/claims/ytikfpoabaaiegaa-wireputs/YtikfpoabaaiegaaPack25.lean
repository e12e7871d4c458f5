import Derived.Test.YtikfpoabaaiegaaFlatGood
import Derived.Test.YtikfpoabaaiegaaFlatBad
import Derived.Test.YtikfpoabaaiegaaPack14
import Derived.Test.YtikfpoabaaiegaaPack11
import Derived.Test.YtikfpoabaaiegaaPack18
namespace Go.Proofs.Ytikfpoabaaiegaa
open Go.RowKit
set_option maxRecDepth 8000

/-- what flat answers -/
def FlatPost (base : Nat) (w : World) (v : Value) (err : Nat) (l : List PT) (r : Ending) (w' : World) : Prop := ∃ v', r = .returned (.tuple #[v', .int .i64 err]) ∧ Laid w w' v v' ∧ (err = 0 → w'.ownsRow base 204 4 v' l.length (ptCells l))
theorem ptCells_append (a b : List PT) : ptCells (a ++ b) = ptCells a ++ ptCells b := by simp [ptCells]

set_option maxHeartbeats 4000000 in
theorem flat_list (s : ByteArray) (n : Nat) (p : Option Addr) (c : Nat) (f : Nat → VT) (ih : ∀ (a : Nat) (w : World) (S : Nat → Prop) (base : Nat) (v : Value) (l : List PT) (d : Nat), VT.In w S (f a) → (∀ b, S b → v.ownBlock ≠ some b) → w.ownsRow base 204 4 v l.length (ptCells l) → base ≤ w.heap.size → l.length ≤ 12 → d ≤ 3 →
      Calls Try.prog 131 #[(f a).val, .int .i64 d, v] w fun r w' => ∃ v', r = .returned (.tuple #[v', .int .i64 (chk (f a) d l.length).1]) ∧ Laid w w' v v' ∧ ((chk (f a) d l.length).1 = 0 → w'.ownsRow base 204 4 v' (l ++ flatP (f a)).length (ptCells (l ++ flatP (f a)))))
    (l : List PT) (q : Option Addr) (m e d base : Nat) (w : World) (S : Nat → Prop) (hin : VT.In w S (.mk 3 0 s n p c f)) (hS : ∀ b, S b → (Value.slice q m e).ownBlock ≠ some b) (hl : l.length = m) (hm : m < 12) (_hm : ¬ (12 : Int) ≤ (m : Int)) (_hs : s.toList = []) (hd : d < 3) (_hd : ¬ (3 : Int) ≤ (d : Int)) (_hn : 0 < n) (_hw : ¬ (6 : Int) < (n : Int)) (hz : ¬ (24 : Int) < (s.size : Int)) (hR : w.ownsRow base 204 4 (.slice q m e) m (ptCells l)) (hbase : base ≤ w.heap.size) :
    Calls Try.prog 131 #[.agg #[.int .i64 3, .int .i64 0, .string s, .slice p n c], .int .i64 d, .slice q m e] w fun r w' => ∃ v', r = .returned (.tuple #[v', .int .i64 (stepN (fun j m => chk (f j) (d + 1) m) (m + 1) n).1]) ∧ Laid w w' (.slice q m e) v' ∧ ((stepN (fun j m => chk (f j) (d + 1) m) (m + 1) n).1 = 0 → w'.ownsRow base 204 4 v' (l ++ flatP (.mk 3 0 s n p c f)).length (ptCells (l ++ flatP (.mk 3 0 s n p c f)))) := by
  obtain ⟨i0, Kd⟩ := kindP
  have HL : Hid (l.length = m) := hl
  have HN : Hid (∀ j u, [Value.int .i64 3, Value.int .i64 0, Value.string s, Value.int .i64 (n : Int)][j]? = some u → ((w.alloc (.cells #[.int .i64 3, .int .i64 0, .string s, .slice p n c] 24)).alloc (.cells #[.int .i64 3, .int .i64 0, .string s, .int .i64 (n : Int)] 204)).cell? ((⟨w.heap.size + 1, 0, none⟩ : Addr).add j) = some u) := by
    unfold Hid
    have h := news4 (w.alloc (.cells #[.int .i64 3, .int .i64 0, .string s, .slice p n c] 24)) (.int .i64 3) (.int .i64 0) (.string s) (.int .i64 (n : Int)) 204
    rw [show (w.alloc (.cells #[.int .i64 3, .int .i64 0, .string s, .slice p n c] 24)).heap.size = w.heap.size + 1 by simp] at h
    exact h
  have HI : Hid (VT.In w S (.mk 3 0 s n p c f)) := hin
  have HSS : Hid (∀ b, S b → (Value.slice q m e).ownBlock ≠ some b) := hS
  clear hl hin hS
  go_enter Try.func131, Try.ntmps131
  go_wp2_with (at_builtin; refine wpList_app rfl (.tmp 79) (.tmp 90) 199 204 i0 _ 4 40 Kd rfl base (.slice q m e) m (ptCells l) rfl ((hR.alloc _).alloc _) ⟨w.heap.size + 1, 0, none⟩ 1 1 [.int .i64 3, .int .i64 0, .string s, .int .i64 (n : Int)] rfl rfl HN.out (oneCell_pt (PT.mk 3 0 s n)) (by omega) (by omega) (by simp; omega) ?_)
  intro v' w1 ho hg hn
  have hM : More base w w1 (.slice q m e) v' (l ++ [PT.mk 3 0 s n]) :=
    More.of (((Below.refl _ _).alloc (Nat.le_refl _) _).alloc (by simp) _) (by rw [HL.out]; exact ho) hg hn
  have hne : ∀ g, v'.ownBlock = some g → g ≠ w.heap.size := by
    intro g hg2 e
    subst e
    rcases hn with h1 | h1
    · have := (hR.lt _ (h1 ▸ hg2)).2; omega
    · have := h1 _ hg2; simp at this; omega
  have hbx : Box w1 w.heap.size #[.int .i64 3, .int .i64 0, .string s, .slice p n c] 24 := by
    refine ((Box.new w _ 24).below ((Below.refl _ _).alloc (Nat.le_refl _) (.cells #[.int .i64 3, .int .i64 0, .string s, .int .i64 (n : Int)] 204))).kept (hg.block _ (by simp; omega) fun h => ?_)
    have := (hR.lt _ h.symm).2
    omega
  clear ho hg hn HN
  go_wp2_with fail
  go_loopw [2, 9] (fun v x wr => ∃ j : Nat, j ≤ n ∧ x = .int .i64 j ∧ Hid ((stepN (fun j m => chk (f j) (d + 1) m) (m + 1) j).1 = 0) ∧ Hid ((stepN (fun j m => chk (f j) (d + 1) m) (m + 1) j).2 = (l ++ [PT.mk 3 0 s n] ++ flatN f j).length) ∧ More base w wr (.slice q m e) v (l ++ [PT.mk 3 0 s n] ++ flatN f j) ∧
      Box wr w.heap.size #[.int .i64 3, .int .i64 0, .string s, .slice p n c] 24 ∧ (∀ g, v.ownBlock = some g → g ≠ w.heap.size)) (fun _ x _ => n - (intOf x).toNat)
  case atStart => exact ⟨0, Nat.zero_le _, rfl, rfl, by simp [stepN, flatN, HL.out, Hid], by simpa [flatN] using hM, hbx, hne⟩
  case round =>
    obtain ⟨j, hj, rfl, HZ, HY, hMj, hBx, hNe⟩ := hrel
    clear hM hbx hne
    have y3 := hBx.cell 3
    simp at y3
    by_cases hjn : j < n
    · have hjn' : (j : Int) < (n : Int) := by omega
      obtain ⟨bb, o, hp, hSb, hbl, hat⟩ := HI.out.at_ (show 0 < (VT.mk 3 0 s n p c f).n from by simp only [VT.n]; omega)
      simp only [VT.p_mk] at hp
      subst hp
      obtain ⟨a0, a1, a2, a3⟩ := (hat j hjn).kept (hMj.laid.but.block bb hbl (HSS.out bb hSb))
      simp only [VT.item_mk] at a0 a1 a2 a3
      have HM : Hid ((stepN (fun j m => chk (f j) (d + 1) m) (m + 1) j).2 ≤ 12) := (stepN_le (fun j m hm => chk_le (f j) (d + 1) m hm) (by omega) j).2 HZ.out
      have HS : Hid (stepN (fun j m => chk (f j) (d + 1) m) (m + 1) (j + 1) = chk (f j) (d + 1) (stepN (fun j m => chk (f j) (d + 1) m) (m + 1) j).2) := stepN_succ HZ.out
      have HT : Hid ((stepN (fun j m => chk (f j) (d + 1) m) (m + 1) (j + 1)).1 ≠ 0 → stepN (fun j m => chk (f j) (d + 1) m) (m + 1) n = stepN (fun j m => chk (f j) (d + 1) m) (m + 1) (j + 1)) := fun h => stepN_stuck (by omega) h
      have HLen : Hid ((chk (f j) (d + 1) (l ++ [PT.mk 3 0 s n] ++ flatN f j).length).1 = 0 → (chk (f j) (d + 1) (l ++ [PT.mk 3 0 s n] ++ flatN f j).length).2 = (l ++ [PT.mk 3 0 s n] ++ flatN f (j + 1)).length) := by
        intro h
        rw [chk_len _ _ _ h, flatN_succ]
        simp only [List.length_append]; omega
      rw [HY.out] at HM HS
      rw [← HS.out] at HLen
      obtain ⟨q1, HQ1⟩ : ∃ q1, Hid (stepN (fun j m => chk (f j) (d + 1) m) (m + 1) (j + 1) = q1) := ⟨_, rfl⟩
      rw [HQ1.out] at HS HT HLen
      have HC : Hid (Calls Try.prog 131 #[(f j).val, .int .i64 ((d : Int) + 1), u2] wr fun r w' => FlatPost base wr u2 q1.1 (l ++ [PT.mk 3 0 s n] ++ flatN f (j + 1)) r w') := by
        have h := ih j wr (fun b => S b ∧ b < w.heap.size) base u2 (l ++ [PT.mk 3 0 s n] ++ flatN f j) (d + 1) (((HI.out.sub hjn).mono fun b hb hl => ⟨hb, hl⟩).kept hMj.laid.but.size (fun b hb hl => hMj.laid.but.block b hb.2 (HSS.out b hb.1))) ?_ hMj.own (Nat.le_trans hbase hMj.laid.but.size) HM.out (by omega)
        · rw [← HS.out] at h
          rw [flatN_succ, ← List.append_assoc]
          exact h
        · intro b hb e2
          rcases hMj.laid.near with h1 | h1
          · exact HSS.out b hb.1 (h1 ▸ e2)
          · have := h1 b e2; omega
      unfold VT.val at HC
      obtain ⟨xk, xi, xs, xn, xp, xc, xf, hx⟩ := (HI.out.sub hjn).mk_
      simp only [VT.item_mk] at hx
      clear ih hat HS HM HY
      rw [hx] at a0 a1 a2 a3 HC
      clear hx
      simp only [VT.kind_mk, VT.int_mk, VT.text_mk, VT.p_mk, VT.n_mk, VT.c_mk] at a0 a1 a2 a3 HC
      obtain ⟨r, rm⟩ := q1
      simp only at HC HT HLen
      have HMj : Hid (More base w wr (.slice q m e) u2 (l ++ [PT.mk 3 0 s n] ++ flatN f j) ∧ Box wr w.heap.size #[.int .i64 3, .int .i64 0, .string s, .slice (some ⟨bb, o, none⟩) n c] 24) := ⟨hMj, hBx⟩
      clear hMj hBx hR
      by_cases hr : r = 0
      · subst hr
        clear HT
        go_wp2_with (go_at_call 131; refine HC.out.mono ?_)
        intro r w4 hP
        obtain ⟨v4, rfl, hL4, ho4⟩ := hP
        have HM4 : Hid (More base w w4 (.slice q m e) v4 (l ++ [PT.mk 3 0 s n] ++ flatN f (j + 1))) := ⟨HMj.out.1.laid.trans hL4, by have h := ho4 rfl; simpa only [List.append_assoc, List.singleton_append] using h⟩
        have HB4 : Hid (Box w4 w.heap.size #[.int .i64 3, .int .i64 0, .string s, .slice (some ⟨bb, o, none⟩) n c] 24) := HMj.out.2.but hL4.but (fun h => hNe _ h rfl)
        have HN4 : Hid (∀ g, v4.ownBlock = some g → g ≠ w.heap.size) := by
          intro g hg e2
          subst e2
          rcases hL4.near with h1 | h1
          · exact hNe _ (h1 ▸ hg) rfl
          · have := h1 _ hg
            have := HMj.out.2.lt
            omega
        clear HMj hL4 ho4 a0 a1 a2 a3 y3 hNe
        go_wp2
        go_roundw
        case rel => exact ⟨j + 1, by omega, by go_num, by rw [HQ1.out]; rfl, by rw [HQ1.out]; unfold Hid; have h := HLen.out; simpa [List.append_assoc] using h, HM4.out, HB4.out, HN4.out⟩
        case measure => simp [intOf]; omega
      · have hr' : ¬ ((r : Int) = 0) := by omega
        have HT2 : Hid (stepN (fun j m => chk (f j) (d + 1) m) (m + 1) n = (r, rm)) := HT.out (by simpa using hr)
        clear HT
        go_wp2_with (go_at_call 131; refine HC.out.mono ?_)
        intro x w4 hP
        obtain ⟨v4, rfl, hL4, ho4⟩ := hP
        clear ho4
        go_wp2
        go_ret2
        refine ⟨v4, ?_, HMj.out.1.laid.trans hL4, fun h => ?_⟩
        · rw [HT2.out]; rfl
        · rw [HT2.out] at h; exact absurd h hr
    · obtain rfl : j = n := by omega
      clear ih HI hR
      go_wp2
      go_ret2
      refine ⟨u2, by rw [HZ.out]; rfl, hMj.laid, fun _ => ?_⟩
      have h := hMj.own
      rw [flatP_eq]
      rw [List.append_assoc] at h
      exact h

set_option maxHeartbeats 1000000 in
theorem flat_any (t : VT) : ∀ (w : World) (S : Nat → Prop) (base : Nat) (v : Value) (l : List PT) (d : Nat), VT.In w S t → (∀ b, S b → v.ownBlock ≠ some b) → w.ownsRow base 204 4 v l.length (ptCells l) → base ≤ w.heap.size → l.length ≤ 12 → d ≤ 3 →
      Calls Try.prog 131 #[t.val, .int .i64 d, v] w fun r w' => ∃ v', r = .returned (.tuple #[v', .int .i64 (chk t d l.length).1]) ∧ Laid w w' v v' ∧ ((chk t d l.length).1 = 0 → w'.ownsRow base 204 4 v' (l ++ flatP t).length (ptCells (l ++ flatP t))) := by
  induction t with
  | nil => intro w S base v l d hin; exact hin.elim
  | mk k i s n p c f ih =>
    intro w S base v l d hin hS hR hbase hm hd
    obtain ⟨q, e, rfl⟩ := ownsRow_slice hR
    have bad : ∀ x : Nat, x ≠ 0 → (∀ y, chk (.mk k i s n p c f) d l.length = y → y.1 = x) → Calls Try.prog 131 #[(VT.mk k i s n p c f).val, .int .i64 d, .slice q l.length e] w (fun r w' => r = .returned (.tuple #[.slice q l.length e, .int .i64 (x : Int)]) ∧ Below w.heap.size w w') →
        Calls Try.prog 131 #[(VT.mk k i s n p c f).val, .int .i64 d, .slice q l.length e] w fun r w' => ∃ v', r = .returned (.tuple #[v', .int .i64 (chk (.mk k i s n p c f) d l.length).1]) ∧ Laid w w' (.slice q l.length e) v' ∧ ((chk (.mk k i s n p c f) d l.length).1 = 0 → w'.ownsRow base 204 4 v' (l ++ flatP (.mk k i s n p c f)).length (ptCells (l ++ flatP (.mk k i s n p c f)))) := by
      intro x hx hy h
      refine h.mono fun r w' hr => ?_
      obtain ⟨rfl, hb⟩ := hr
      rw [hy _ rfl]
      exact ⟨_, rfl, ⟨.inl rfl, But.ofBelow hb⟩, fun h => absurd h hx⟩
    by_cases h1 : 12 ≤ l.length
    · exact bad 22 (by decide) (fun y h => by rw [← h, chk_many h1]) (flat_many k i s n p c q l.length e d w h1)
    have h1' : ¬ (12 : Int) ≤ (l.length : Int) := by omega
    by_cases h2 : fitB k i s n = false
    · exact bad 20 (by decide) (fun y h => by rw [← h, chk_kind h1 h2]) (flat_kind k i s n p c q l.length e d w h1 h2)
    have good : ∀ {k i : Int} {s : ByteArray} {p : Option Addr} {c : Nat} {f : Nat → VT}, (chk (.mk k i s 0 p c f) d l.length) = (0, l.length + 1) → Calls Try.prog 131 #[(VT.mk k i s 0 p c f).val, .int .i64 d, .slice q l.length e] w (fun r w' => ∃ v', r = .returned (.tuple #[v', .int .i64 0]) ∧ More base w w' (.slice q l.length e) v' (l ++ [⟨k, i, s, 0⟩])) →
        Calls Try.prog 131 #[(VT.mk k i s 0 p c f).val, .int .i64 d, .slice q l.length e] w fun r w' => ∃ v', r = .returned (.tuple #[v', .int .i64 (chk (.mk k i s 0 p c f) d l.length).1]) ∧ Laid w w' (.slice q l.length e) v' ∧ ((chk (.mk k i s 0 p c f) d l.length).1 = 0 → w'.ownsRow base 204 4 v' (l ++ flatP (.mk k i s 0 p c f)).length (ptCells (l ++ flatP (.mk k i s 0 p c f)))) := by
      intro k i s p c f he h
      rw [he]
      refine h.mono fun r w' hr => ?_
      obtain ⟨v', rfl, hM⟩ := hr
      exact ⟨v', rfl, hM.laid, fun _ => hM.own⟩
    have hsz : ∀ {s : ByteArray}, s.toList = [] → ¬ 24 < s.size := by
      intro s h
      rw [ByteArray.toList_eq] at h
      have h2 : s.data.size = 0 := by rw [← Array.length_toList, h]; rfl
      have h3 : s.size = 0 := h2
      omega
    have hszi : ∀ {s : ByteArray}, ¬ 24 < s.size → ¬ (24 : Int) < (s.size : Int) := by intro s h; omega
    have hshp := shp_of (show fitB k i s n = true by simpa using h2)
    cases hshp with
    | none s hs => exact good (chk_step h1 h2 (by omega) (hsz hs) (by omega)) (flat_none s p c l q l.length e d base w rfl (by omega) h1' hs (hszi (hsz hs)) hR hbase)
    | zero s hs => exact good (chk_step h1 h2 (by omega) (hsz hs) (by omega)) (flat_zero s p c l q l.length e d base w rfl (by omega) h1' hs (hszi (hsz hs)) hR hbase)
    | int i s hi hs => exact good (chk_step h1 h2 (by omega) (hsz hs) (by omega)) (flat_int i s p c l q l.length e d base w rfl (by omega) h1' hi hs (hszi (hsz hs)) hR hbase)
    | empty s hs => exact good (chk_step h1 h2 (by omega) (hsz hs) (by omega)) (flat_empty s p c l q l.length e d base w rfl (by omega) h1' hs (hszi (hsz hs)) hR hbase)
    | text s hs =>
      by_cases h4 : 24 < s.size
      · exact bad 21 (by decide) (fun y h => by rw [← h, chk_text h1 h2 (by omega) h4]) (flat_long s p c q l.length e d w h1' hs (by omega))
      · exact good (chk_step h1 h2 (by omega) h4 (by omega)) (flat_text s p c l q l.length e d base w rfl (by omega) h1' hs (hszi h4) hR hbase)
    | bare s hs =>
      by_cases h3 : 3 ≤ d
      · exact bad 23 (by decide) (fun y h => by rw [← h, chk_deep h1 h2 ⟨rfl, h3⟩]) (flat_deep0 s p c q l.length e d w h1' hs (by omega))
      · exact good (chk_step h1 h2 (by omega) (hsz hs) (by omega)) (flat_bare s p c l q l.length e d base w rfl (by omega) h1' hs (by omega) (hszi (hsz hs)) hR hbase)
    | list s n hs hn =>
      by_cases h3 : 3 ≤ d
      · exact bad 23 (by decide) (fun y h => by rw [← h, chk_deep h1 h2 ⟨rfl, h3⟩]) (flat_deep s n p c q l.length e d w h1' hs (by omega) hn)
      by_cases h5 : 6 < n
      · exact bad 22 (by decide) (fun y h => by rw [← h, chk_items h1 h2 (by omega) (hsz hs) h5]) (flat_wide s n p c q l.length e d w h1' hs (hszi (hsz hs)) (by omega) hn (by omega))
      rw [chk_step h1 h2 (by omega) (hsz hs) h5]
      exact flat_list s n p c f ih l q l.length e d base w S hin hS rfl (by omega) h1' hs (by omega) (by omega) hn (by omega) (hszi (hsz hs)) hR hbase
end Go.Proofs.Ytikfpoabaaiegaa

namespace Go.Proofs.Ytikfpoabaaiegaa
open Go.RowKit
set_option maxRecDepth 8000

theorem noBlock : (Value.slice none 0 0).ownBlock = none := rfl
theorem Laid.nil {w w' : World} {v' : Value} (h : Laid w w' (.slice none 0 0) v') : Below w.heap.size w w' := h.but.below (Nat.le_refl _) (fun k _ e => by cases e)

set_option maxHeartbeats 1000000 in
theorem refCheck_any (t : VT) (w : World) (S : Nat → Prop) (hin : VT.In w S t) :
    Calls Try.prog 91 #[t.val] w fun e w' => e = .returned (.int .i64 (chk t 0 0).1) ∧ Below w.heap.size w w' := by
  have HC : Hid (∀ W, Below w.heap.size w W → Calls Try.prog 131 #[t.val, .int .i64 ((0 : Nat) : Int), .slice none 0 0] W fun r w' => FlatPost 0 W (.slice none 0 0) (chk t 0 0).1 (flatP t) r w') :=
    fun W hW => flat_any t W S 0 (.slice none 0 0) [] 0 (hin.below hW) (fun b _ h => by cases h) (World.ownsRow_nil _ _ _ _) (Nat.zero_le _) (by simp) (by omega)
  obtain ⟨k, i, s, n, p, c, f, rfl⟩ := hin.mk_
  clear hin
  generalize chk (.mk k i s n p c f) 0 0 = r at *
  generalize flatP (.mk k i s n p c f) = L at *
  simp only [VT.val, VT.kind_mk, VT.int_mk, VT.text_mk, VT.p_mk, VT.n_mk, VT.c_mk] at HC ⊢
  go_enter Try.func91, Try.ntmps91
  go_wp2_with fail
  refine (HC.out _ ?_).mono ?_
  · exact (Below.refl _ _).alloc (Nat.le_refl _) _
  · intro e w1 hP
    obtain ⟨v', rfl, hL, _⟩ := hP
    have hb1 : Below w.heap.size w w1 := ((Below.refl w.heap.size w).alloc (Nat.le_refl _) _).trans (hL.nil.mono (by simp))
    clear hL HC
    go_wp2
    go_ret
    exact ⟨rfl, hb1⟩
end Go.Proofs.Ytikfpoabaaiegaa

namespace Go.Proofs.Ytikfpoabaaiegaa
open Go.RowKit
set_option maxRecDepth 8000

set_option maxHeartbeats 1000000 in
theorem refCheckRecord_any (r : RT) (w : World) (S : Nat → Prop) (hin : RT.In w S r) :
    Calls Try.prog 50 #[r.val] w fun e w' => e = .returned (.int .i64 (chkRec r)) ∧ Below w.heap.size w w' := by
  have HC : Hid (∀ W, Below w.heap.size w W → Calls Try.prog 91 #[r.v.val] W fun e w' => e = .returned (.int .i64 (chk r.v 0 0).1) ∧ Below W.heap.size W w') := fun W hW => refCheck_any r.v W S (hin.v.below hW)
  unfold VT.val at HC
  have HL : Hid (Ints w S r.p r.n r.c r.loop) := hin.l
  have hks := hin.k
  have hnn := hin.l.nn
  have HW : Hid (Below w.heap.size w (w.alloc (.cells #[.string r.key, .int .i64 r.v.kind, .int .i64 r.v.int, .string r.v.text, .slice r.v.p r.v.n r.v.c, .slice r.p r.n r.c] 27))) := (Below.refl _ _).alloc (Nat.le_refl _) _
  have HB := hid (Box.new w #[.string r.key, .int .i64 r.v.kind, .int .i64 r.v.int, .string r.v.text, .slice r.v.p r.v.n r.v.c, .slice r.p r.n r.c] 27)
  have E : Hid (chkRec r = if 12 < r.key.size then 24 else if (chk r.v 0 0).1 ≠ 0 then (chk r.v 0 0).1 else if 3 < r.n then 25 else firstC (fun j => chkLoop (r.loop j)) r.n) := rfl
  unfold RT.val
  generalize chkRec r = res at *
  clear hin
  by_cases hk : 12 < r.key.size
  · have hk' : (12 : Int) < (r.key.size : Int) := by omega
    have e : res = 24 := by rw [E.out, if_pos hk]
    go_enter Try.func50, Try.ntmps50
    go_wp2
    go_ret
    exact ⟨by first | rfl | (rw [e]; rfl), HW.out⟩
  · have hk' : ¬ (12 : Int) < (r.key.size : Int) := by omega
    have E1 : Hid (res = if (chk r.v 0 0).1 ≠ 0 then (chk r.v 0 0).1 else if 3 < r.n then 25 else firstC (fun j => chkLoop (r.loop j)) r.n) := by unfold Hid; rw [E.out, if_neg hk]
    go_enter Try.func50, Try.ntmps50
    go_wp2_with fail
    refine (HC.out _ HW.out).mono ?_
    rintro e w1 ⟨rfl, hb1⟩
    have hB1 := HB.out.below hb1
    have hbw := HW.out.trans (hb1.mono HW.out.size)
    have x5 := hB1.cell 5
    simp at x5
    have HX := hid (And.intro hB1 hbw)
    clear hB1 hb1
    by_cases hc : (chk r.v 0 0).1 = 0
    · have E2 : Hid (res = if 3 < r.n then 25 else firstC (fun j => chkLoop (r.loop j)) r.n) := by unfold Hid; rw [E1.out, if_neg (by rw [hc]; simp)]
      rw [hc]
      by_cases hn3 : 3 < r.n
      · have hn3' : (3 : Int) < (r.n : Int) := by omega
        have e : res = 25 := by rw [E2.out, if_pos hn3]
        go_wp2
        go_ret
        exact ⟨by first | rfl | (rw [e]; rfl), hbw⟩
      · have hn3' : ¬ (3 : Int) < (r.n : Int) := by omega
        have E3 : Hid (res = firstC (fun j => chkLoop (r.loop j)) r.n) := by unfold Hid; rw [E2.out, if_neg hn3]
        go_wp2_with fail
        go_loopw [4] (fun x wr => ∃ j : Nat, j ≤ r.n ∧ x = .int .i64 j ∧ firstC (fun j => chkLoop (r.loop j)) j = 0 ∧ wr = w1) (fun x _ => r.n - (intOf x).toNat)
        case atStart => exact ⟨0, Nat.zero_le _, rfl, rfl, rfl⟩
        case round =>
          obtain ⟨j, hj, rfl, hf, hwr⟩ := hrel
          subst wr
          have HF := hid hf
          clear hf
          by_cases hlt : j < r.n
          · have hlt' : (j : Int) < (r.n : Int) := by omega
            obtain ⟨bb, o, hp, hSb, hbl, hat⟩ := HL.out.at_ (show 0 < r.n by omega)
            have d0 := (hbw.cell (p := ⟨bb, o + j, none⟩) hbl).trans (hat j hlt)
            rw [hp] at x5 ⊢
            clear hat
            by_cases h0 : r.loop j < 0
            · have e : res = 25 := by
                have hl : chkLoop (r.loop j) = 25 := by unfold chkLoop; rw [if_pos (.inl h0)]
                rw [E3.out, firstC_hit HF.out hlt (by simp only [hl]; decide)]; exact hl
              go_wp2
              go_ret
              exact ⟨by first | rfl | (rw [e]; rfl), hbw⟩
            · by_cases h9 : 9 < r.loop j
              · have e : res = 25 := by
                  have hl : chkLoop (r.loop j) = 25 := by unfold chkLoop; rw [if_pos (.inr h9)]
                  rw [E3.out, firstC_hit HF.out hlt (by simp only [hl]; decide)]; exact hl
                go_wp2
                go_ret
                exact ⟨by first | rfl | (rw [e]; rfl), hbw⟩
              · have e : Hid (firstC (fun j => chkLoop (r.loop j)) (j + 1) = 0) := by
                  unfold Hid
                  rw [firstC_succ HF.out]; unfold chkLoop; rw [if_neg (by omega)]
                go_wp2
                go_roundw
                case rel => exact ⟨j + 1, by omega, by go_num, e.out, by first | rfl | trivial⟩
                case measure => simp [intOf]; omega
          · have hje : j = r.n := by omega
            have e : res = 0 := by rw [E3.out, ← hje]; exact HF.out
            have hlt' : ¬ (j : Int) < (r.n : Int) := by omega
            go_wp2
            go_ret
            exact ⟨by first | rfl | (rw [e]; rfl), hbw⟩
    · have hc' : ¬ ((chk r.v 0 0).1 : Int) = 0 := by omega
      have e : res = (chk r.v 0 0).1 := by rw [E1.out, if_pos hc]
      go_wp2
      go_ret
      exact ⟨by first | rfl | (rw [e]; rfl), hbw⟩
end Go.Proofs.Ytikfpoabaaiegaa

namespace Go.Proofs.Ytikfpoabaaiegaa
open Go.RowKit
set_option maxRecDepth 8000

set_option maxHeartbeats 2000000 in
theorem refCheckState_any (s : ST) (w : World) (S : Nat → Prop) (hin : ST.In w S s) :
    Calls Try.prog 44 #[s.val] w fun e w' => e = .returned (.int .i64 (chkState s)) ∧ Below w.heap.size w w' := by
  have E : Hid (chkState s = if s.num < 0 ∨ 1073741824 < s.num then 26 else if 64 < s.n then 27 else firstC (chkCell s.cell) s.n) := rfl
  generalize chkState s = res at *
  have HI := hid hin
  obtain ⟨num, p, n, c, f⟩ := s
  have hnn := hin.nn
  unfold ST.val
  simp only at E hnn ⊢
  have HW : Hid (Below w.heap.size w (w.alloc (.cells #[.int .i64 num, .slice p n c] 30))) := (Below.refl _ _).alloc (Nat.le_refl _) _
  have HB := hid (Box.new w #[.int .i64 num, .slice p n c] 30)
  clear hin
  by_cases h0 : num < 0
  · have e : Hid (res = 26) := by unfold Hid; rw [E.out, if_pos (.inl h0)]
    go_enter Try.func44, Try.ntmps44
    go_wp2
    go_ret
    exact ⟨by rw [e.out]; rfl, HW.out⟩
  · by_cases h1 : 1073741824 < num
    · have e : Hid (res = 26) := by unfold Hid; rw [E.out, if_pos (.inr h1)]
      go_enter Try.func44, Try.ntmps44
      go_wp2
      go_ret
      exact ⟨by rw [e.out]; rfl, HW.out⟩
    · by_cases h64 : 64 < n
      · have h64' : (64 : Int) < (n : Int) := by omega
        have e : Hid (res = 27) := by unfold Hid; rw [E.out, if_neg (by omega), if_pos h64]
        go_enter Try.func44, Try.ntmps44
        go_wp2
        go_ret
        exact ⟨by rw [e.out]; rfl, HW.out⟩
      · have h64' : ¬ (64 : Int) < (n : Int) := by omega
        have E1 : Hid (res = firstC (chkCell f) n) := by unfold Hid; rw [E.out, if_neg (by omega), if_neg h64]
        go_enter Try.func44, Try.ntmps44
        go_wp2_with fail
        go_loopw [3] (fun x wr => ∃ j : Nat, j ≤ n ∧ x = .int .i64 j ∧ firstC (chkCell f) j = 0 ∧ Box wr w.heap.size #[.int .i64 num, .slice p n c] 30 ∧ Below w.heap.size w wr) (fun x _ => n - (intOf x).toNat)
        case atStart => exact ⟨0, Nat.zero_le _, rfl, rfl, HB.out, HW.out⟩
        case round =>
          obtain ⟨j, hj, rfl, hf, hBx, hbel⟩ := hrel
          have HF := hid hf
          have x1 := hBx.cell 1
          simp at x1
          have hxl := hBx.lt
          have HX := hid (And.intro hBx hbel)
          clear hf hBx
          by_cases hlt : j < n
          · have hlt' : (j : Int) < (n : Int) := by omega
            obtain ⟨bb, o, hp, hSb, hbl, hat⟩ := HI.out.at_ (show 0 < n by omega)
            simp only at hp
            subst hp
            obtain ⟨d0, d1⟩ := (hat j hlt).kept (hbel.block bb hbl)
            simp only at d0 d1
            have hks := (HI.out.each j hlt).fit.s1
            simp only at hks
            have hbl' : bb < wr.heap.size := Nat.lt_of_lt_of_le hbl hbel.size
            have hsw := hbel.size
            obtain ⟨fk, fi, fs, fn, fp, fc, ff, hfe⟩ := (HI.out.each j hlt).mk_
            simp only at hfe
            have HFi : Hid (VT.In wr S (.mk fk fi fs fn fp fc ff)) := by
              have h := (HI.out.each j hlt).kept hbel.size fun b hb hl => hbel.block b hl
              simp only at h
              rw [hfe] at h
              exact h
            have hfn := HFi.out.fit.nn
            simp only [VT.n_mk] at hfn
            have ht : (f j).text = fs := by rw [hfe]; rfl
            have hv : chkVals (f j) = if 6 < fn then 27 else firstC (fun q => (chk (ff q) 0 0).1) fn := by rw [hfe]; rfl
            rw [hfe] at d1
            simp only [VT.p_mk, VT.n_mk, VT.c_mk] at d1
            rw [ht] at d0 hks
            by_cases hk : 12 < fs.size
            · have hk' : (12 : Int) < (fs.size : Int) := by omega
              have hl : chkCell f j = 24 := by unfold chkCell; rw [ht, if_pos hk]
              have e : Hid (res = 24) := by unfold Hid; rw [E1.out, firstC_hit HF.out hlt (by rw [hl]; decide), hl]
              have HB2 : Hid (Below w.heap.size w (wr.alloc (.cells #[.string fs, .slice fp fn fc] 154))) := hbel.alloc hsw _
              clear hat hl hbel hv
              go_wp2
              go_ret
              exact ⟨by rw [e.out]; rfl, HB2.out⟩
            · have hk' : ¬ (12 : Int) < (fs.size : Int) := by omega
              have hB2 : Box (wr.alloc (.cells #[.string fs, .slice fp fn fc] 154)) wr.heap.size #[.string fs, .slice fp fn fc] 154 := Box.new _ _ _
              by_cases hj0 : j = 0
              · subst hj0
                have hl : chkCell f 0 = chkVals (f 0) := by unfold chkCell; rw [ht, if_neg hk, if_neg (by omega)]
                simp only [Nat.zero_mul, Nat.add_zero] at d0 d1
                go_wp2_with fail
                go_region
                all_goals
                  by_cases h6 : 6 < fn
                  · have h6' : (6 : Int) < (fn : Int) := by omega
                    have e : Hid (res = 27) := by unfold Hid; rw [E1.out, firstC_hit HF.out hlt (by rw [hl, hv, if_pos h6]; decide), hl, hv, if_pos h6]
                    have HB3 : Hid (Below w.heap.size w (wr.alloc (.cells #[.string fs, .slice fp fn fc] 154)).drew) := (hbel.alloc hsw _).drew
                    clear hat hl hv hbel
                    go_wp2
                    go_ret
                    exact ⟨by rw [e.out]; rfl, HB3.out⟩
                  · have h6' : ¬ (6 : Int) < (fn : Int) := by omega
                    have HL : Hid (chkCell f (0) = firstC (fun q => (chk (ff q) 0 0).1) fn) := by unfold Hid; rw [hl, hv, if_neg h6]
                    have hB3 : Box (wr.alloc (.cells #[.string fs, .slice fp fn fc] 154)).drew wr.heap.size #[.string fs, .slice fp fn fc] 154 := hB2.below (Below.refl _ _).drew
                    have hb3 : Below wr.heap.size wr (wr.alloc (.cells #[.string fs, .slice fp fn fc] 154)).drew := ((Below.refl _ _).alloc (Nat.le_refl _) _).drew
                    obtain ⟨wo, hwo⟩ : ∃ wo : World, wo = wr := ⟨wr, rfl⟩
                    subst hwo
                    clear hat hl hv hbel hB2 d0 d1
                    go_wp2_with fail
                    go_loopw [5] (fun x wr => ∃ q : Nat, q ≤ fn ∧ x = .int .i64 q ∧ firstC (fun q => (chk (ff q) 0 0).1) q = 0 ∧ Box wr wo.heap.size #[.string fs, .slice fp fn fc] 154 ∧ Below wo.heap.size wo wr) (fun x _ => fn - (intOf x).toNat)
                    case atStart => exact ⟨0, Nat.zero_le _, rfl, rfl, hB3, hb3⟩
                    case round =>
                      obtain ⟨q, hq, rfl, hf2, hB4, hb4⟩ := hrel
                      clear hB3 hb3
                      have HF2 := hid hf2
                      have y1 := hB4.cell 1
                      simp at y1
                      have hyl := hB4.lt
                      have x1' := (hb4.cell (p := ⟨w.heap.size, 1, none⟩) hxl).trans x1
                      have HY := hid (And.intro hB4 hb4)
                      have hs4 := hb4.size
                      clear hf2 hB4 x1
                      by_cases hlq : q < fn
                      · have hlq' : (q : Int) < (fn : Int) := by omega
                        obtain ⟨b2, o2, hp2, hSb2, hbl2, hat2⟩ := HFi.out.at_ (show 0 < (VT.mk fk fi fs fn fp fc ff).n from by simp only [VT.n]; omega)
                        simp only [VT.p_mk] at hp2
                        subst hp2
                        obtain ⟨z0, z1, z2, z3⟩ := (hat2 q hlq).kept (hb4.block b2 hbl2)
                        simp only [VT.item_mk] at z0 z1 z2 z3
                        have HC : Hid (Calls Try.prog 91 #[(ff q).val] wr fun e w' => e = .returned (.int .i64 (chk (ff q) 0 0).1) ∧ Below wr.heap.size wr w') :=
                          refCheck_any (ff q) wr S ((HFi.out.sub hlq).kept hb4.size fun b hb hl => hb4.block b hl)
                        unfold VT.val at HC
                        clear hat2 hb4
                        go_wp2_with fail
                        refine HC.out.mono ?_
                        rintro e w2 ⟨rfl, hb2⟩
                        have HB2 : Hid (Box w2 wo.heap.size #[.string fs, .slice (some ⟨b2, o2, none⟩) fn fc] 154 ∧ Below wo.heap.size wo w2) := ⟨HY.out.1.below hb2, HY.out.2.trans (hb2.mono hs4)⟩
                        have HB5 : Hid (Below w.heap.size w w2) := HX.out.2.trans (HB2.out.2.mono hsw)
                        clear hb2 z0 z1 z2 z3
                        by_cases hc : (chk (ff q) 0 0).1 = 0
                        · have HF3 : Hid (firstC (fun q => (chk (ff q) 0 0).1) (q + 1) = 0) := by unfold Hid; rw [firstC_succ HF2.out]; exact hc
                          rw [hc]
                          clear hc
                          go_wp2
                          go_roundw
                          case rel => exact ⟨q + 1, by omega, by go_num, HF3.out, HB2.out.1, HB2.out.2⟩
                          case measure => simp [intOf]; omega
                        · have hc' : ¬ ((chk (ff q) 0 0).1 : Int) = 0 := by omega
                          have e : Hid (res = (chk (ff q) 0 0).1) := by unfold Hid; rw [E1.out, firstC_hit HF.out hlt (by rw [HL.out, firstC_hit HF2.out hlq hc]; exact hc), HL.out, firstC_hit HF2.out hlq hc]
                          go_wp2
                          go_ret
                          exact ⟨by rw [e.out]; rfl, HB5.out⟩
                      · have hqe : q = fn := by omega
                        have hlq' : ¬ (q : Int) < (fn : Int) := by omega
                        have HF3 : Hid (firstC (chkCell f) (0 + 1) = 0) := by unfold Hid; rw [firstC_succ HF.out, HL.out, ← hqe]; exact HF2.out
                        have HB2 : Hid (Box wr w.heap.size #[.int .i64 num, .slice (some ⟨bb, o, none⟩) n c] 30 ∧ Below w.heap.size w wr) := ⟨HX.out.1.below hb4, HX.out.2.trans (hb4.mono hsw)⟩
                        clear hb4
                        go_wp2
                        go_roundw
                        case rel => exact ⟨0 + 1, by omega, by go_num, HF3.out, HB2.out.1, HB2.out.2⟩
                        case measure => simp [intOf]; omega
              · obtain ⟨m, rfl⟩ : ∃ m, j = m + 1 := ⟨j - 1, by omega⟩
                have c0 := ((hat m (show m < n by omega)).kept (hbel.block bb hbl)).c0
                simp only at c0
                cases hb : Op.bytesLess (f m).text.toList fs.toList with
                | false =>
                  have hl : chkCell f (m + 1) = 27 := by unfold chkCell; rw [ht, if_neg hk, if_pos ⟨by omega, hb⟩]
                  have e : Hid (res = 27) := by unfold Hid; rw [E1.out, firstC_hit HF.out hlt (by rw [hl]; decide), hl]
                  have HB2 : Hid (Below w.heap.size w (wr.alloc (.cells #[.string fs, .slice fp fn fc] 154)).drew) := (hbel.alloc hsw _).drew
                  clear hat hl hbel hv
                  go_wp2_with fail
                  go_region
                  all_goals
                    go_wp2
                    go_ret
                    exact ⟨by rw [e.out]; rfl, HB2.out⟩
                | true =>
                  have hl : chkCell f (m + 1) = chkVals (f (m + 1)) := by unfold chkCell; rw [ht, if_neg hk, if_neg (by intro h; rw [Nat.add_sub_cancel, hb] at h; cases h.2)]
                  go_wp2_with fail
                  go_region
                  all_goals
                    by_cases h6 : 6 < fn
                    · have h6' : (6 : Int) < (fn : Int) := by omega
                      have e : Hid (res = 27) := by unfold Hid; rw [E1.out, firstC_hit HF.out hlt (by rw [hl, hv, if_pos h6]; decide), hl, hv, if_pos h6]
                      have HB3 : Hid (Below w.heap.size w (wr.alloc (.cells #[.string fs, .slice fp fn fc] 154)).drew) := (hbel.alloc hsw _).drew
                      clear hat hl hv hbel
                      go_wp2
                      go_ret
                      exact ⟨by rw [e.out]; rfl, HB3.out⟩
                    · have h6' : ¬ (6 : Int) < (fn : Int) := by omega
                      have HL : Hid (chkCell f (m + 1) = firstC (fun q => (chk (ff q) 0 0).1) fn) := by unfold Hid; rw [hl, hv, if_neg h6]
                      have hB3 : Box (wr.alloc (.cells #[.string fs, .slice fp fn fc] 154)).drew wr.heap.size #[.string fs, .slice fp fn fc] 154 := hB2.below (Below.refl _ _).drew
                      have hb3 : Below wr.heap.size wr (wr.alloc (.cells #[.string fs, .slice fp fn fc] 154)).drew := ((Below.refl _ _).alloc (Nat.le_refl _) _).drew
                      obtain ⟨wo, hwo⟩ : ∃ wo : World, wo = wr := ⟨wr, rfl⟩
                      subst hwo
                      clear hat hl hv hbel hB2 d0 d1
                      go_wp2_with fail
                      go_loopw [5] (fun x wr => ∃ q : Nat, q ≤ fn ∧ x = .int .i64 q ∧ firstC (fun q => (chk (ff q) 0 0).1) q = 0 ∧ Box wr wo.heap.size #[.string fs, .slice fp fn fc] 154 ∧ Below wo.heap.size wo wr) (fun x _ => fn - (intOf x).toNat)
                      case atStart => exact ⟨0, Nat.zero_le _, rfl, rfl, hB3, hb3⟩
                      case round =>
                        obtain ⟨q, hq, rfl, hf2, hB4, hb4⟩ := hrel
                        clear hB3 hb3
                        have HF2 := hid hf2
                        have y1 := hB4.cell 1
                        simp at y1
                        have hyl := hB4.lt
                        have x1' := (hb4.cell (p := ⟨w.heap.size, 1, none⟩) hxl).trans x1
                        have HY := hid (And.intro hB4 hb4)
                        have hs4 := hb4.size
                        clear hf2 hB4 x1
                        by_cases hlq : q < fn
                        · have hlq' : (q : Int) < (fn : Int) := by omega
                          obtain ⟨b2, o2, hp2, hSb2, hbl2, hat2⟩ := HFi.out.at_ (show 0 < (VT.mk fk fi fs fn fp fc ff).n from by simp only [VT.n]; omega)
                          simp only [VT.p_mk] at hp2
                          subst hp2
                          obtain ⟨z0, z1, z2, z3⟩ := (hat2 q hlq).kept (hb4.block b2 hbl2)
                          simp only [VT.item_mk] at z0 z1 z2 z3
                          have HC : Hid (Calls Try.prog 91 #[(ff q).val] wr fun e w' => e = .returned (.int .i64 (chk (ff q) 0 0).1) ∧ Below wr.heap.size wr w') :=
                            refCheck_any (ff q) wr S ((HFi.out.sub hlq).kept hb4.size fun b hb hl => hb4.block b hl)
                          unfold VT.val at HC
                          clear hat2 hb4
                          go_wp2_with fail
                          refine HC.out.mono ?_
                          rintro e w2 ⟨rfl, hb2⟩
                          have HB2 : Hid (Box w2 wo.heap.size #[.string fs, .slice (some ⟨b2, o2, none⟩) fn fc] 154 ∧ Below wo.heap.size wo w2) := ⟨HY.out.1.below hb2, HY.out.2.trans (hb2.mono hs4)⟩
                          have HB5 : Hid (Below w.heap.size w w2) := HX.out.2.trans (HB2.out.2.mono hsw)
                          clear hb2 z0 z1 z2 z3
                          by_cases hc : (chk (ff q) 0 0).1 = 0
                          · have HF3 : Hid (firstC (fun q => (chk (ff q) 0 0).1) (q + 1) = 0) := by unfold Hid; rw [firstC_succ HF2.out]; exact hc
                            rw [hc]
                            clear hc
                            go_wp2
                            go_roundw
                            case rel => exact ⟨q + 1, by omega, by go_num, HF3.out, HB2.out.1, HB2.out.2⟩
                            case measure => simp [intOf]; omega
                          · have hc' : ¬ ((chk (ff q) 0 0).1 : Int) = 0 := by omega
                            have e : Hid (res = (chk (ff q) 0 0).1) := by unfold Hid; rw [E1.out, firstC_hit HF.out hlt (by rw [HL.out, firstC_hit HF2.out hlq hc]; exact hc), HL.out, firstC_hit HF2.out hlq hc]
                            go_wp2
                            go_ret
                            exact ⟨by rw [e.out]; rfl, HB5.out⟩
                        · have hqe : q = fn := by omega
                          have hlq' : ¬ (q : Int) < (fn : Int) := by omega
                          have HF3 : Hid (firstC (chkCell f) (m + 1 + 1) = 0) := by unfold Hid; rw [firstC_succ HF.out, HL.out, ← hqe]; exact HF2.out
                          have HB2 : Hid (Box wr w.heap.size #[.int .i64 num, .slice (some ⟨bb, o, none⟩) n c] 30 ∧ Below w.heap.size w wr) := ⟨HX.out.1.below hb4, HX.out.2.trans (hb4.mono hsw)⟩
                          clear hb4
                          go_wp2
                          go_roundw
                          case rel => exact ⟨m + 1 + 1, by omega, by go_num, HF3.out, HB2.out.1, HB2.out.2⟩
                          case measure => simp [intOf]; omega
          · have hje : j = n := by omega
            have e : Hid (res = 0) := by unfold Hid; rw [E1.out, ← hje]; exact HF.out
            have hlt' : ¬ (j : Int) < (n : Int) := by omega
            go_wp2
            go_ret
            exact ⟨by rw [e.out]; rfl, hbel⟩
end Go.Proofs.Ytikfpoabaaiegaa

namespace Go.Proofs.Ytikfpoabaaiegaa
open Go.RowKit
set_option maxRecDepth 8000
theorem refOut_any (n most : Int) (w : World) : Calls Try.prog 49 #[.int .i64 n, .int .i64 most] w fun x w' => x = .returned (.bool (decide (n < 0 ∨ most < n))) ∧ w' = w := by
  by_cases h0 : n < 0
  · have hd : decide (n < 0 ∨ most < n) = true := by simp [h0]
    rw [hd]
    clear hd
    go_enter Try.func49, Try.ntmps49
    go_wp2
    go_ret
    exact ⟨rfl, rfl⟩
  · by_cases h1 : most < n
    · have hd : decide (n < 0 ∨ most < n) = true := by simp [h1]
      rw [hd]
      clear hd
      go_enter Try.func49, Try.ntmps49
      go_wp2
      go_ret
      exact ⟨rfl, rfl⟩
    · have hd : decide (n < 0 ∨ most < n) = false := by simp [h0, h1]
      rw [hd]
      clear hd
      go_enter Try.func49, Try.ntmps49
      go_wp2
      go_ret
      exact ⟨rfl, rfl⟩
set_option maxHeartbeats 4000000 in
theorem refRecords_any (l : LT RT) (w : World) (S : Nat → Prop) (hin : LT.In elRec w S l) : Calls Try.prog 97 #[.slice l.p l.n l.c] w fun x w' => x = .returned (.int .i64 (chkRecs l : Int)) ∧ Below w.heap.size w w' := by
  obtain ⟨p, n, c, f⟩ := l
  have hnn := hin.nn
  have H := hid hin
  simp only at hnn ⊢
  clear hin
  by_cases hbig : 256 < n
  · have hbig' : (256 : Int) < (n : Int) := by omega
    have hc : chkRecs ⟨p, n, c, f⟩ = 43 := by unfold chkRecs; rw [if_pos hbig]
    rw [hc]
    clear hc
    go_enter Try.func97, Try.ntmps97
    go_wp2
    go_ret
    exact ⟨rfl, Below.refl _ _⟩
  have hbig' : ¬ (256 : Int) < (n : Int) := by omega
  have hc : Hid (chkRecs ⟨p, n, c, f⟩ = firstC (fun j => chkRec (f j)) n) := by show chkRecs ⟨p, n, c, f⟩ = _; unfold chkRecs; rw [if_neg hbig]
  obtain ⟨res, hres⟩ : ∃ r, r = chkRecs ⟨p, n, c, f⟩ := ⟨_, rfl⟩
  rw [← hres] at hc ⊢
  clear hres
  go_enter Try.func97, Try.ntmps97
  go_wp2_with fail
  go_loopw [3] (fun x wr => ∃ j : Nat, j ≤ n ∧ x = .int .i64 j ∧ firstC (fun j => chkRec (f j)) j = 0 ∧ Below w.heap.size w wr) (fun x _ => n - (intOf x).toNat)
  case atStart => exact ⟨0, Nat.zero_le _, rfl, rfl, Below.refl _ _⟩
  case round =>
    obtain ⟨j, hj, rfl, hA, hbel⟩ := hrel
    have HA := hid hA
    have HB := hid hbel
    clear hA
    by_cases hlt : j < n
    · have hlt' : (j : Int) < (n : Int) := by omega
      obtain ⟨b1, o1, hp, _, hl1, ha⟩ := H.out.at_ (show 0 < n by omega)
      simp only at hp
      subst hp
      have hca : ∀ r u, (elRec.cells (f j))[r]? = some u → wr.cell? ⟨b1, o1 + j * 6 + r, none⟩ = some u := fun r u hu => (World.cell?_of_block (a := ⟨b1, o1 + j * 6 + r, none⟩) (hbel.block b1 hl1)).trans (ha j hlt r u hu)
      have a0 := hca 0 _ rfl
      have a1 := hca 1 _ rfl
      have a2 := hca 2 _ rfl
      have a3 := hca 3 _ rfl
      have a4 := hca 4 _ rfl
      have a5 := hca 5 _ rfl
      simp only [Nat.add_zero] at a0
      have HC := hid (refCheckRecord_any (f j) wr S ((show RT.In w S (f j) from H.out.each j hlt).below hbel))
      unfold RT.val at HC
      clear ha hbel hca
      go_wp2_with fail
      refine HC.out.mono ?_
      rintro x w1 ⟨rfl, hb1⟩
      have HB1 := hid (HB.out.trans (hb1.mono HB.out.size))
      clear hb1 HC
      by_cases h0 : chkRec (f j) = 0
      · have HA2 : Hid (firstC (fun j => chkRec (f j)) (j + 1) = 0) := by show firstC (fun j => chkRec (f j)) (j + 1) = 0; rw [firstC_succ HA.out]; exact h0
        rw [h0]
        clear h0
        go_wp2
        go_roundw
        case rel => exact ⟨j + 1, by omega, by go_num, HA2.out, HB1.out⟩
        case measure => simp [intOf]; omega
      · have hne : ((chkRec (f j) : Int) != 0) = true := by rw [bne_iff_ne]; omega
        have HR : Hid (res = chkRec (f j)) := hc.out.trans (firstC_hit (g := fun j => chkRec (f j)) HA.out hlt h0)
        clear h0
        go_wp2
        go_ret
        exact ⟨by rw [HR.out]; rfl, HB1.out⟩
    · obtain rfl : j = n := by omega
      have hlt' : ¬ (j : Int) < (j : Int) := by omega
      have HR : Hid (res = 0) := hc.out.trans HA.out
      clear hbel
      go_wp2
      go_ret
      exact ⟨by rw [HR.out]; rfl, HB.out⟩
end Go.Proofs.Ytikfpoabaaiegaa
