import Derived.Test.YtdmhemofhmfkoabGreatDoorRTxD
import Derived.Test.YtdmhemofhmfkoabGreatDoorPack6
import Derived.Test.YtdmhemofhmfkoabGreatDoorPack1
import Derived.Test.YtdmhemofhmfkoabGreatDoorDecP
namespace Go.Proofs.YtdmhemofhmfkoabGreatDoor
open Go.RowKit
set_option maxRecDepth 8000
set_option maxRecDepth 200000 in
set_option maxHeartbeats 2000000 in
theorem runeAt_4 (s : ByteArray) (a c : Nat) (w : World) (ha : a < s.size) (hs : s.size ≤ 140737488355328) (hc : pk s a = c) (h1 : 240 ≤ c) (h2 : c < 248) :
    Calls Tryz.prog 112 #[.string s, .int .i64 (a : Int)] w fun x w' => RunPost w (runR s a) x w' := by
  have hN : runN c = 4 := by unfold runN; rw [if_neg (by omega), if_neg (by omega), if_pos (by omega)]
  have hV : runV c = c - 240 := by unfold runV; rw [if_neg (by omega), if_neg (by omega), if_pos (by omega)]
  have hL : runL c = 65536 := by unfold runL; rw [if_neg (by omega), if_neg (by omega), if_pos (by omega)]
  obtain ⟨R, hR⟩ : ∃ R, runR s a = R := ⟨_, rfl⟩
  rw [hR]
  unfold runR at hR
  rw [hc, hN, hV] at hR
  obtain ⟨low, hlow⟩ : ∃ low, runL c = low := ⟨_, rfl⟩
  rw [hlow] at hR hL
  have HLo := hid hL
  clear hlow
  have HR := hid hR
  have hg := pk_get ha
  rw [hc] at hg
  have ha' : (a : Int) < (s.size : Int) := by omega
  obtain ⟨v, hv⟩ : ∃ v, c = 240 + v := ⟨c - 240, by omega⟩
  subst hv
  have hv32 : v < 32 := by omega
  have hd0 : decide ((240 : Int) + (v : Int) < 192) = false := by simp; omega
  have he0 : decide ((192 : Int) ≤ (240 : Int) + (v : Int)) = true := by simp; omega
  have hd1 : decide ((240 : Int) + (v : Int) < 224) = false := by simp; omega
  have he1 : decide ((224 : Int) ≤ (240 : Int) + (v : Int)) = true := by simp; omega
  have hd2 : decide ((240 : Int) + (v : Int) < 240) = false := by simp; omega
  have he2 : decide ((240 : Int) ≤ (240 : Int) + (v : Int)) = true := by simp; omega
  have hd3 : decide ((240 : Int) + (v : Int) < 248) = true := by simp; omega
  have he3 : decide ((248 : Int) ≤ (240 : Int) + (v : Int)) = false := by simp; omega
  rw [Nat.add_sub_cancel_left] at HR
  clear hR hN hV hL hc
  by_cases hfit : s.size < a + 4
  · have HE := hid ((if_pos (.inr hfit)).symm.trans HR.out)
    go_enter Tryz.func112, Tryz.ntmps112
    go_wp2_with fail
    exact bodyPost_ret (v := .tuple #[.int .i64 0, .int .i64 0]) (by simp [results, Tryz.results112, go_sem]) rfl ⟨by rw [← HE.out]; rfl, Below.refl _ _⟩
  · have HE := hid ((if_neg (show ¬ (4 = 0 ∨ s.size < a + 4) by omega)).symm.trans HR.out)
    clear HR
    go_enter Tryz.func112, Tryz.ntmps112
    go_wp2_with fail
    go_loopw [8, 10] (fun y x wr => ∃ i v : Nat, y = .int .i64 (v : Int) ∧ x = .int .i64 (i : Int) ∧ 1 ≤ i ∧ i ≤ 4 ∧ v < 32 * 64 ^ (i - 1) ∧ runE low 4 (runF s a (4 - i) i v) = R ∧ Below w.heap.size w wr) (fun _ x _ => 4 - (intOf x).toNat)
    case atStart => exact ⟨1, v, by simp; omega, rfl, by omega, by omega, by simpa using hv32, HE.out, Below.refl _ _⟩
    case round =>
      clear hv32 hg h1 h2 HE
      obtain ⟨i, v, rfl, rfl, hi1, hin, hvb, hrun, hb⟩ := hrel
      have HB := hid hb
      clear hb
      by_cases hlt : i < 4
      · have hlt' : (i : Int) < 4 := by omega
        have hpl : a + i < s.size := by omega
        have hg := pk_get hpl
        have hk := pk_lt s (a + i)
        rw [show 4 - i = (4 - (i + 1)) + 1 by omega, runF] at hrun
        obtain ⟨d, hd⟩ : ∃ d, pk s (a + i) = d := ⟨_, rfl⟩
        rw [hd] at hg hk hrun
        have hvw : v < 131072 := by
          have : 32 * 64 ^ (i - 1) ≤ 32 * 64 ^ 2 := Nat.mul_le_mul_left _ (Nat.pow_le_pow_right (by omega) (by omega))
          omega
        have hbw : v * 64 + d - 128 < 32 * 64 ^ (i + 1 - 1) ∨ (d < 128 ∨ 192 ≤ d) := by
          have e : 64 ^ (i + 1 - 1) = 64 ^ (i - 1) * 64 := by rw [← Nat.pow_succ]; congr 1; omega
          rw [e, ← Nat.mul_assoc]
          omega
        clear hd
        have HX := hid (And.intro hrun hbw)
        clear hrun hbw hvb
        have hai : IntKind.i64.wrap ((a : Int) + (i : Int)) = ((a + i : Nat) : Int) := by rw [IntKind.wrap_i64]; omega
        by_cases hbad : d < 128 ∨ 192 ≤ d
        · have HQ := hid ((congrArg (runE low 4) (if_pos hbad)).symm.trans HX.out.1)
          rcases hbad with hb1 | hb1
          · have hb2 : (d : Int) < 128 := by omega
            go_wp2_with fail
            refine bodyPost_ret (v := .tuple #[.int .i64 0, .int .i64 0]) (by simp [results, Tryz.results112, go_sem]) rfl ⟨by rw [← HQ.out]; rfl, HB.out⟩
          · have hb2 : ¬ (d : Int) < 128 := by omega
            have hb3 : (192 : Int) ≤ (d : Int) := by omega
            go_wp2_with fail
            refine bodyPost_ret (v := .tuple #[.int .i64 0, .int .i64 0]) (by simp [results, Tryz.results112, go_sem]) rfl ⟨by rw [← HQ.out]; rfl, HB.out⟩
        · have HQ := hid (And.intro ((congrArg (runE low 4) (if_neg hbad)).symm.trans HX.out.1) (HX.out.2.resolve_right hbad))
          have hb2 : ¬ (d : Int) < 128 := by omega
          have hb3 : ¬ (192 : Int) ≤ (d : Int) := by omega
          clear HX
          go_wp2_with fail
          go_roundw
          case rel => exact ⟨i + 1, v * 64 + d - 128, by simp; omega, by go_num, by omega, by omega, HQ.out.2, HQ.out.1, HB.out⟩
          case measure => simp [intOf]; omega
      · obtain rfl : i = 4 := by omega
        rw [Nat.sub_self, runF] at hrun
        unfold runE at hrun
        simp only at hrun
        have hvw : v < 8388608 := by omega
        clear hvb
        have hl := HLo.out
        by_cases hbad : v < low ∨ 1114111 < v ∨ (55296 ≤ v ∧ v < 57344)
        · have HQ := hid ((if_pos hbad).symm.trans hrun)
          clear hrun
          go_wp2_with fail
          all_goals first | (exfalso; omega) | exact bodyPost_ret (v := .tuple #[.int .i64 0, .int .i64 0]) (by simp [results, Tryz.results112, go_sem]) rfl ⟨by rw [← HQ.out]; rfl, HB.out⟩
        · have HQ := hid ((if_neg hbad).symm.trans hrun)
          clear hrun
          go_wp2_with fail
          all_goals first | (exfalso; omega) | exact bodyPost_ret (v := .tuple #[.int .i64 (v : Int), .int .i64 4]) (by simp [results, Tryz.results112, go_sem]) rfl ⟨by rw [← HQ.out]; rfl, HB.out⟩
/-- THE REFERENCE's runeAt -/
theorem runeAt_any (s : ByteArray) (a : Nat) (w : World) (ha : a < s.size) (hs : s.size ≤ 140737488355328) :
    Calls Tryz.prog 112 #[.string s, .int .i64 (a : Int)] w fun x w' => RunPost w (runR s a) x w' := by
  rcases (by omega : (pk s a < 192 ∨ 248 ≤ pk s a) ∨ (192 ≤ pk s a ∧ pk s a < 224) ∨ (224 ≤ pk s a ∧ pk s a < 240) ∨ (240 ≤ pk s a ∧ pk s a < 248)) with h | h | h | h
  · exact runeAt_0 s a _ w ha rfl h
  · exact runeAt_2 s a _ w ha hs rfl h.1 h.2
  · exact runeAt_3 s a _ w ha hs rfl h.1 h.2
  · exact runeAt_4 s a _ w ha hs rfl h.1 h.2
end Go.Proofs.YtdmhemofhmfkoabGreatDoor

namespace Go.Proofs.YtdmhemofhmfkoabGreatDoor
open Go.RowKit
set_option maxRecDepth 8000
theorem int_odd {U : Nat} (h : U % 2 = 1) : (U : Int) % 2 = 1 := by omega
theorem int_even {U : Nat} (h : ¬ U % 2 = 1) : (U : Int) % 2 = 0 := by omega
theorem un_odd {U : Nat} (h : U % 2 = 1) : unfoldI U = -1 - (U : Int) / 2 := by unfold unfoldI; rw [if_pos h]; omega
theorem un_even {U : Nat} (h : ¬ U % 2 = 1) : unfoldI U = (U : Int) / 2 := by unfold unfoldI; rw [if_neg h]; omega
theorem half1 {U : Nat} (h : U < 2 ^ 64) : wrap64 ((U : Int) / 2) = (U : Int) / 2 := by rw [wrap64]; omega
theorem half2 {U : Nat} (h : U < 2 ^ 64) : IntKind.i64.wrap ((U : Int) / 2) = (U : Int) / 2 := by rw [IntKind.wrap_i64]; omega
/-- what the reference's groups comes to -/
def RGPost (w : World) (a : Nat) (r : Option (Nat × Nat)) (x : Ending) (w' : World) : Prop :=
  w' = w ∧ (∀ u a', r = some (u, a') → x = .returned (.tuple #[.int .i64 (unfoldI u), .int .i64 ((a' : Int) - (a : Int)), .int .i64 0])) ∧ (r = none → x = .returned (.tuple #[.int .i64 0, .int .i64 0, .int .i64 28]))
end Go.Proofs.YtdmhemofhmfkoabGreatDoor

namespace Go.Proofs.YtdmhemofhmfkoabGreatDoor
open Go.RowKit
set_option maxRecDepth 8000
/-- a part as it is read: what it is, and where it ends -/
def rpS (f : Nat → Int) (n d a : Nat) : Except Nat (PT × Nat) :=
  if 3 < (f a).toNat then .error 28 else if (f a).toNat = 3 ∧ d = 3 then .error 23
  else if (f a).toNat = 0 then .ok (⟨0, 0, ⟨#[]⟩, 0⟩, a + 1)
  else if (f a).toNat = 1 then (match grpS f n 10 (a + 1) 0 0 with | none => .error 28 | some (u, a') => .ok (⟨1, unfoldI u, ⟨#[]⟩, 0⟩, a'))
  else if n ≤ a + 1 then .error 28
  else if (f a).toNat = 2 then (if 24 < (f (a + 1)).toNat then .error 21 else if n < a + 2 + (f (a + 1)).toNat then .error 28 else .ok (⟨2, 0, strOf (bytesAt f (a + 2) (f (a + 1)).toNat), 0⟩, a + 2 + (f (a + 1)).toNat))
  else if 6 < (f (a + 1)).toNat then .error 22
  else .ok (⟨3, 0, ⟨#[]⟩, (f (a + 1)).toNat⟩, a + 2)
def RPPost (w : World) (a : Nat) (r : Except Nat (PT × Nat)) (x : Ending) (w' : World) : Prop :=
  Below w.heap.size w w' ∧ (∀ q a', r = .ok (q, a') → x = .returned (.tuple #[.agg #[.int .i64 q.kind, .int .i64 q.int, .string q.text, .int .i64 q.n], .int .i64 ((a' : Int) - (a : Int)), .int .i64 0])) ∧
    (∀ e : Nat, r = .error e → ∃ (k i : Int) (s : ByteArray) (m z : Int), x = .returned (.tuple #[.agg #[.int .i64 k, .int .i64 i, .string s, .int .i64 m], .int .i64 z, .int .i64 (e : Int)]))
end Go.Proofs.YtdmhemofhmfkoabGreatDoor

namespace Go.Proofs.YtdmhemofhmfkoabGreatDoor
open Go.RowKit
set_option maxRecDepth 8000

theorem map_getD (l : List VT) : (List.range l.length).map (fun j => l.getD j .nil) = l := by
  apply List.ext_getElem
  · simp
  · intro i h1 h2
    simp [List.getD_eq_getElem?_getD, List.getElem?_eq_getElem h2]
theorem flatP_mkL (l : List VT) : flatP (mkL l) = ⟨3, 0, ⟨#[]⟩, l.length⟩ :: l.flatMap flatP := by
  unfold mkL
  rw [flatP_eq]
  congr 1
  have h := congrArg (List.flatMap flatP) (map_getD l)
  rw [List.flatMap_map] at h
  exact h
/-- parts, where reading ends, how many there are -/
abbrev PR := Except Nat (List PT × Nat × Nat)
def ahead (ps : List PT) : PR → PR
  | .error e => .error e
  | .ok (l, a, q) => .ok (ps ++ l, a, q)
theorem ahead_ahead (x y : List PT) (r : PR) : ahead x (ahead y r) = ahead (x ++ y) r := by
  cases r with
  | error e => rfl
  | ok t => obtain ⟨l, a, q⟩ := t; simp [ahead]
theorem ahead_nil (r : PR) : ahead [] r = r := by
  cases r with
  | error e => rfl
  | ok t => rfl
/-- what is left behind a value that has just been read, where lists stand open -/
def remU (f : Nat → Int) (n : Nat) : List Nat → Nat → Nat → PR
  | [], a, q => .ok ([], a, q)
  | c :: st, a, q =>
    match itemsS (decS f n (2 - st.length) (st.length + 1)) (c - 1) a q with
    | .error e => .error e
    | .ok (l, a', q') => ahead (l.flatMap flatP) (remU f n st a' q')
/-- what is left ahead of a value -/
def headS (f : Nat → Int) (n : Nat) (st : List Nat) (a q : Nat) : PR :=
  match decS f n (3 - st.length) st.length a q with
  | .error e => .error e
  | .ok (v, a', q') => ahead (flatP v) (remU f n st a' q')
theorem itemsS_cons (g : Nat → Nat → DR) : ∀ m a q, itemsS g (m + 1) a q = match g a q with
    | .error e => .error e
    | .ok (v, a1, q1) => match itemsS g m a1 q1 with
      | .error e => .error e
      | .ok (l, a2, q2) => .ok (v :: l, a2, q2) := by
  intro m
  induction m with
  | zero =>
    intro a q
    simp only [itemsS]
    cases g a q with
    | error e => rfl
    | ok t => rfl
  | succ m ih =>
    intro a q
    rw [itemsS, ih]
    cases g a q with
    | error e => rfl
    | ok t =>
      obtain ⟨v, a1, q1⟩ := t
      simp only [itemsS]
      cases itemsS g m a1 q1 with
      | error e => rfl
      | ok t2 =>
        obtain ⟨l, a2, q2⟩ := t2
        simp only
        cases g a2 q2 with
        | error e => rfl
        | ok t3 => rfl
theorem remU_one (f : Nat → Int) (n : Nat) (st : List Nat) (a q : Nat) : remU f n (1 :: st) a q = remU f n st a q := by
  rw [remU]
  simp only [Nat.sub_self, itemsS, List.flatMap_nil]
  exact ahead_nil _
theorem remU_more (f : Nat → Int) (n : Nat) (c : Nat) (st : List Nat) (a q : Nat) : remU f n ((c + 2) :: st) a q = headS f n ((c + 1) :: st) a q := by
  rw [remU, headS]
  rw [show c + 2 - 1 = c + 1 by omega, itemsS_cons]
  rw [show 3 - ((c + 1) :: st).length = 2 - st.length by simp, show ((c + 1) :: st).length = st.length + 1 by simp]
  cases decS f n (2 - st.length) (st.length + 1) a q with
  | error e => rfl
  | ok t =>
    obtain ⟨v, a1, q1⟩ := t
    simp only
    rw [remU, Nat.add_sub_cancel]
    cases itemsS (decS f n (2 - st.length) (st.length + 1)) c a1 q1 with
    | error e => rfl
    | ok t2 =>
      obtain ⟨l, a2, q2⟩ := t2
      simp only [List.flatMap_cons]
      rw [ahead_ahead]
/-- what is known of a part that was read -/
structure RPOk (n d a : Nat) (q : PT) (a1 : Nat) : Prop where
  k : q.kind = 0 ∨ q.kind = 1 ∨ q.kind = 2 ∨ q.kind = 3
  leaf : q.kind ≠ 3 → q.n = 0
  list : q.kind = 3 → q.int = 0 ∧ q.text = ⟨#[]⟩ ∧ d ≠ 3
  i0 : -9223372036854775808 ≤ q.int
  i1 : q.int ≤ 9223372036854775807
  s : q.text.size ≤ 24
  m : q.n ≤ 6
  lt : a < a1
  le : a1 ≤ n
theorem grpS_gt (f : Nat → Int) (n : Nat) : ∀ k a i u r, grpS f n k a i u = some r → a < r.2 := by
  intro k
  induction k with
  | zero => intro a i u r h; cases h
  | succ k ih =>
    intro a i u r h
    rw [grpS] at h
    split at h
    · cases h
    · split at h
      · cases h
      · split at h
        · cases h
          exact Nat.lt_succ_self a
        · have := ih _ _ _ _ h
          omega
theorem rpS_ok {f : Nat → Int} {n d a : Nat} {q : PT} {a1 : Nat} (h : rpS f n d a = .ok (q, a1)) (ha : a < n) : RPOk n d a q a1 := by
  unfold rpS at h
  split at h
  · cases h
  split at h
  · cases h
  rename_i h3 hd
  split at h
  · simp only [Except.ok.injEq, Prod.mk.injEq] at h
    obtain ⟨rfl, rfl⟩ := h
    exact ⟨by simp, fun _ => rfl, fun h => (by simp at h), by simp, by simp, Nat.zero_le _, by simp, by omega, by omega⟩
  split at h
  · split at h
    · cases h
    · rename_i u a2 h2
      simp only [Except.ok.injEq, Prod.mk.injEq] at h
      obtain ⟨rfl, rfl⟩ := h
      have h4 := grpS_le _ _ _ _ _ _ _ h2
      have h5 := grpS_gt _ _ _ _ _ _ _ h2
      have h6 := h4.2 (by omega) (by omega) (by omega)
      have h7 := h4.1
      simp only at h5 h6 h7
      refine ⟨by simp, fun _ => rfl, fun h => (by simp at h), ?_, ?_, Nat.zero_le _, by simp, by omega, h7⟩
      · simp only [unfoldI]; split <;> omega
      · simp only [unfoldI]; split <;> omega
  split at h
  · cases h
  split at h
  · split at h
    · cases h
    split at h
    · cases h
    · simp only [Except.ok.injEq, Prod.mk.injEq] at h
      obtain ⟨rfl, rfl⟩ := h
      refine ⟨by simp, fun _ => rfl, fun h => (by simp at h), by simp, by simp, ?_, by simp, by omega, by omega⟩
      simp only [strOf_size, bytesAt, List.length_map, List.length_range]
      omega
  split at h
  · cases h
  · simp only [Except.ok.injEq, Prod.mk.injEq] at h
    obtain ⟨rfl, rfl⟩ := h
    refine ⟨by simp, fun h => (by simp at h), fun _ => ⟨rfl, rfl, ?_⟩, by simp, by simp, Nat.zero_le _, by simp only; omega, by omega, by omega⟩
    intro hd3
    exact hd ⟨by omega, hd3⟩
theorem rpS_errs {f : Nat → Int} {n d a e : Nat} (h : rpS f n d a = .error e) : 0 < e ∧ e < 64 := by
  unfold rpS at h
  split at h
  · cases h; omega
  split at h
  · cases h; omega
  split at h
  · cases h
  split at h
  · split at h
    · cases h; omega
    · cases h
  split at h
  · cases h; omega
  split at h
  · split at h
    · cases h; omega
    split at h
    · cases h; omega
    · cases h
  split at h
  · cases h; omega
  · cases h
/-- a part without items, as a value -/
def leafV (q : PT) : VT := .mk q.kind q.int q.text 0 none 0 (fun _ => .nil)
/-- a part of the one reading is a part of the other -/
theorem partS_rp {f : Nat → Int} {n : Nat} (g : Nat → Nat → DR) {d a q : Nat} (ha : a < n) (hq : q < 12) (hd : d ≤ 3) : partS f n g d a q = match rpS f n d a with
    | .error e => .error e
    | .ok (t, a1) => if t.kind = 3 then (match itemsS g t.n a1 (q + 1) with | .error e => .error e | .ok (l, a', q') => .ok (mkL l, a', q')) else .ok (leafV t, a1, q + 1) := by
  unfold partS rpS
  rw [if_neg (by omega), if_neg (by omega)]
  by_cases h3 : 3 < (f a).toNat
  · rw [if_pos h3, if_pos h3]
  rw [if_neg h3, if_neg h3]
  by_cases hdd : (f a).toNat = 3 ∧ 3 ≤ d
  · rw [if_pos hdd, if_pos (show (f a).toNat = 3 ∧ d = 3 from ⟨hdd.1, by omega⟩)]
  rw [if_neg hdd, if_neg (show ¬ ((f a).toNat = 3 ∧ d = 3) from fun h => hdd ⟨h.1, by omega⟩)]
  by_cases h0 : (f a).toNat = 0
  · rw [if_pos h0, if_pos h0]; rfl
  rw [if_neg h0, if_neg h0]
  by_cases h1 : (f a).toNat = 1
  · rw [if_pos h1, if_pos h1]
    cases grpS f n 10 (a + 1) 0 0 with
    | none => rfl
    | some t => rfl
  rw [if_neg h1, if_neg h1]
  by_cases hn : n ≤ a + 1
  · rw [if_pos hn, if_pos hn]
  rw [if_neg hn, if_neg hn]
  by_cases h2 : (f a).toNat = 2
  · rw [if_pos h2, if_pos h2]
    by_cases h24 : 24 < (f (a + 1)).toNat
    · rw [if_pos h24, if_pos h24]
    rw [if_neg h24, if_neg h24]
    by_cases hs : n < a + 2 + (f (a + 1)).toNat
    · rw [if_pos hs, if_pos hs]
    rw [if_neg hs, if_neg hs]
    rfl
  rw [if_neg h2, if_neg h2]
  by_cases h6 : 6 < (f (a + 1)).toNat
  · rw [if_pos h6, if_pos h6]
  rw [if_neg h6, if_neg h6]
  simp only [if_true]
  cases itemsS g (f (a + 1)).toNat (a + 2) (q + 1) with
  | error e => rfl
  | ok t => rfl
theorem headS_end (f : Nat → Int) (n : Nat) (st : List Nat) (a q : Nat) (h : n ≤ a) : headS f n st a q = .error 28 := by
  have key : decS f n (3 - st.length) st.length a q = .error 28 := by
    cases (3 - st.length) with
    | zero => rw [decS, partS, if_pos h]
    | succ k => rw [decS, partS, if_pos h]
  rw [headS, key]
theorem headS_full (f : Nat → Int) (n : Nat) (st : List Nat) (a q : Nat) (h : a < n) (hq : 12 ≤ q) : headS f n st a q = .error 22 := by
  have key : decS f n (3 - st.length) st.length a q = .error 22 := by
    cases (3 - st.length) with
    | zero => rw [decS, partS, if_neg (by omega), if_pos (by omega)]
    | succ k => rw [decS, partS, if_neg (by omega), if_pos (by omega)]
  rw [headS, key]
theorem headS_err {f : Nat → Int} {n : Nat} {st : List Nat} {a q e : Nat} (h : a < n) (hq : q < 12) (hst : st.length ≤ 3) (hr : rpS f n st.length a = .error e) : headS f n st a q = .error e := by
  have key : decS f n (3 - st.length) st.length a q = .error e := by
    cases (3 - st.length) with
    | zero => rw [decS, partS_rp _ h hq hst, hr]
    | succ k => rw [decS, partS_rp _ h hq hst, hr]
  rw [headS, key]
theorem flatP_leaf (q : PT) (h : q.n = 0) : flatP (leafV q) = [q] := by
  obtain ⟨k, i, s, m⟩ := q
  simp only at h
  subst h
  rfl
theorem headS_leaf {f : Nat → Int} {n : Nat} {st : List Nat} {a q a1 : Nat} {t : PT} (h : a < n) (hq : q < 12) (hst : st.length ≤ 3) (hr : rpS f n st.length a = .ok (t, a1)) (h0 : t.n = 0) :
    headS f n st a q = ahead [t] (remU f n st a1 (q + 1)) := by
  have hok := rpS_ok hr h
  have key : ∀ g, partS f n g st.length a q = .ok (if t.kind = 3 then mkL [] else leafV t, a1, q + 1) := by
    intro g
    rw [partS_rp g h hq hst, hr]
    by_cases h3 : t.kind = 3
    · simp only [if_pos h3, h0, itemsS]
    · simp only [if_neg h3]
  have key2 : decS f n (3 - st.length) st.length a q = .ok (if t.kind = 3 then mkL [] else leafV t, a1, q + 1) := by
    cases (3 - st.length) with
    | zero => exact key _
    | succ k => exact key _
  have key3 : flatP (if t.kind = 3 then mkL [] else leafV t) = [t] := by
    by_cases h3 : t.kind = 3
    · rw [if_pos h3, flatP_mkL]
      obtain ⟨h4, h5, _⟩ := hok.list h3
      obtain ⟨k, i, s, m⟩ := t
      simp only at h0 h3 h4 h5
      subst h0 h3 h4 h5
      rfl
    · rw [if_neg h3]; exact flatP_leaf t h0
  rw [headS, key2]
  simp only [key3]
theorem headS_push {f : Nat → Int} {n : Nat} {st : List Nat} {a q a1 : Nat} {t : PT} (h : a < n) (hq : q < 12) (hst : st.length ≤ 3) (hr : rpS f n st.length a = .ok (t, a1)) (h0 : 0 < t.n) :
    headS f n st a q = ahead [t] (headS f n (t.n :: st) a1 (q + 1)) ∧ st.length ≤ 2 := by
  have hok := rpS_ok hr h
  have h3 : t.kind = 3 := Classical.byContradiction fun hne => by have := hok.leaf hne; omega
  obtain ⟨h4, h5, h6⟩ := hok.list h3
  have h7 : st.length ≤ 2 := by omega
  refine ⟨?_, h7⟩
  obtain ⟨m, hm⟩ : ∃ m, t.n = m + 1 := ⟨t.n - 1, by omega⟩
  rw [headS, headS]
  rw [show 3 - st.length = (2 - st.length) + 1 by omega, decS, partS_rp _ h hq hst, hr]
  simp only [if_pos h3, hm, List.length_cons, itemsS_cons]
  rw [show 3 - (st.length + 1) = 2 - st.length by omega]
  have ht : t = ⟨3, 0, ⟨#[]⟩, m + 1⟩ := by
    obtain ⟨k, i, s, m'⟩ := t
    simp only at hm h3 h4 h5
    subst hm h3 h4 h5
    rfl
  cases hde : decS f n (2 - st.length) (st.length + 1) a1 (q + 1) with
  | error e => rfl
  | ok x =>
    obtain ⟨v, a2, q2⟩ := x
    simp only [remU, Nat.add_sub_cancel]
    cases hit : itemsS (decS f n (2 - st.length) (st.length + 1)) m a2 q2 with
    | error e => rfl
    | ok y =>
      obtain ⟨l, a3, q3⟩ := y
      have hl : l.length = m := (itemsS_le (n := n) (fun a q v a' q' h _ => decS_le _ _ _ _ _ _ _ h) _ _ _ _ _ _ hit (decS_le _ _ _ _ _ _ _ hde)).2
      simp only [flatP_mkL, ahead_ahead, List.length_cons, hl, ht, List.flatMap_cons, List.cons_append, List.nil_append]
end Go.Proofs.YtdmhemofhmfkoabGreatDoor

namespace Go.Proofs.YtdmhemofhmfkoabGreatDoor
open Go.RowKit
set_option maxRecDepth 8000
theorem kindP : ∃ i, Kind 84 122 i (.agg #[.int .i64 0, .int .i64 0, .string ⟨#[]⟩, .int .i64 0]) 4 40 := by
  obtain ⟨i0, hi, hz0, hz1, hz2⟩ := info_parts (show (Tryz.prog.info? 122).map (fun i => (i.zero, i.size, i.bytes)) = some (some (.agg #[.int .i64 0, .int .i64 0, .string ⟨#[]⟩, .int .i64 0]), 4, 40) by kernel_rfl)
  exact ⟨i0, Tryz.underlying84, hi, hz0, hz1, hz2, rfl, by decide⟩
end Go.Proofs.YtdmhemofhmfkoabGreatDoor
