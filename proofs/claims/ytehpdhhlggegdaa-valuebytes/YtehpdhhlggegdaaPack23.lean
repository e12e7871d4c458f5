import Derived.Test.YtehpdhhlggegdaaRPart
import Derived.Test.YtehpdhhlggegdaaPack1
namespace Go.Proofs.Ytehpdhhlggegdaa
open Go.RowKit
set_option maxRecDepth 8000

theorem map_getD (l : List VT) : (List.range l.length).map (fun j => l.getD j .nil) = l := by
  apply List.ext_getElem
  · simp
  · intro i h1 h2
    simp [List.getD_eq_getElem?_getD, List.getElem?_eq_getElem h2]
theorem flatP_mkL (l : List VT) : flatP (mkL l) = ⟨3, 0, ⟨#[]⟩, l.length⟩ :: l.flatMap flatP := by
  unfold mkL
  rw [flatP_eq]
  congr 1
  have h := congrArg (List.flatMap flatP) (map_getD l)
  rw [List.flatMap_map] at h
  exact h
/-- parts, where reading ends, how many there are -/
abbrev PR := Except Nat (List PT × Nat × Nat)
def ahead (ps : List PT) : PR → PR
  | .error e => .error e
  | .ok (l, a, q) => .ok (ps ++ l, a, q)
theorem ahead_ahead (x y : List PT) (r : PR) : ahead x (ahead y r) = ahead (x ++ y) r := by
  cases r with
  | error e => rfl
  | ok t => obtain ⟨l, a, q⟩ := t; simp [ahead]
theorem ahead_nil (r : PR) : ahead [] r = r := by
  cases r with
  | error e => rfl
  | ok t => rfl
/-- what is left behind a value that has just been read, where lists stand open -/
def remU (f : Nat → Int) (n : Nat) : List Nat → Nat → Nat → PR
  | [], a, q => .ok ([], a, q)
  | c :: st, a, q =>
    match itemsS (decS f n (2 - st.length) (st.length + 1)) (c - 1) a q with
    | .error e => .error e
    | .ok (l, a', q') => ahead (l.flatMap flatP) (remU f n st a' q')
/-- what is left ahead of a value -/
def headS (f : Nat → Int) (n : Nat) (st : List Nat) (a q : Nat) : PR :=
  match decS f n (3 - st.length) st.length a q with
  | .error e => .error e
  | .ok (v, a', q') => ahead (flatP v) (remU f n st a' q')
theorem itemsS_cons (g : Nat → Nat → DR) : ∀ m a q, itemsS g (m + 1) a q = match g a q with
    | .error e => .error e
    | .ok (v, a1, q1) => match itemsS g m a1 q1 with
      | .error e => .error e
      | .ok (l, a2, q2) => .ok (v :: l, a2, q2) := by
  intro m
  induction m with
  | zero =>
    intro a q
    simp only [itemsS]
    cases g a q with
    | error e => rfl
    | ok t => rfl
  | succ m ih =>
    intro a q
    rw [itemsS, ih]
    cases g a q with
    | error e => rfl
    | ok t =>
      obtain ⟨v, a1, q1⟩ := t
      simp only [itemsS]
      cases itemsS g m a1 q1 with
      | error e => rfl
      | ok t2 =>
        obtain ⟨l, a2, q2⟩ := t2
        simp only
        cases g a2 q2 with
        | error e => rfl
        | ok t3 => rfl
theorem remU_one (f : Nat → Int) (n : Nat) (st : List Nat) (a q : Nat) : remU f n (1 :: st) a q = remU f n st a q := by
  rw [remU]
  simp only [Nat.sub_self, itemsS, List.flatMap_nil]
  exact ahead_nil _
theorem remU_more (f : Nat → Int) (n : Nat) (c : Nat) (st : List Nat) (a q : Nat) : remU f n ((c + 2) :: st) a q = headS f n ((c + 1) :: st) a q := by
  rw [remU, headS]
  rw [show c + 2 - 1 = c + 1 by omega, itemsS_cons]
  rw [show 3 - ((c + 1) :: st).length = 2 - st.length by simp, show ((c + 1) :: st).length = st.length + 1 by simp]
  cases decS f n (2 - st.length) (st.length + 1) a q with
  | error e => rfl
  | ok t =>
    obtain ⟨v, a1, q1⟩ := t
    simp only
    rw [remU, Nat.add_sub_cancel]
    cases itemsS (decS f n (2 - st.length) (st.length + 1)) c a1 q1 with
    | error e => rfl
    | ok t2 =>
      obtain ⟨l, a2, q2⟩ := t2
      simp only [List.flatMap_cons]
      rw [ahead_ahead]
/-- what is known of a part that was read -/
structure RPOk (n d a : Nat) (q : PT) (a1 : Nat) : Prop where
  k : q.kind = 0 ∨ q.kind = 1 ∨ q.kind = 2 ∨ q.kind = 3
  leaf : q.kind ≠ 3 → q.n = 0
  list : q.kind = 3 → q.int = 0 ∧ q.text = ⟨#[]⟩ ∧ d ≠ 3
  i0 : -9223372036854775808 ≤ q.int
  i1 : q.int ≤ 9223372036854775807
  s : q.text.size ≤ 24
  m : q.n ≤ 6
  lt : a < a1
  le : a1 ≤ n
theorem grpS_gt (f : Nat → Int) (n : Nat) : ∀ k a i u r, grpS f n k a i u = some r → a < r.2 := by
  intro k
  induction k with
  | zero => intro a i u r h; cases h
  | succ k ih =>
    intro a i u r h
    rw [grpS] at h
    split at h
    · cases h
    · split at h
      · cases h
      · split at h
        · cases h
          exact Nat.lt_succ_self a
        · have := ih _ _ _ _ h
          omega
theorem rpS_ok {f : Nat → Int} {n d a : Nat} {q : PT} {a1 : Nat} (h : rpS f n d a = .ok (q, a1)) (ha : a < n) : RPOk n d a q a1 := by
  unfold rpS at h
  split at h
  · cases h
  split at h
  · cases h
  rename_i h3 hd
  split at h
  · simp only [Except.ok.injEq, Prod.mk.injEq] at h
    obtain ⟨rfl, rfl⟩ := h
    exact ⟨by simp, fun _ => rfl, fun h => (by simp at h), by simp, by simp, Nat.zero_le _, by simp, by omega, by omega⟩
  split at h
  · split at h
    · cases h
    · rename_i u a2 h2
      simp only [Except.ok.injEq, Prod.mk.injEq] at h
      obtain ⟨rfl, rfl⟩ := h
      have h4 := grpS_le _ _ _ _ _ _ _ h2
      have h5 := grpS_gt _ _ _ _ _ _ _ h2
      have h6 := h4.2 (by omega) (by omega) (by omega)
      have h7 := h4.1
      simp only at h5 h6 h7
      refine ⟨by simp, fun _ => rfl, fun h => (by simp at h), ?_, ?_, Nat.zero_le _, by simp, by omega, h7⟩
      · simp only [unfoldI]; split <;> omega
      · simp only [unfoldI]; split <;> omega
  split at h
  · cases h
  split at h
  · split at h
    · cases h
    split at h
    · cases h
    · simp only [Except.ok.injEq, Prod.mk.injEq] at h
      obtain ⟨rfl, rfl⟩ := h
      refine ⟨by simp, fun _ => rfl, fun h => (by simp at h), by simp, by simp, ?_, by simp, by omega, by omega⟩
      simp only [strOf_size, bytesAt, List.length_map, List.length_range]
      omega
  split at h
  · cases h
  · simp only [Except.ok.injEq, Prod.mk.injEq] at h
    obtain ⟨rfl, rfl⟩ := h
    refine ⟨by simp, fun h => (by simp at h), fun _ => ⟨rfl, rfl, ?_⟩, by simp, by simp, Nat.zero_le _, by simp only; omega, by omega, by omega⟩
    intro hd3
    exact hd ⟨by omega, hd3⟩
theorem rpS_errs {f : Nat → Int} {n d a e : Nat} (h : rpS f n d a = .error e) : 0 < e ∧ e < 64 := by
  unfold rpS at h
  split at h
  · cases h; omega
  split at h
  · cases h; omega
  split at h
  · cases h
  split at h
  · split at h
    · cases h; omega
    · cases h
  split at h
  · cases h; omega
  split at h
  · split at h
    · cases h; omega
    split at h
    · cases h; omega
    · cases h
  split at h
  · cases h; omega
  · cases h
/-- a part without items, as a value -/
def leafV (q : PT) : VT := .mk q.kind q.int q.text 0 none 0 (fun _ => .nil)
/-- a part of the one reading is a part of the other -/
theorem partS_rp {f : Nat → Int} {n : Nat} (g : Nat → Nat → DR) {d a q : Nat} (ha : a < n) (hq : q < 12) (hd : d ≤ 3) : partS f n g d a q = match rpS f n d a with
    | .error e => .error e
    | .ok (t, a1) => if t.kind = 3 then (match itemsS g t.n a1 (q + 1) with | .error e => .error e | .ok (l, a', q') => .ok (mkL l, a', q')) else .ok (leafV t, a1, q + 1) := by
  unfold partS rpS
  rw [if_neg (by omega), if_neg (by omega)]
  by_cases h3 : 3 < (f a).toNat
  · rw [if_pos h3, if_pos h3]
  rw [if_neg h3, if_neg h3]
  by_cases hdd : (f a).toNat = 3 ∧ 3 ≤ d
  · rw [if_pos hdd, if_pos (show (f a).toNat = 3 ∧ d = 3 from ⟨hdd.1, by omega⟩)]
  rw [if_neg hdd, if_neg (show ¬ ((f a).toNat = 3 ∧ d = 3) from fun h => hdd ⟨h.1, by omega⟩)]
  by_cases h0 : (f a).toNat = 0
  · rw [if_pos h0, if_pos h0]; rfl
  rw [if_neg h0, if_neg h0]
  by_cases h1 : (f a).toNat = 1
  · rw [if_pos h1, if_pos h1]
    cases grpS f n 10 (a + 1) 0 0 with
    | none => rfl
    | some t => rfl
  rw [if_neg h1, if_neg h1]
  by_cases hn : n ≤ a + 1
  · rw [if_pos hn, if_pos hn]
  rw [if_neg hn, if_neg hn]
  by_cases h2 : (f a).toNat = 2
  · rw [if_pos h2, if_pos h2]
    by_cases h24 : 24 < (f (a + 1)).toNat
    · rw [if_pos h24, if_pos h24]
    rw [if_neg h24, if_neg h24]
    by_cases hs : n < a + 2 + (f (a + 1)).toNat
    · rw [if_pos hs, if_pos hs]
    rw [if_neg hs, if_neg hs]
    rfl
  rw [if_neg h2, if_neg h2]
  by_cases h6 : 6 < (f (a + 1)).toNat
  · rw [if_pos h6, if_pos h6]
  rw [if_neg h6, if_neg h6]
  simp only [if_true]
  cases itemsS g (f (a + 1)).toNat (a + 2) (q + 1) with
  | error e => rfl
  | ok t => rfl
theorem headS_end (f : Nat → Int) (n : Nat) (st : List Nat) (a q : Nat) (h : n ≤ a) : headS f n st a q = .error 28 := by
  have key : decS f n (3 - st.length) st.length a q = .error 28 := by
    cases (3 - st.length) with
    | zero => rw [decS, partS, if_pos h]
    | succ k => rw [decS, partS, if_pos h]
  rw [headS, key]
theorem headS_full (f : Nat → Int) (n : Nat) (st : List Nat) (a q : Nat) (h : a < n) (hq : 12 ≤ q) : headS f n st a q = .error 22 := by
  have key : decS f n (3 - st.length) st.length a q = .error 22 := by
    cases (3 - st.length) with
    | zero => rw [decS, partS, if_neg (by omega), if_pos (by omega)]
    | succ k => rw [decS, partS, if_neg (by omega), if_pos (by omega)]
  rw [headS, key]
theorem headS_err {f : Nat → Int} {n : Nat} {st : List Nat} {a q e : Nat} (h : a < n) (hq : q < 12) (hst : st.length ≤ 3) (hr : rpS f n st.length a = .error e) : headS f n st a q = .error e := by
  have key : decS f n (3 - st.length) st.length a q = .error e := by
    cases (3 - st.length) with
    | zero => rw [decS, partS_rp _ h hq hst, hr]
    | succ k => rw [decS, partS_rp _ h hq hst, hr]
  rw [headS, key]
theorem flatP_leaf (q : PT) (h : q.n = 0) : flatP (leafV q) = [q] := by
  obtain ⟨k, i, s, m⟩ := q
  simp only at h
  subst h
  rfl
theorem headS_leaf {f : Nat → Int} {n : Nat} {st : List Nat} {a q a1 : Nat} {t : PT} (h : a < n) (hq : q < 12) (hst : st.length ≤ 3) (hr : rpS f n st.length a = .ok (t, a1)) (h0 : t.n = 0) :
    headS f n st a q = ahead [t] (remU f n st a1 (q + 1)) := by
  have hok := rpS_ok hr h
  have key : ∀ g, partS f n g st.length a q = .ok (if t.kind = 3 then mkL [] else leafV t, a1, q + 1) := by
    intro g
    rw [partS_rp g h hq hst, hr]
    by_cases h3 : t.kind = 3
    · simp only [if_pos h3, h0, itemsS]
    · simp only [if_neg h3]
  have key2 : decS f n (3 - st.length) st.length a q = .ok (if t.kind = 3 then mkL [] else leafV t, a1, q + 1) := by
    cases (3 - st.length) with
    | zero => exact key _
    | succ k => exact key _
  have key3 : flatP (if t.kind = 3 then mkL [] else leafV t) = [t] := by
    by_cases h3 : t.kind = 3
    · rw [if_pos h3, flatP_mkL]
      obtain ⟨h4, h5, _⟩ := hok.list h3
      obtain ⟨k, i, s, m⟩ := t
      simp only at h0 h3 h4 h5
      subst h0 h3 h4 h5
      rfl
    · rw [if_neg h3]; exact flatP_leaf t h0
  rw [headS, key2]
  simp only [key3]
theorem headS_push {f : Nat → Int} {n : Nat} {st : List Nat} {a q a1 : Nat} {t : PT} (h : a < n) (hq : q < 12) (hst : st.length ≤ 3) (hr : rpS f n st.length a = .ok (t, a1)) (h0 : 0 < t.n) :
    headS f n st a q = ahead [t] (headS f n (t.n :: st) a1 (q + 1)) ∧ st.length ≤ 2 := by
  have hok := rpS_ok hr h
  have h3 : t.kind = 3 := Classical.byContradiction fun hne => by have := hok.leaf hne; omega
  obtain ⟨h4, h5, h6⟩ := hok.list h3
  have h7 : st.length ≤ 2 := by omega
  refine ⟨?_, h7⟩
  obtain ⟨m, hm⟩ : ∃ m, t.n = m + 1 := ⟨t.n - 1, by omega⟩
  rw [headS, headS]
  rw [show 3 - st.length = (2 - st.length) + 1 by omega, decS, partS_rp _ h hq hst, hr]
  simp only [if_pos h3, hm, List.length_cons, itemsS_cons]
  rw [show 3 - (st.length + 1) = 2 - st.length by omega]
  have ht : t = ⟨3, 0, ⟨#[]⟩, m + 1⟩ := by
    obtain ⟨k, i, s, m'⟩ := t
    simp only at hm h3 h4 h5
    subst hm h3 h4 h5
    rfl
  cases hde : decS f n (2 - st.length) (st.length + 1) a1 (q + 1) with
  | error e => rfl
  | ok x =>
    obtain ⟨v, a2, q2⟩ := x
    simp only [remU, Nat.add_sub_cancel]
    cases hit : itemsS (decS f n (2 - st.length) (st.length + 1)) m a2 q2 with
    | error e => rfl
    | ok y =>
      obtain ⟨l, a3, q3⟩ := y
      have hl : l.length = m := (itemsS_le (n := n) (fun a q v a' q' h _ => decS_le _ _ _ _ _ _ _ h) _ _ _ _ _ _ hit (decS_le _ _ _ _ _ _ _ hde)).2
      simp only [flatP_mkL, ahead_ahead, List.length_cons, hl, ht, List.flatMap_cons, List.cons_append, List.nil_append]
end Go.Proofs.Ytehpdhhlggegdaa

namespace Go.Proofs.Ytehpdhhlggegdaa
open Go.RowKit
set_option maxRecDepth 8000

/-- no part of it is missing -/
def Whole : VT → Prop
  | .nil => False
  | .mk _ _ _ n _ _ f => ∀ j, j < n → Whole (f j)
/-- a part in memory -/
structure PAt (w : World) (b o : Nat) (q : PT) : Prop where
  c0 : w.cell? ⟨b, o, none⟩ = some (.int .i64 q.kind)
  c1 : w.cell? ⟨b, o + 1, none⟩ = some (.int .i64 q.int)
  c2 : w.cell? ⟨b, o + 2, none⟩ = some (.string q.text)
  c3 : w.cell? ⟨b, o + 3, none⟩ = some (.int .i64 q.n)
theorem PAt.kept {w w' : World} {b o : Nat} {t : PT} (h : PAt w b o t) (hb : w'.heap[b]? = w.heap[b]?) : PAt w' b o t :=
  ⟨(World.cell?_of_block (a := ⟨b, o, none⟩) hb).trans h.c0, (World.cell?_of_block (a := ⟨b, o + 1, none⟩) hb).trans h.c1, (World.cell?_of_block (a := ⟨b, o + 2, none⟩) hb).trans h.c2, (World.cell?_of_block (a := ⟨b, o + 3, none⟩) hb).trans h.c3⟩
/-- parts in a row -/
structure Pts (w : World) (b o : Nat) (L : List PT) : Prop where
  lt : b < w.heap.size
  at_ : ∀ j q, L[j]? = some q → PAt w b (o + j * 4) q
theorem Pts.below {w w' : World} {b o : Nat} {L : List PT} (h : Pts w b o L) (hb : Below w.heap.size w w') : Pts w' b o L :=
  ⟨Nat.lt_of_lt_of_le h.lt hb.size, fun j q hq => (h.at_ j q hq).kept (hb.block b h.lt)⟩
/-- such numbers as Go has -/
structure PTOk (q : PT) : Prop where
  k0 : 0 ≤ q.kind
  k1 : q.kind ≤ 3
  i0 : -9223372036854775808 ≤ q.int
  i1 : q.int ≤ 9223372036854775807
  s : q.text.size ≤ 24
  m : q.n ≤ 6
theorem flatN_split (f : Nat → VT) : ∀ n j, j < n → ∃ r, flatN f n = flatN f j ++ (flatP (f j) ++ r) := by
  intro n
  induction n with
  | zero => intro j h; omega
  | succ n ih =>
    intro j hj
    rw [flatN_succ]
    by_cases h : j < n
    · obtain ⟨r, hr⟩ := ih j h
      exact ⟨r ++ flatP (f n), by rw [hr]; simp⟩
    · obtain rfl : j = n := by omega
      exact ⟨[], by simp⟩
theorem flatP_some (t : VT) : 0 < (flatP t).length := by
  cases t with
  | nil => simp [flatP]
  | mk => simp [flatP_eq]
theorem drop_at {L l post : List PT} {i : Nat} {q : PT} (h : L.drop i = q :: l ++ post) : L[i]? = some q := by
  have := congrArg (fun x => x[0]?) h
  simpa using this
theorem drop_item {L post : List PT} {i n j : Nat} {q : PT} {f : Nat → VT} (h : L.drop i = q :: flatN f n ++ post) (hj : j < n) : ∃ r, L.drop (i + 1 + (flatN f j).length) = flatP (f j) ++ r := by
  obtain ⟨r, hr⟩ := flatN_split f n j hj
  refine ⟨r ++ post, ?_⟩
  have h2 : L.drop (i + 1 + (flatN f j).length) = (L.drop i).drop (1 + (flatN f j).length) := by rw [List.drop_drop, Nat.add_assoc]
  rw [h2, h, hr, Nat.add_comm 1]
  simp
theorem drop_lt {L l : List PT} {i : Nat} {t : VT} (h : L.drop i = flatP t ++ l) : i + (flatP t).length ≤ L.length ∧ i < L.length := by
  have h1 := congrArg List.length h
  have h2 := flatP_some t
  simp only [List.length_drop, List.length_append] at h1
  omega
/-- one more value laid behind those of a value that is being made -/
theorem item_push {B : Nat} {wo wr w2 w3 : World} {v2 v3 : Value} {q : Nat} {f g2 : Nat → VT} {u : VT} {k i : Int} {s : ByteArray} (hO2 : OwnV (B + 2) wr v2 q g2) (hal : ∀ z, z < q → VT.Alike (f z) (g2 z)) (hC2 : Box wr (B + 1) #[.int .i64 k, .int .i64 i, .string s, v2] 24) (hC0 : Box wr B #[.int .i64 0, .int .i64 0, .string ⟨#[]⟩, .slice none 0 0] 24) (hbel2 : Below B wo wr)
    (hk3 : Below wr.heap.size wr w2) (hin4 : VT.In w2 (fun b => wr.heap.size ≤ b) u) (hau : VT.Alike (f q) u) (ho3 : w3.ownsRow (B + 2) 24 4 v3 (q + 1) (((List.range q).flatMap fun j => (g2 j).cells) ++ u.cells))
    {wa : World} (ha : Below w2.heap.size w2 wa) (hg3 : wa.grownBy w3 v2.ownBlock) (hn3 : Near wa v2 v3) :
    OwnV (B + 2) (w3.setCell ⟨B + 1, 3, none⟩ v3) v3 (q + 1) (fun z => if z < q then g2 z else u) ∧ (∀ z, z < q + 1 → VT.Alike (f z) (if z < q then g2 z else u)) ∧ Box (w3.setCell ⟨B + 1, 3, none⟩ v3) (B + 1) #[.int .i64 k, .int .i64 i, .string s, v3] 24 ∧ Box (w3.setCell ⟨B + 1, 3, none⟩ v3) B #[.int .i64 0, .int .i64 0, .string ⟨#[]⟩, .slice none 0 0] 24 ∧ Below B wo (w3.setCell ⟨B + 1, 3, none⟩ v3) := by
  have hCl := hC2.lt
  have hs3 := hk3.size
  have hs2 := hbel2.size
  have hsa := ha.size
  have hu : VT.In w2 (fun b => B + 2 ≤ b ∧ v2.ownBlock ≠ some b) u := hin4.mono fun b hb hl => ⟨by omega, fun e => by have := (hO2.own.lt b e).2; omega⟩
  have hO3 := ((hO2.below hk3).below ha).push (hu.below ha) ho3 hg3 hn3
  have key : ∀ b x, b < B + 2 → Box wr b x 24 → Box w3 b x 24 := fun b x hb hx => ((hx.below hk3).below ha).kept (hg3.block _ (by have := hx.lt; omega) (fun e => by have := (hO2.own.lt _ e.symm).1; omega))
  have hC3 := key _ _ (by omega) hC2
  have hC4 := hC3.set 3 v3
  refine ⟨hO3.keep (by simp [World.setCell]) fun k hk _ => Below.heap_setCell _ _ _ _ (show k ≠ B + 1 by omega), fun z hz => ?_, by simpa using hC4, (key _ _ (by omega) hC0).kept (Below.heap_setCell _ _ _ _ (show B ≠ B + 1 by omega)), ?_⟩
  · by_cases h : z < q
    · rw [if_pos h]; exact hal z h
    · rw [if_neg h]
      obtain rfl : z = q := by omega
      exact hau
  · have h1 : Below B wo w3 := ((hbel2.trans (hk3.mono (by omega))).trans (ha.mono (by omega))).grown hg3 (by omega) (fun k hk => by have := (hO2.own.lt k hk).1; omega)
    exact h1.trans (((But.one w3 (B + 1)).setAt 3 v3).below (by have := hC3.lt; omega) (fun x hx => by omega))
end Go.Proofs.Ytehpdhhlggegdaa

namespace Go.Proofs.Ytehpdhhlggegdaa
open Go.RowKit
set_option maxRecDepth 8000
set_option maxHeartbeats 2000000 in
theorem build_any (t : VT) : ∀ (w : World) (pb o c i : Nat) (L post : List PT), Whole t → Pts w pb o L → (∀ q ∈ L, PTOk q) → L.length ≤ 12 → L.drop i = flatP t ++ post →
    Calls Try.prog 58 #[.slice (some ⟨pb, o, none⟩) L.length c, .int .i64 (i : Int)] w fun e w' => ∃ u : VT, e = .returned (.tuple #[u.val, .int .i64 ((i : Int) + ((flatP t).length : Int))]) ∧ VT.Alike t u ∧ VT.In w' (fun b => w.heap.size ≤ b) u ∧ Below w.heap.size w w' := by
  induction t with
  | nil => intro w pb o c i L post hw; exact hw.elim
  | mk k i0 s n p c0 f ih =>
    intro w pb o c i L post hw hP hok hL hd
    rw [flatP_eq] at hd
    have hi := drop_at hd
    have HOk := hid (hok _ (List.mem_of_getElem? hi))
    obtain ⟨hk0, hk1, hi0, hi1, hs1, hm1⟩ := HOk.out
    simp only at hk0 hk1 hi0 hi1 hs1 hm1
    have hlt : i + (1 + (flatN f n).length) ≤ L.length := by
      have := (drop_lt (t := .mk k i0 s n p c0 f) (by rw [flatP_eq]; exact hd)).1
      rw [flatP_eq] at this
      simp only [List.length_cons] at this
      unfold flatN
      omega
    obtain ⟨z0, z1, z2, z3⟩ := hP.at_ i _ hi
    simp only at z0 z1 z2 z3
    have hpl := hP.lt
    have hpn : pb ≠ w.heap.size := by omega
    have hpn1 : pb ≠ w.heap.size + 1 := by omega
    have hiL : (i : Int) < (L.length : Int) := by omega
    have HIt : Hid (∀ j, j < n → ∀ W : World, Below w.heap.size w W → Calls Try.prog 58 #[.slice (some ⟨pb, o, none⟩) L.length c, .int .i64 ((i : Int) + 1 + ((flatN f j).length : Int))] W fun e w' => ∃ u : VT, e = .returned (.tuple #[u.val, .int .i64 ((i : Int) + 1 + ((flatN f (j + 1)).length : Int))]) ∧ VT.Alike (f j) u ∧ VT.In w' (fun b => W.heap.size ≤ b) u ∧ Below W.heap.size W w') := by
      intro j hj W hW
      obtain ⟨r, hr⟩ := drop_item hd hj
      have h5 := ih j W pb o c (i + 1 + (flatN f j).length) L r (hw j hj) (hP.below hW) hok hL hr
      rw [show ((i + 1 + (flatN f j).length : Nat) : Int) = (i : Int) + 1 + ((flatN f j).length : Int) by omega] at h5
      rw [show (i : Int) + 1 + ((flatN f (j + 1)).length : Int) = (i : Int) + 1 + ((flatN f j).length : Int) + ((flatP (f j)).length : Int) by rw [flatN_succ, List.length_append]; omega]
      exact h5
    have HLt : Hid (∀ j, j < n → i + 1 + (flatN f j).length < L.length) := by
      intro j hj
      obtain ⟨r, hr⟩ := drop_item hd hj
      exact (drop_lt hr).2
    have HLe : Hid (∀ W : World, Below w.heap.size w W → PAt W pb (o + i * 4) ⟨k, i0, s, n⟩) := fun W hW => (hP.below hW).at_ i _ hi
    have HPo : Hid (((i : Int) + ((flatP (.mk k i0 s n p c0 f)).length : Int)) = (i : Int) + 1 + ((flatN f n).length : Int)) := by
      unfold Hid
      rw [flatP_eq]
      simp only [List.length_cons, flatN]
      omega
    rw [HPo.out]
    clear hok hd hP hi ih HPo
    go_enter Try.func58, Try.ntmps58
    go_wp2_with fail
    go_region
    have hS0 : Box (w.alloc (.cells #[.int .i64 0, .int .i64 0, .string ⟨#[]⟩, .slice none 0 0] 24)) w.heap.size #[.int .i64 0, .int .i64 0, .string ⟨#[]⟩, .slice none 0 0] 24 := Box.new _ _ _
    have hS1 := Box.new (w.alloc (.cells #[.int .i64 0, .int .i64 0, .string ⟨#[]⟩, .slice none 0 0] 24)) #[.int .i64 k, .int .i64 i0, .string s, .slice none 0 0] 24
    rw [show (w.alloc (.cells #[.int .i64 0, .int .i64 0, .string ⟨#[]⟩, .slice none 0 0] 24)).heap.size = w.heap.size + 1 by simp] at hS1
    have hS01 := hS0.below ((Below.refl _ _).alloc (Nat.le_refl _) (.cells #[.int .i64 k, .int .i64 i0, .string s, .slice none 0 0] 24))
    have hSb : Below w.heap.size w ((w.alloc (.cells #[.int .i64 0, .int .i64 0, .string ⟨#[]⟩, .slice none 0 0] 24)).alloc (.cells #[.int .i64 k, .int .i64 i0, .string s, .slice none 0 0] 24)) := ((Below.refl _ _).alloc (Nat.le_refl _) _).alloc (by simp) _
    have HS1 := hid (hS1.below (Below.refl _ _).drew)
    have HS0 := hid (hS01.below (Below.refl _ _).drew)
    have HSb := hid hSb.drew
    clear hS0 hS1 hS01 hSb
    generalize ((w.alloc (.cells #[.int .i64 0, .int .i64 0, .string ⟨#[]⟩, .slice none 0 0] 24)).alloc (.cells #[.int .i64 k, .int .i64 i0, .string s, .slice none 0 0] 24)).drew = w0 at HS0 HS1 HSb ⊢
    clear z0 z1 z2 z3
    obtain ⟨i1, Kd⟩ := kindV
    go_wp2_with fail
    go_loopw [7, 8] (fun x y wr => ∃ (j : Nat) (g : Nat → VT) (v : Value), j ≤ n ∧ x = .int .i64 ((i : Int) + 1 + ((flatN f j).length : Int)) ∧ y = .int .i64 (j : Int) ∧ OwnV (w.heap.size + 2) wr v j g ∧ (∀ q, q < j → VT.Alike (f q) (g q)) ∧ Box wr (w.heap.size + 1) #[.int .i64 k, .int .i64 i0, .string s, v] 24 ∧
        Box wr w.heap.size #[.int .i64 0, .int .i64 0, .string ⟨#[]⟩, .slice none 0 0] 24 ∧ Below w.heap.size w wr) (fun _ y _ => n - (intOf y).toNat)
    case atStart => exact ⟨0, f, .slice none 0 0, Nat.zero_le _, by simp [flatN], rfl, OwnV.nil _ _ _, fun q hq => absurd hq (by omega), HS1.out, HS0.out, HSb.out⟩
    case round =>
      obtain ⟨j, g, v, hj, rfl, rfl, hO, hal, hB1, hB0, hbel⟩ := hrel
      clear HS0 HS1 HSb
      obtain ⟨z0, z1, z2, z3⟩ := HLe.out _ hbel
      simp only at z0 z1 z2 z3
      by_cases hjn : j < n
      · have hjn' : (j : Int) < (n : Int) := by omega
        have hat := HLt.out j hjn
        have hat' : (i : Int) + 1 + ((flatN f j).length : Int) < (L.length : Int) := by omega
        have HC := hid (HIt.out j hjn _ hbel)
        have HAl : Hid (∀ q, q < j → VT.Alike (f q) (g q)) := hal
        go_wp2_with (go_at_call 58; refine HC.out.mono ?_)
        rintro e w2 ⟨u, rfl, hal2, hin2, hb2⟩
        obtain ⟨k', i', s', n', p', c', f', rfl⟩ := hin2.mk_
        have hB12 := hB1.below hb2
        have hO2 := hO.below hb2
        have hsz2 := hb2.size
        have hl1 := hB1.lt
        have hR := hO2.own
        have y3 := (hB12.below ((Below.refl _ _).alloc (Nat.le_refl _) (.cells #[.int .i64 k', .int .i64 i', .string s', .slice p' n' c'] 24))).cell 3
        simp at y3
        have HX := hid (And.intro hO (And.intro hB1 (And.intro hB0 (And.intro hbel (And.intro hb2 (And.intro hin2 hal2))))))
        have hl2 : w.heap.size + 1 < w2.heap.size := by omega
        clear HC hO hB1 hB0 hbel hb2 hin2 hal2 hB12 hO2 hal z0 z1 z2 z3
        simp only [VT.val, VT.kind_mk, VT.int_mk, VT.text_mk, VT.p_mk, VT.n_mk, VT.c_mk]
        go_wp2_with (at_builtin; refine wpList_app rfl (.tmp 51) (.tmp 53) 22 24 i1 _ 4 56 Kd rfl (w.heap.size + 2) v j _ rfl ((hR.alloc _).alloc _) ⟨w2.heap.size + 1, 0, none⟩ 1 1 [.int .i64 k', .int .i64 i', .string s', .slice p' n' c'] rfl rfl ?_ ?_ ?_ ?_ ?_ ?_)
        · have h := news4 (w2.alloc (.cells #[.int .i64 k', .int .i64 i', .string s', .slice p' n' c'] 24)) (.int .i64 k') (.int .i64 i') (.string s') (.slice p' n' c') 24
          rw [show (w2.alloc (.cells #[.int .i64 k', .int .i64 i', .string s', .slice p' n' c'] 24)).heap.size = w2.heap.size + 1 by simp] at h
          exact h
        · exact oneCell_cells (.mk k' i' s' n' p' c' f')
        · omega
        · omega
        · simp; omega
        · intro v3 w3 ho3 hg3 hn3
          obtain ⟨p4, c4, rfl⟩ := ownsRow_slice ho3
          obtain ⟨hO, hB1, hB0, hbel, hb2, hin2, hal2⟩ := HX.out
          have HP := hid (item_push (f := f) hO HAl.out hB1 hB0 hbel hb2 hin2 hal2 ho3 (((Below.refl _ _).alloc (Nat.le_refl _) _).alloc (by simp) _) hg3 hn3)
          have hbx3 := (((hB1.below hb2).below (((Below.refl _ _).alloc (Nat.le_refl _) _).alloc (by simp) _)).kept (hg3.block _ (by simp; omega) (fun e => by have := (hO.own.lt _ e.symm).1; omega)))
          have hf3 := hbx3.frozen 3
          have hc3 := hbx3.cell 3
          simp at hc3
          clear hbx3
          clear HX hO hB1 hB0 hbel hb2 hin2 hal2 ho3 hg3 hn3 hR y3 HAl
          go_wp2
          go_roundw
          case rel => exact ⟨j + 1, _, _, by omega, rfl, by go_num, HP.out.1, HP.out.2.1, HP.out.2.2.1, HP.out.2.2.2.1, HP.out.2.2.2.2⟩
          case measure => simp [intOf]; omega
      · obtain rfl : j = n := by omega
        obtain ⟨p3, c3, hv, h1, h2, h3, h4, h5⟩ := hO.in_
        have HL : Hid (VT.Alike (.mk k i0 s j p c0 f) (.mk k i0 s j p3 c3 g) ∧ VT.In wr (fun b => w.heap.size + 2 ≤ b) (.mk k i0 s j p3 c3 g)) :=
          ⟨⟨rfl, rfl, rfl, rfl, hal⟩, ⟨⟨by simp only [VT.kind]; omega, by simp only [VT.kind]; omega, hi0, hi1, by simp only [VT.text]; omega, h1, by simp only [VT.n]; omega, h2, h3⟩, h4, h5⟩⟩
        subst hv
        have b0 := hB1.cell 0
        have b1 := hB1.cell 1
        have b2 := hB1.cell 2
        have b3 := hB1.cell 3
        have g0 := hB0.frozen 0
        have g1 := hB0.frozen 1
        have g2 := hB0.frozen 2
        have g3 := hB0.frozen 3
        have d0 := hB0.cell 0
        have d1 := hB0.cell 1
        have d2 := hB0.cell 2
        have d3 := hB0.cell 3
        have hl0 := hB1.lt
        simp at b0 b1 b2 b3 d0 d1 d2 d3
        clear h4 h5 hO hal
        go_wp2
        have hk : But (fun x => x = w.heap.size) wr ((((wr.setCell ⟨w.heap.size, 0, none⟩ (.int .i64 k)).setCell ⟨w.heap.size, 1, none⟩ (.int .i64 i0)).setCell ⟨w.heap.size, 2, none⟩ (.string s)).setCell ⟨w.heap.size, 3, none⟩ (.slice p3 j c3)) :=
          ((((But.one _ w.heap.size).setAt 0 _).setAt 1 _).setAt 2 _).setAt 3 _
        refine bodyPost_ret (v := .tuple #[.agg #[.int .i64 k, .int .i64 i0, .string s, .slice p3 j c3], .int .i64 ((i : Int) + 1 + ((flatN f j).length : Int))]) (by simp [results, Try.results58, go_sem, d0, d1, d2, d3]) rfl ⟨.mk k i0 s j p3 c3 g, rfl, HL.out.1, ?_, ?_⟩
        · exact (HL.out.2.but hk (fun b hb _ => by omega)).mono fun b hb _ => by omega
        · exact hbel.trans (hk.below (by omega) (fun x hx => by omega))
end Go.Proofs.Ytehpdhhlggegdaa
