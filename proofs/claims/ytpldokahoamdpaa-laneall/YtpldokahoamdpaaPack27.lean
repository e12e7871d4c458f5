import Derived.Test.YtpldokahoamdpaaPack26
namespace Go.Proofs.Ytpldokahoamdpaa
open Go.RowKit Go.Conc
set_option maxRecDepth 8000
/-- what two calls, one behind the other, made of the two lanes -/
def DuoQ (w : World) (Z : Nat → Prop) (b d : Nat) (s : Pq) (n : Nat) (W1 w2 : World) : Prop := ∃ s', PqS w Z b d s w2 s' ∧ s'.len ≤ s.len + n ∧ But (fun k => k < w.heap.size) W1 w2
theorem but_lt {w W1 w2 : World} {X : Nat → Prop} (h : But X W1 w2) (hx : ∀ k, X k → k < w.heap.size) : But (fun k => k < w.heap.size) W1 w2 := ⟨h.os, h.tape, h.output, h.size, fun k hk hn => h.block k hk fun e => hn (hx k e)⟩
theorem LSet.keepN {α : Type} (E : El α) {w w' : World} {Z T : Nat → Prop} {b : Nat} {L L' : Ln} {x : α} (h : LSet w Z b L w' L') (hx : E.In w (fun k => ¬ L.C b k ∧ T k) x) : E.In w' T x := E.mono (h.keep E hx) fun _ hk _ => hk.2
theorem RSet.keepN {α : Type} (E : El α) {w w' : World} {Z T : Nat → Prop} {b : Nat} {R R' : Rf} {x : α} (h : RSet w Z b R w' R') (hx : E.In w T x) (hT : ∀ k, T k → ¬ R.C b k) : E.In w' T x := E.mono (h.keep E (E.mono hx fun k hk _ => ⟨hT k hk, hk⟩)) fun _ hk _ => hk.2
section
variable {w : World} {Z : Nat → Prop} {b d : Nat}
/-- the two where both are empty, or shut -/
theorem PqS.still {w w1 W1 w2 : World} {s : Pq} (h : s.I w Z b d) (h1 : Below w.heap.size w w1) (h2 : Below w1.heap.size w1 W1) (h3 : Below W1.heap.size W1 w2) : DuoQ w Z b d s 0 W1 w2 :=
  ⟨s, PqS.below h (h1.trans ((h2.mono h1.size).trans (h3.mono (Nat.le_trans h1.size h2.size)))), Nat.le_refl _, But.ofBelow h3⟩
theorem alike_z : IT.Alike ⟨0, rz⟩ ⟨0, rz⟩ := ⟨rfl, RT.Alike.rfl_ _⟩
theorem z_in (w : World) (S : Nat → Prop) : IT.In w S ⟨0, rz⟩ := ⟨rz_in _ _, (by show (-9223372036854775808 : Int) ≤ 0; omega), (by show (0 : Int) ≤ 9223372036854775807; omega)⟩
theorem als_empty {L : Ln} {R : Rf} (h : Als L.q R.l.toL) (hq : L.q = []) : R.l.n = 0 := by
  have := h.len
  rw [hq, LT.toL_len] at this
  exact this
theorem als_head {L : Ln} {R : Rf} {x : IT} {q' : List IT} (h : Als L.q R.l.toL) (hq : L.q = x :: q') : 0 < R.l.n ∧ IT.Alike x (R.l.item 0) ∧ Als q' (R.l.toL.drop 1) := by
  have h1 := h.len
  rw [hq, LT.toL_len, List.length_cons] at h1
  have h0 : 0 < R.l.n := by omega
  obtain ⟨u, hu, ha⟩ := h.get (j := 0) (x := x) (by rw [hq]; rfl)
  rw [LT.toL_get R.l h0] at hu
  injection hu with hu
  subst hu
  refine ⟨h0, ha, ?_⟩
  have := h.drop 1
  rwa [hq] at this
def DuoI (w : World) (Z : Nat → Prop) (b d : Nat) (s : Pq) (g : Nat) (e : Ending) (w1 : World) : Prop := ∃ (x : IT) (ok : Bool), e = .returned (.tuple #[x.val, .bool ok]) ∧ w.heap.size ≤ w1.heap.size ∧ But (fun k => k < w.heap.size) w w1 ∧
  ∀ W1, Below w1.heap.size w1 W1 → Calls Try.prog g #[.pointer (some ⟨d, 0, none⟩)] W1 fun e' w2 => ∃ y : IT, e' = .returned (.tuple #[y.val, .bool ok]) ∧ IT.Alike x y ∧ IT.In w2 (fun _ => True) x ∧ IT.In w2 (fun _ => True) y ∧ DuoQ w Z b d s 0 W1 w2
/-- Take -/
theorem duo_take {s : Pq} (h : s.I w Z b d) (hZ : ∀ k, Z k → k < w.heap.size) : Calls Try.prog 13 #[.pointer (some ⟨b, 0, none⟩)] w (DuoI w Z b d s 47) := by
  cases s with
  | sh room R =>
    refine (take_shut w b room h.1.1).mono ?_
    rintro e w1 ⟨rfl, hB1⟩
    refine ⟨⟨0, rz⟩, false, rfl, hB1.size, But.ofBelow hB1, fun W1 hW1 => ?_⟩
    refine (rtake_none W1 _ d R ((h.2.1.below hB1).below hW1) (h.2.1.sh h.2.2.1)).mono ?_
    rintro e' w2 ⟨rfl, hB2⟩
    exact ⟨⟨0, rz⟩, rfl, alike_z, z_in _ _, z_in _ _, PqS.still h hB1 hW1 hB2⟩
  | op L R =>
    cases hq : L.q with
    | nil =>
      refine (take_none w _ b L h.1 hq).mono ?_
      rintro e w1 ⟨rfl, hB1⟩
      refine ⟨⟨0, rz⟩, false, rfl, hB1.size, But.ofBelow hB1, fun W1 hW1 => ?_⟩
      refine (rtake_none W1 _ d R ((h.2.1.below hB1).below hW1) (als_empty h.2.2.2.2 hq)).mono ?_
      rintro e' w2 ⟨rfl, hB2⟩
      exact ⟨⟨0, rz⟩, rfl, alike_z, z_in _ _, z_in _ _, PqS.still h hB1 hW1 hB2⟩
    | cons x q' =>
      obtain ⟨h0, ha, hd⟩ := als_head h.2.2.2.2 hq
      refine (take_some w _ b L h.1 x q' hq).mono ?_
      rintro e w1 ⟨rfl, ht⟩
      have ht' : LSet w (fun k => Z k ∨ R.C d k) b L w1 ⟨L.room, none, L.ch, L.cap, q'⟩ := ht
      have hr1 := h.2.1.lane ht'
      refine ⟨x, true, rfl, ht'.but.size, but_lt ht'.but fun k e => h.1.c_lt e, fun W1 hW1 => ?_⟩
      have hlt : ∀ k, R.C d k → k < w.heap.size := fun k e => h.2.1.c_lt e
      refine (rtake_some W1 _ d R (hr1.below hW1) (fun k hk => ?_) h0).mono ?_
      · rcases hk with e | e
        · have := hZ k e; have := ht'.but.size; have := hW1.size; omega
        · have := ht'.ln.c_lt e; have := hW1.size; omega
      rintro e' w2 ⟨rfl, R', hR', hsh, hset, hin⟩
      have hset1 := RSet.trans (RSet.below hr1 hW1) hset
      have hx1 : IT.In w1 (fun k => ¬ (Z k ∨ R.C d k)) x := ht'.keepN elItem (h.1.it x (by rw [hq]; exact List.mem_cons_self)).1
      have hx2 : IT.In w2 (fun k => ¬ (Z k ∨ R.C d k)) x := hset1.keepN elItem hx1 fun k hk e => hk (.inr e)
      refine ⟨R.l.item 0, rfl, ha, hx2.mono fun _ _ _ => trivial, hin.mono fun _ _ _ => trivial, .op ⟨L.room, none, L.ch, L.cap, q'⟩ R', PqS.both h ht' hset1 hsh (by rw [hR']; exact hd), ?_, but_lt hset.but hlt⟩
      show q'.length ≤ L.q.length + 0
      rw [hq]; simp
/-- Peek -/
theorem duo_peek {s : Pq} (h : s.I w Z b d) (hZ : ∀ k, Z k → k < w.heap.size) : Calls Try.prog 48 #[.pointer (some ⟨b, 0, none⟩)] w (DuoI w Z b d s 49) := by
  cases s with
  | sh room R =>
    refine (peek_shut w b room h.1.1).mono ?_
    rintro e w1 ⟨rfl, hB1⟩
    refine ⟨⟨0, rz⟩, false, rfl, hB1.size, But.ofBelow hB1, fun W1 hW1 => ?_⟩
    refine (rpeek_none W1 _ d R ((h.2.1.below hB1).below hW1) (h.2.1.sh h.2.2.1)).mono ?_
    rintro e' w2 ⟨rfl, hB2⟩
    exact ⟨⟨0, rz⟩, rfl, alike_z, z_in _ _, z_in _ _, PqS.still h hB1 hW1 hB2⟩
  | op L R =>
    cases hq : L.q with
    | nil =>
      refine (peek_none w _ b L h.1 hq).mono ?_
      rintro e w1 ⟨rfl, hB1⟩
      refine ⟨⟨0, rz⟩, false, rfl, hB1.size, But.ofBelow hB1, fun W1 hW1 => ?_⟩
      refine (rpeek_none W1 _ d R ((h.2.1.below hB1).below hW1) (als_empty h.2.2.2.2 hq)).mono ?_
      rintro e' w2 ⟨rfl, hB2⟩
      exact ⟨⟨0, rz⟩, rfl, alike_z, z_in _ _, z_in _ _, PqS.still h hB1 hW1 hB2⟩
    | cons x q' =>
      obtain ⟨h0, ha, _⟩ := als_head h.2.2.2.2 hq
      have hlt : ∀ k, R.C d k → k < w.heap.size := fun k e => h.2.1.c_lt e
      refine (peek_some w _ b L h.1 (fun k hk => hk.elim (hZ k) (hlt k)) x q' hq).mono ?_
      rintro e w1 ⟨u, n, rfl, hcp, hin, hn, ht⟩
      have hr1 := h.2.1.lane ht
      refine ⟨u, true, rfl, ht.but.size, but_lt ht.but fun k e => h.1.c_lt e, fun W1 hW1 => ?_⟩
      refine (rpeek_some W1 _ d R (hr1.below hW1) h0).mono ?_
      rintro e' w2 ⟨v, rfl, hcv, hinv, hB2⟩
      have hset := RSet.trans (RSet.below hr1 hW1) (RSet.below (hr1.below hW1) hB2)
      refine ⟨v, rfl, hcp.pair hcv ha hin, ((hin.below hW1).below hB2).mono fun _ _ _ => trivial, hinv.mono fun _ _ _ => trivial, .op ⟨L.room, some n, L.ch, L.cap, L.q⟩ R, PqS.both h ht hset rfl h.2.2.2.2, ?_, But.ofBelow hB2⟩
      show L.q.length ≤ L.q.length + 0
      omega
end
end Go.Proofs.Ytpldokahoamdpaa

namespace Go.Proofs.Ytpldokahoamdpaa
open Go.RowKit Go.Conc
set_option maxRecDepth 8000
section
variable {w : World} {Z : Nat → Prop} {b d : Nat}
/-- Full -/
theorem duo_full {s : Pq} (h : s.I w Z b d) : Calls Try.prog 18 #[.pointer (some ⟨b, 0, none⟩)] w fun e w1 => ∃ v, e = .returned (.bool v) ∧ Below w.heap.size w w1 ∧ ∀ W1, Below w1.heap.size w1 W1 → Calls Try.prog 54 #[.pointer (some ⟨d, 0, none⟩)] W1 fun e' w2 => e' = .returned (.bool v) ∧ DuoQ w Z b d s 0 W1 w2 := by
  cases s with
  | sh room R =>
    refine (full_shut w b room h.1.1 h.1.2.2).mono ?_
    rintro e w1 ⟨rfl, hB1⟩
    refine ⟨false, rfl, hB1, fun W1 hW1 => ?_⟩
    refine (rfull W1 _ d R ((h.2.1.below hB1).below hW1)).mono ?_
    rintro e' w2 ⟨rfl, hB2⟩
    refine ⟨?_, PqS.still h hB1 hW1 hB2⟩
    rw [show R.full = false by simp [Rf.full, h.2.2.1]]
  | op L R =>
    refine (full_any w _ b L h.1).mono ?_
    rintro e w1 ⟨rfl, hB1⟩
    refine ⟨_, rfl, hB1, fun W1 hW1 => ?_⟩
    refine (rfull W1 _ d R ((h.2.1.below hB1).below hW1)).mono ?_
    rintro e' w2 ⟨rfl, hB2⟩
    refine ⟨?_, PqS.still h hB1 hW1 hB2⟩
    rw [Rf.full_open h.2.2.1, h.2.2.2.1, h.2.2.2.2.nR]
/-- two lists in one world, alike item by item -/
structure Two2 {α : Type} (E : El α) (A : α → α → Prop) (w : World) (u v : LT α) : Prop where
  n : v.n = u.n
  each : ∀ j, j < u.n → A (u.item j) (v.item j)
  a : LT.In E w (fun _ => True) u
  b : LT.In E w (fun _ => True) v
/-- List -/
theorem duo_list {s : Pq} (h : s.I w Z b d) (hZ : ∀ k, Z k → k < w.heap.size) : Calls Try.prog 16 #[.pointer (some ⟨b, 0, none⟩)] w fun e w1 => ∃ u : LT IT, e = .returned (.slice u.p u.n u.c) ∧ But (fun k => k < w.heap.size) w w1 ∧ ∀ W1, Below w1.heap.size w1 W1 → Calls Try.prog 53 #[.pointer (some ⟨d, 0, none⟩)] W1 fun e' w2 => ∃ v : LT IT, e' = .returned (.slice v.p v.n v.c) ∧ Two2 elItem IT.Alike w2 u v ∧ DuoQ w Z b d s 0 W1 w2 := by
  cases s with
  | sh room R =>
    refine (list_shut w b room h.1.1).mono ?_
    rintro e w1 ⟨p, rfl, hB1⟩
    refine ⟨⟨p, 0, 0, fun _ => ⟨0, rz⟩⟩, rfl, But.ofBelow hB1, fun W1 hW1 => ?_⟩
    refine (rlist W1 _ d R ((h.2.1.below hB1).below hW1)).mono ?_
    rintro e' w2 ⟨v, rfl, hl, hin, hB2⟩
    exact ⟨v, rfl, ⟨by rw [hl.n, h.2.1.sh h.2.2.1], fun j hj => absurd hj (Nat.not_lt_zero j), LT.In.none_ _ _ _ _ _ _ (Nat.zero_le _) (fun _ => rfl), LT.In.mono hin fun _ _ _ => trivial⟩, PqS.still h hB1 hW1 hB2⟩
  | op L R =>
    have hlt : ∀ k, R.C d k → k < w.heap.size := fun k e => h.2.1.c_lt e
    refine (list_any w _ b L h.1 (fun k hk => hk.elim (hZ k) (hlt k))).mono ?_
    rintro e w1 ⟨u, rfl, hn, hc, L', hq, ht, hin⟩
    have hr1 := h.2.1.lane ht
    refine ⟨u, rfl, but_lt ht.but fun k e => h.1.c_lt e, fun W1 hW1 => ?_⟩
    refine (rlist W1 _ d R (hr1.below hW1)).mono ?_
    rintro e' w2 ⟨v, rfl, hl, hinv, hB2⟩
    have hset := RSet.trans (RSet.below hr1 hW1) (RSet.below (hr1.below hW1) hB2)
    have hle := h.2.2.2.2.len
    rw [LT.toL_len] at hle
    refine ⟨v, rfl, ⟨by rw [hl.n, hn, hle], fun j hj => ?_, LT.In.mono ((hin.below hW1).below hB2) fun _ _ _ => trivial, LT.In.mono hinv fun _ _ _ => trivial⟩, .op L' R, PqS.both h ht hset rfl (by rw [hq]; exact h.2.2.2.2), by show L'.q.length ≤ L.q.length + 0; rw [hq]; exact Nat.le_refl _, But.ofBelow hB2⟩
    have hj2 : j < L.q.length := by omega
    obtain ⟨y, hy, ha⟩ := h.2.2.2.2.get (List.getElem?_eq_getElem hj2)
    obtain ⟨hj3, hy2⟩ := LT.toL_some _ hy
    have h1 := hc j _ (List.getElem?_eq_getElem hj2)
    have h2 := hl.item j hj3
    rw [hy2] at h2
    exact h1.pair h2 ha (hin.each j hj)
/-- Close -/
theorem duo_close {s : Pq} (h : s.I w Z b d) (hZ : ∀ k, Z k → k < w.heap.size) : Calls Try.prog 20 #[.pointer (some ⟨b, 0, none⟩)] w fun e w1 => ∃ u : LT IT, e = .returned (.slice u.p u.n u.c) ∧ But (fun k => k < w.heap.size) w w1 ∧ ∀ W1, Below w1.heap.size w1 W1 → Calls Try.prog 55 #[.pointer (some ⟨d, 0, none⟩)] W1 fun e' w2 => ∃ v : LT IT, e' = .returned (.slice v.p v.n v.c) ∧ Two2 elItem IT.Alike w2 u v ∧ DuoQ w Z b d s 0 W1 w2 := by
  cases s with
  | sh room R =>
    have hlt : ∀ k, R.C d k → k < w.heap.size := fun k e => h.2.1.c_lt e
    refine (close_shut w b room h.1.1).mono ?_
    rintro e w1 ⟨rfl, hw1⟩
    subst hw1
    refine ⟨⟨none, 0, 0, fun _ => ⟨0, rz⟩⟩, rfl, But.refl _ _, fun W1 hW1 => ?_⟩
    refine (rclose W1 _ d R (h.2.1.below hW1)).mono ?_
    rintro e' w2 ⟨rfl, hset, hin⟩
    have hset1 := RSet.trans (RSet.below h.2.1 hW1) hset
    have hbd : ¬ R.C d b := fun e => h.2.1.cz b e (.inr rfl)
    refine ⟨R.l, rfl, ⟨h.2.1.sh h.2.2.1, fun j hj => absurd hj (Nat.not_lt_zero j), LT.In.none_ _ _ _ _ _ _ (Nat.zero_le _) (fun _ => rfl), LT.In.mono hin fun _ _ _ => trivial⟩, .sh room ⟨R.room, true, ⟨none, 0, 0, fun _ => ⟨0, rz⟩⟩⟩, ⟨⟨⟨Box.kept h.1.1 (hset1.but.block b (Box.lt h.1.1) hbd), h.1.2⟩, hset1.ln, rfl, h.2.2.2⟩, ⟨hset1.but.os, hset1.but.tape, hset1.but.output, hset1.but.size, fun k hk hn => hset1.but.block k hk fun e => hn (.inr e)⟩, fun k hk => ?_⟩, Nat.le_refl _, but_lt hset.but hlt⟩
    rcases hk with e | e
    · exact .inl (.inl e)
    · exact (hset1.c k e).imp .inr id
  | op L R =>
    have hlt : ∀ k, R.C d k → k < w.heap.size := fun k e => h.2.1.c_lt e
    refine (close_any w _ b L h.1 (fun k hk => hk.elim (hZ k) (hlt k))).mono ?_
    rintro e w1 ⟨u, rfl, hu, hin, hS, hbt⟩
    have hr1 : RfI w1 (fun k => Z k ∨ k = b) d R := (h.2.1.but hbt fun k _ e => .inr e).z fun k _ e => e.imp id fun e => .inl e
    refine ⟨u, rfl, but_lt hbt fun k e => h.1.c_lt e, fun W1 hW1 => ?_⟩
    refine (rclose W1 _ d R (hr1.below hW1)).mono ?_
    rintro e' w2 ⟨rfl, hset, hinv⟩
    have hset1 := RSet.trans (RSet.below hr1 hW1) hset
    have hbd : ¬ R.C d b := fun e => h.1.cz b (.inl rfl) (.inr e)
    have hul : u.n = L.q.length := by rw [← hu, LT.toL_len]
    have hle := h.2.2.2.2.len
    rw [LT.toL_len] at hle
    have hin2 : LT.In elItem w2 (fun k => ¬ L.C b k ∧ ¬ (Z k ∨ R.C d k)) u := by
      refine (LT.In.mono (S' := fun k => (¬ L.C b k ∧ ¬ (Z k ∨ R.C d k)) ) hin fun k hk _ => hk).kept hset1.but.size fun k hk hl => hset1.but.block k hl fun e => hk.2 (.inr e)
    refine ⟨R.l, rfl, ⟨by omega, fun j hj => ?_, LT.In.mono hin2 fun _ _ _ => trivial, LT.In.mono hinv fun _ _ _ => trivial⟩, .sh L.room ⟨R.room, true, ⟨none, 0, 0, fun _ => ⟨0, rz⟩⟩⟩, ⟨⟨⟨Box.kept hS (hset1.but.block b (Box.lt hS) hbd), fun e => h.1.cz b (.inl rfl) (.inl e), h.1.r0⟩, hset1.ln, rfl, h.2.2.2.1⟩, ⟨hset1.but.os.trans hbt.os, hset1.but.tape.trans hbt.tape, hset1.but.output.trans hbt.output, Nat.le_trans hbt.size hset1.but.size, fun k hk hn => ?_⟩, fun k hk => ?_⟩, Nat.zero_le _, but_lt hset.but hlt⟩
    · have hj2 : j < L.q.length := by omega
      have h1 := LT.toL_get u hj
      rw [hu] at h1
      obtain ⟨y, hy, ha⟩ := h.2.2.2.2.get h1
      obtain ⟨_, hy2⟩ := LT.toL_some _ hy
      rw [hy2]
      exact ha
    · exact (hset1.but.block k (Nat.lt_of_lt_of_le hk hbt.size) fun e => hn (.inr e)).trans (hbt.block k hk fun e => hn (.inl e))
    · rcases hk with e | e
      · exact .inl (.inl (.inl e))
      · rcases hset1.c k e with e2 | e2
        · exact .inl (.inr e2)
        · exact .inr (Nat.le_trans hbt.size e2)
/-- the first marker -/
theorem first_markQ : ∀ (q : List IT), (∀ x ∈ q, x.mark = 0) ∨ ∃ A m B, q = A ++ m :: B ∧ (∀ x ∈ A, x.mark = 0) ∧ m.mark ≠ 0
  | [] => .inl fun x hx => by simp at hx
  | x :: q => by
    by_cases h0 : x.mark = 0
    · rcases first_markQ q with h | ⟨A, m, B, e, hA, hm⟩
      · exact .inl fun y hy => by
          rcases List.mem_cons.1 hy with e | e
          · rw [e]; exact h0
          · exact h y e
      · exact .inr ⟨x :: A, m, B, by rw [e]; rfl, fun y hy => by
          rcases List.mem_cons.1 hy with e | e
          · rw [e]; exact h0
          · exact hA y e, hm⟩
    · exact .inr ⟨[], x, q, rfl, fun y hy => by simp at hy, h0⟩
theorem nR_all : ∀ {q : List IT}, (∀ x ∈ q, x.mark = 0) → nR q = q.length
  | [], _ => rfl
  | x :: q, h => by rw [nR_cons0 _ (h x List.mem_cons_self), nR_all fun y hy => h y (List.mem_cons_of_mem _ hy), List.length_cons]
/-- Pull -/
theorem duo_pull {s : Pq} (h : s.I w Z b d) (hZ : ∀ k, Z k → k < w.heap.size) : Calls Try.prog 11 #[.pointer (some ⟨b, 0, none⟩)] w fun e w1 => ∃ (m : Int) (u : LT RT), e = .returned (.tuple #[.int .i64 m, .slice u.p u.n u.c]) ∧ But (fun k => k < w.heap.size) w w1 ∧ ∀ W1, Below w1.heap.size w1 W1 → Calls Try.prog 50 #[.pointer (some ⟨d, 0, none⟩)] W1 fun e' w2 => ∃ v : LT RT, e' = .returned (.tuple #[.int .i64 m, .slice v.p v.n v.c]) ∧ Two2 elRec RT.Alike w2 u v ∧ DuoQ w Z b d s 0 W1 w2 := by
  have hnil : ∀ w2, Two2 elRec RT.Alike w2 ⟨none, 0, 0, fun _ => rz⟩ ⟨none, 0, 0, fun _ => rz⟩ := fun w2 => ⟨rfl, fun j hj => absurd hj (Nat.not_lt_zero j), LT.In.none_ _ _ _ _ _ _ (Nat.zero_le _) (fun _ => rfl), LT.In.none_ _ _ _ _ _ _ (Nat.zero_le _) (fun _ => rfl)⟩
  cases s with
  | sh room R =>
    have hlt : ∀ k, R.C d k → k < w.heap.size := fun k e => h.2.1.c_lt e
    refine (pull_shut w b room h.1.1).mono ?_
    rintro e w1 ⟨rfl, hB1⟩
    refine ⟨0, ⟨none, 0, 0, fun _ => rz⟩, rfl, But.ofBelow hB1, fun W1 hW1 => ?_⟩
    refine (rpull W1 _ d R ((h.2.1.below hB1).below hW1) (fun k hk => ?_)).mono ?_
    · have := hB1.size; have := hW1.size
      rcases hk with e | e
      · have := hZ k e; omega
      · have := Box.lt h.1.1; omega
    rintro e' w2 (⟨rfl, _, hB2⟩ | ⟨i, v, hi, _⟩)
    · exact ⟨⟨none, 0, 0, fun _ => rz⟩, rfl, hnil w2, PqS.still h hB1 hW1 hB2⟩
    · have := h.2.1.sh h.2.2.1; omega
  | op L R =>
    have hlt : ∀ k, R.C d k → k < w.heap.size := fun k e => h.2.1.c_lt e
    have hle := h.2.2.2.2.len
    rw [LT.toL_len] at hle
    rcases first_markQ L.q with hall | ⟨A, m, B, hq, hA, hm⟩
    · refine (pull_none w _ b L h.1 (nR_all hall)).mono ?_
      rintro e w1 ⟨rfl, hB1⟩
      refine ⟨0, ⟨none, 0, 0, fun _ => rz⟩, rfl, But.ofBelow hB1, fun W1 hW1 => ?_⟩
      refine (rpull W1 _ d R ((h.2.1.below hB1).below hW1) (fun k hk => ?_)).mono ?_
      · have := hB1.size; have := hW1.size
        rcases hk with e | e
        · have := hZ k e; omega
        · have := h.1.c_lt e; omega
      rintro e' w2 (⟨rfl, _, hB2⟩ | ⟨i, v, hi, hmi, _⟩)
      · exact ⟨⟨none, 0, 0, fun _ => rz⟩, rfl, hnil w2, PqS.still h hB1 hW1 hB2⟩
      · have hi2 : i < L.q.length := by omega
        obtain ⟨y, hy, ha⟩ := h.2.2.2.2.get (List.getElem?_eq_getElem hi2)
        obtain ⟨_, hy2⟩ := LT.toL_some _ hy
        rw [hy2, ha.m, hall _ (List.getElem_mem hi2)] at hmi
        omega
    · refine (pull_some w _ b L h.1 (fun k hk => hk.elim (hZ k) (hlt k)) A m B hq hA hm).mono ?_
      rintro e w1 ⟨u, rfl, hp⟩
      obtain ⟨ch, cap, ht⟩ := hp.set
      have hr1 := h.2.1.lane ht
      refine ⟨m.mark, u, rfl, but_lt ht.but fun k e => h.1.c_lt e, fun W1 hW1 => ?_⟩
      have hlq : L.q.length = A.length + (B.length + 1) := by rw [hq, List.length_append, List.length_cons]
      have hat : ∀ i x, L.q[i]? = some x → i < R.l.n ∧ IT.Alike x (R.l.item i) := fun i x hx => by
        obtain ⟨y, hy, ha⟩ := h.2.2.2.2.get hx
        obtain ⟨h1, hy2⟩ := LT.toL_some _ hy
        rw [hy2]
        exact ⟨h1, ha⟩
      have hmA : L.q[A.length]? = some m := by rw [hq, List.getElem?_append_right (Nat.le_refl _)]; simp
      have hgA : ∀ i x, A[i]? = some x → L.q[i]? = some x := fun i x hx => by
        rw [hq, List.getElem?_append_left]
        · exact hx
        · rcases Nat.lt_or_ge i A.length with h1 | h1
          · exact h1
          · rw [List.getElem?_eq_none h1] at hx; cases hx
      refine (rpull W1 _ d R (hr1.below hW1) (fun k hk => ?_)).mono ?_
      · have := ht.but.size; have := hW1.size
        rcases hk with e | e
        · have := hZ k e; omega
        · have := ht.ln.c_lt e; omega
      rintro e' w2 (⟨rfl, hz, _⟩ | ⟨i, v, hi, hmi, rfl, hv⟩)
      · have h1 := hat _ _ hmA
        have h2 := hz _ h1.1
        rw [h1.2.m] at h2
        exact absurd h2 hm
      · have hiA : i = A.length := by
          rcases Nat.lt_trichotomy i A.length with h1 | h1 | h1
          · have h2 := hat i _ (hgA i _ (List.getElem?_eq_getElem h1))
            rw [h2.2.m, hA _ (List.getElem_mem h1)] at hmi
            omega
          · exact h1
          · have h2 := hv.each A.length h1
            have h3 := hat _ _ hmA
            rw [h3.2.m] at h2
            exact absurd h2.1 hm
        subst hiA
        obtain ⟨R', hR', hsh, hset, hin⟩ := hv.set
        have hset1 := RSet.trans (RSet.below hr1 hW1) hset
        have hu1 := LT.In.mono (S' := fun k => w.heap.size ≤ k ∧ k < w1.heap.size) hp.in_ fun k hk hl => ⟨hk.1.1, hl⟩
        have hu2 : LT.In elRec w2 (fun k => w.heap.size ≤ k ∧ k < w1.heap.size) u := hu1.kept hset1.but.size fun k hk hl => hset1.but.block k hl fun e => by have := hlt k e; omega
        refine ⟨v, ?_, ⟨by rw [hv.n, hp.n], fun j hj => ?_, LT.In.mono hu2 fun _ _ _ => trivial, LT.In.mono hin fun _ _ _ => trivial⟩, .op ⟨L.room, none, ch, cap, A ++ B⟩ R', PqS.both h ht hset1 hsh ?_, ?_, but_lt hset.but hlt⟩
        · rw [(hat _ _ hmA).2.m]
        · have hjA : j < A.length := by rw [← hp.n]; exact hj
          have h1 := hat j _ (hgA j _ (List.getElem?_eq_getElem hjA))
          have h2 := hp.each j _ (List.getElem?_eq_getElem hjA)
          have h3 := (hv.each j hjA).2
          exact (h2.sy (hp.in_.each j hj)).tr (h1.2.r.tr h3)
        · rw [hR']
          have h1 := h.2.2.2.2
          have e1 : A ++ B = L.q.take A.length ++ L.q.drop (A.length + 1) := by rw [hq]; simp
          show Als (A ++ B) _
          rw [e1]
          exact (h1.take _).append (h1.drop _)
        · show (A ++ B).length ≤ L.q.length + 0
          rw [List.length_append]; omega
end
end Go.Proofs.Ytpldokahoamdpaa
