import Derived.Test.YtdmhemofhmfkoabGreatDoorPack5
import Derived.Test.YtdmhemofhmfkoabGreatDoorPack0
import Derived.Test.YtdmhemofhmfkoabGreatDoorPack1
namespace Go.Proofs.YtdmhemofhmfkoabGreatDoor
open Go.RowKit
set_option maxRecDepth 8000

/-- the int of a folded number -/
def unfoldI (u : Nat) : Int := if u % 2 = 1 then -1 - ((u / 2 : Nat) : Int) else ((u / 2 : Nat) : Int)
theorem and_one64 (u : Nat) (hu : u < 2 ^ 64) : bits BinOp.and IntKind.u64 (u : Int) 1 = ((u % 2 : Nat) : Int) := by
  have h := bits_and_u64_nat u 1 (by omega) (by omega)
  rw [Nat.and_one_is_mod] at h
  exact h
theorem compl_half (u : Nat) (hu : u < 2 ^ 64) : bits BinOp.xor IntKind.u64 IntKind.u64.max ((u / 2 : Nat) : Int) = ((18446744073709551616 - (u / 2 + 1) : Nat) : Int) := by
  have hm : IntKind.u64.max = ((18446744073709551615 : Nat) : Int) := by decide
  have h2 := bits_xor_u64_nat 18446744073709551615 (u / 2) (by omega) (by omega)
  have h3 : 18446744073709551615 ^^^ (u / 2) = 18446744073709551616 - (u / 2 + 1) := compl64 (u / 2) (by omega)
  rw [h3] at h2
  rw [hm, h2]

set_option maxHeartbeats 1000000 in
theorem unfold_any (u : Nat) (hu : u < 2 ^ 64) (w : World) : Calls Tryz.prog 74 #[.int .u64 (u : Int)] w fun e w' => e = .returned (.int .i64 (unfoldI u)) ∧ w' = w := by
  have h1 := and_one64 u hu
  by_cases h : u % 2 = 1
  · have hb : (((u % 2 : Nat) : Int) == 1) = true := by rw [h]; rfl
    have hc := compl_half u hu
    have hr : IntKind.i64.wrap ((18446744073709551616 - (u / 2 + 1) : Nat) : Int) = unfoldI u := by
      unfold unfoldI
      rw [if_pos h, IntKind.wrap_i64]
      omega
    rw [h] at h1
    go_enter Tryz.func74, Tryz.ntmps74
    go_wp2
    go_ret
    refine ⟨?_, rfl⟩
    have e : wrap64 (bits BinOp.xor IntKind.u64 IntKind.u64.max ((u : Int) / 2)) = unfoldI u := by
      rw [show (u : Int) / 2 = ((u / 2 : Nat) : Int) by omega, hc]
      rw [wrap64, ← IntKind.wrap_i64]
      exact hr
    first | exact congrArg (fun z => Ending.returned (Value.int .i64 z)) e | (rw [← e]; rfl)
  · have h0 : u % 2 = 0 := by omega
    rw [h0] at h1
    have hr : unfoldI u = (u : Int) / 2 := by unfold unfoldI; rw [if_neg h]; omega
    go_enter Tryz.func74, Tryz.ntmps74
    go_wp2
    go_ret
    exact ⟨by first | rfl | (rw [hr]; rfl), rfl⟩
end Go.Proofs.YtdmhemofhmfkoabGreatDoor

namespace Go.Proofs.YtdmhemofhmfkoabGreatDoor
open Go.RowKit
set_option maxRecDepth 8000
theorem clean_len {t : VT} : (flatP (cleanT t)).length ≤ 12 := by
  unfold cleanT
  split
  · rename_i h
    have h1 := chk_len t 0 0 h
    have h2 := (chk_le t 0 0 (by omega)).2 h
    omega
  · simp [zeroT, flatP]
/-- bytes as a text -/
def strOf (zs : List Int) : ByteArray := zs.foldl (fun r n => r.push (UInt8.ofNat n.toNat)) ByteArray.empty
theorem conv_any {w : World} {base b c : Nat} {zs : List Int} (h : OwnBy base w (.slice (some ⟨b, 0, none⟩) zs.length c) zs) : (convert 25 9 (.slice (some ⟨b, 0, none⟩) zs.length c)).run Tryz.prog w = .ok (.string (strOf zs)) w := by
  rw [run_convert_bytes_string (P := Tryz.prog) w 25 9 5 _ _ _ Tryz.underlying25 Tryz.underlying5 Tryz.underlying9]
  have hl := run_loadCells_list (P := Tryz.prog) (w := w) ⟨b, 0, none⟩ (zs.map (Value.int .u8)) (World.ownsRow.cells h rfl)
  rw [List.length_map] at hl
  exact run_bytesToString w ⟨b, 0, none⟩ zs.length c zs hl
end Go.Proofs.YtdmhemofhmfkoabGreatDoor

namespace Go.Proofs.YtdmhemofhmfkoabGreatDoor
open Go.RowKit
set_option maxRecDepth 8000

def mkN : VT := .mk 0 0 ⟨#[]⟩ 0 none 0 (fun _ => .nil)
def mkI (i : Int) : VT := .mk 1 i ⟨#[]⟩ 0 none 0 (fun _ => .nil)
def mkT (s : ByteArray) : VT := .mk 2 0 s 0 none 0 (fun _ => .nil)
def mkL (l : List VT) : VT := .mk 3 0 ⟨#[]⟩ l.length none 0 (fun j => l.getD j .nil)
/-- what reading comes to: an error's number, or the value, where it ends, how many parts there are -/
abbrev DR := Except Nat (VT × Nat × Nat)
/-- the first m items -/
def itemsS (g : Nat → Nat → DR) : Nat → Nat → Nat → Except Nat (List VT × Nat × Nat)
  | 0, a, q => .ok ([], a, q)
  | m + 1, a, q =>
    match itemsS g m a q with
    | .error e => .error e
    | .ok (l, a', q') =>
      match g a' q' with
      | .error e => .error e
      | .ok (v, a2, q2) => .ok (l ++ [v], a2, q2)
def bytesAt (f : Nat → Int) (a m : Nat) : List Int := (List.range m).map fun j => f (a + j)
/-- a part that stands in d lists; g reads an item -/
def partS (f : Nat → Int) (n : Nat) (g : Nat → Nat → DR) (d a q : Nat) : DR :=
  if n ≤ a then .error 28 else if 12 < q + 1 then .error 22 else if 3 < (f a).toNat then .error 28 else if (f a).toNat = 3 ∧ 3 ≤ d then .error 23
  else if (f a).toNat = 0 then .ok (mkN, a + 1, q + 1)
  else if (f a).toNat = 1 then (match grpS f n 10 (a + 1) 0 0 with | none => .error 28 | some (u, a') => .ok (mkI (unfoldI u), a', q + 1))
  else if n ≤ a + 1 then .error 28
  else if (f a).toNat = 2 then (if 24 < (f (a + 1)).toNat then .error 21 else if n < a + 2 + (f (a + 1)).toNat then .error 28 else .ok (mkT (strOf (bytesAt f (a + 2) (f (a + 1)).toNat)), a + 2 + (f (a + 1)).toNat, q + 1))
  else if 6 < (f (a + 1)).toNat then .error 22
  else (match itemsS g (f (a + 1)).toNat (a + 2) (q + 1) with | .error e => .error e | .ok (l, a', q') => .ok (mkL l, a', q'))
def decS (f : Nat → Int) (n : Nat) : Nat → Nat → Nat → Nat → DR
  | 0, d, a, q => partS f n (fun _ _ => .error 23) d a q
  | k + 1, d, a, q => partS f n (decS f n k (d + 1)) d a q

theorem grpS_le (f : Nat → Int) (n : Nat) : ∀ k a i u r, grpS f n k a i u = some r → r.2 ≤ n ∧ (u < 2 ^ 64 → i ≤ 9 → k ≤ 10 - i → r.1 < 2 ^ 64) := by
  intro k
  induction k with
  | zero => intro a i u r h; cases h
  | succ k ih =>
    intro a i u r h
    rw [grpS] at h
    split at h
    · cases h
    · split at h
      · cases h
      · rename_i h1 h2
        have key : u < 2 ^ 64 → i ≤ 9 → (u ||| (f a).toNat % 128 * 2 ^ (7 * i)) < 2 ^ 64 := fun hu hi => Nat.or_lt_two_pow hu (grp_fits hi (fun h9 => by omega))
        split at h
        · cases h
          exact ⟨by omega, fun hu hi _ => key hu hi⟩
        · have h3 := ih _ _ _ _ h
          refine ⟨h3.1, fun hu hi hk => ?_⟩
          by_cases h9 : i = 9
          · omega
          · exact h3.2 (key hu hi) (by omega) (by omega)
theorem itemsS_le {g : Nat → Nat → DR} {n : Nat} (hg : ∀ a q v a' q', g a q = .ok (v, a', q') → a ≤ n → a' ≤ n) : ∀ m a q l a' q', itemsS g m a q = .ok (l, a', q') → a ≤ n → a' ≤ n ∧ l.length = m := by
  intro m
  induction m with
  | zero => intro a q l a' q' h ha; simp only [itemsS, Except.ok.injEq, Prod.mk.injEq] at h; obtain ⟨rfl, rfl, rfl⟩ := h; exact ⟨ha, rfl⟩
  | succ m ih =>
    intro a q l a' q' h ha
    rw [itemsS] at h
    split at h
    · cases h
    · rename_i l1 a1 q1 h1
      split at h
      · cases h
      · rename_i v a2 q2 h2
        simp only [Except.ok.injEq, Prod.mk.injEq] at h
        obtain ⟨rfl, rfl, rfl⟩ := h
        have h3 := ih _ _ _ _ _ h1 ha
        exact ⟨hg _ _ _ _ _ h2 h3.1, by simp [h3.2]⟩
theorem partS_le {f : Nat → Int} {n : Nat} {g : Nat → Nat → DR} (hg : ∀ a q v a' q', g a q = .ok (v, a', q') → a ≤ n → a' ≤ n) {d a q a' q' : Nat} {v : VT} (h : partS f n g d a q = .ok (v, a', q')) : a' ≤ n := by
  unfold partS at h
  split at h
  · cases h
  split at h
  · cases h
  split at h
  · cases h
  split at h
  · cases h
  split at h
  · simp only [Except.ok.injEq, Prod.mk.injEq] at h; omega
  split at h
  · split at h
    · cases h
    · rename_i u a2 h2
      simp only [Except.ok.injEq, Prod.mk.injEq] at h
      have := (grpS_le _ _ _ _ _ _ _ h2).1
      simp only at this
      omega
  split at h
  · cases h
  split at h
  · split at h
    · cases h
    split at h
    · cases h
    · simp only [Except.ok.injEq, Prod.mk.injEq] at h; omega
  split at h
  · cases h
  split at h
  · cases h
  · rename_i l a2 q2 h2
    simp only [Except.ok.injEq, Prod.mk.injEq] at h
    have := (itemsS_le hg _ _ _ _ _ _ h2 (by omega)).1
    omega
theorem decS_le {f : Nat → Int} {n : Nat} : ∀ (k d a q : Nat) (v : VT) (a' q' : Nat), decS f n k d a q = .ok (v, a', q') → a' ≤ n := by
  intro k
  induction k with
  | zero => intro d a q v a' q' h; exact partS_le (fun _ _ _ _ _ h => by cases h) h
  | succ k ih => intro d a q v a' q' h; exact partS_le (fun a q v a' q' h _ => ih _ _ _ _ _ _ h) h
theorem itemsS_stuck {g : Nat → Nat → DR} {a q j e a' q' : Nat} {l : List VT} (h : itemsS g j a q = .ok (l, a', q')) (hg : g a' q' = .error e) : ∀ {m : Nat}, j < m → itemsS g m a q = .error e := by
  intro m
  induction m with
  | zero => intro h2; omega
  | succ m ih =>
    intro h2
    by_cases hj : j = m
    · subst hj
      rw [itemsS, h]
      simp only [hg]
    · rw [itemsS, ih (by omega)]
theorem itemsS_next {g : Nat → Nat → DR} {a q j a' q' a2 q2 : Nat} {l : List VT} {v : VT} (h : itemsS g j a q = .ok (l, a', q')) (hg : g a' q' = .ok (v, a2, q2)) : itemsS g (j + 1) a q = .ok (l ++ [v], a2, q2) := by
  rw [itemsS, h]
  simp only [hg]
theorem itemsS_q {g : Nat → Nat → DR} (hg : ∀ a q v a' q', g a q = .ok (v, a', q') → q' ≤ 12) : ∀ m a q l a' q', itemsS g m a q = .ok (l, a', q') → q ≤ 12 → q' ≤ 12 := by
  intro m
  induction m with
  | zero => intro a q l a' q' h ha; simp only [itemsS, Except.ok.injEq, Prod.mk.injEq] at h; omega
  | succ m ih =>
    intro a q l a' q' h ha
    rw [itemsS] at h
    split at h
    · cases h
    · split at h
      · cases h
      · rename_i v a2 q2 h2
        simp only [Except.ok.injEq, Prod.mk.injEq] at h
        obtain ⟨rfl, rfl, rfl⟩ := h
        exact hg _ _ _ _ _ h2
theorem partS_q {f : Nat → Int} {n : Nat} {g : Nat → Nat → DR} (hg : ∀ a q v a' q', g a q = .ok (v, a', q') → q' ≤ 12) {d a q a' q' : Nat} {v : VT} (h : partS f n g d a q = .ok (v, a', q')) : q' ≤ 12 := by
  unfold partS at h
  split at h
  · cases h
  split at h
  · cases h
  split at h
  · cases h
  split at h
  · cases h
  split at h
  · simp only [Except.ok.injEq, Prod.mk.injEq] at h; omega
  split at h
  · split at h
    · cases h
    · simp only [Except.ok.injEq, Prod.mk.injEq] at h; omega
  split at h
  · cases h
  split at h
  · split at h
    · cases h
    split at h
    · cases h
    · simp only [Except.ok.injEq, Prod.mk.injEq] at h; omega
  split at h
  · cases h
  split at h
  · cases h
  · rename_i l a2 q2 h2
    simp only [Except.ok.injEq, Prod.mk.injEq] at h
    have := itemsS_q hg _ _ _ _ _ _ h2 (by omega)
    omega
theorem decS_q {f : Nat → Int} {n : Nat} : ∀ (k d a q : Nat) (v : VT) (a' q' : Nat), decS f n k d a q = .ok (v, a', q') → q' ≤ 12 := by
  intro k
  induction k with
  | zero => intro d a q v a' q' h; exact partS_q (fun _ _ _ _ _ h => by cases h) h
  | succ k ih => intro d a q v a' q' h; exact partS_q (fun a q v a' q' h => ih _ _ _ _ _ _ h) h
def DPost (w : World) (db : Nat) (p : Option Addr) (n c : Nat) (r : DR) (x : Ending) (w' : World) : Prop :=
  (∀ t a' q', r = .ok (t, a', q') → ∃ u, x = .returned u.val ∧ VT.Alike t u ∧ VT.In w' (fun b => w.heap.size ≤ b) u ∧ Box w' db #[.slice p n c, .int .i64 (a' : Int), .int .i64 (q' : Int)] 70 ∧ But (fun y => y = db) w w') ∧ (∀ e : Nat, r = .error e → Fails e x ∧ But (fun y => y = db) w w')
end Go.Proofs.YtdmhemofhmfkoabGreatDoor

namespace Go.Proofs.YtdmhemofhmfkoabGreatDoor
open Go.RowKit
set_option maxRecDepth 8000

/-- a value's cells as a block has them -/
def vcells (u : VT) : Array Value := #[.int .i64 u.kind, .int .i64 u.int, .string u.text, .slice u.p u.n u.c]
/-- behind the two copies: two new boxes, the copies elsewhere in new memory -/
def TwoBox (w1 : World) (u u2 : VT) (s5 s6 : Value) (wx : World) : Prop :=
  ∃ bc bd, s5 = .pointer (some ⟨bc, 0, none⟩) ∧ s6 = .pointer (some ⟨bd, 0, none⟩) ∧ bc ≠ bd ∧ w1.heap.size ≤ bc ∧ w1.heap.size ≤ bd ∧
    Box wx bc #[.int .i64 u.kind, .int .i64 u.int, .string u.text, .slice u.p u.n u.c] 24 ∧ Box wx bd #[.int .i64 u2.kind, .int .i64 u2.int, .string u2.text, .slice u2.p u2.n u2.c] 24 ∧ Below w1.heap.size w1 wx
/-- four stores into a box -/
def set4 (w : World) (b : Nat) (u : VT) : World :=
  (((w.setCell ⟨b, 0, none⟩ (.int .i64 u.kind)).setCell ⟨b, 1, none⟩ (.int .i64 u.int)).setCell ⟨b, 2, none⟩ (.string u.text)).setCell ⟨b, 3, none⟩ (.slice u.p u.n u.c)
theorem set4_size (w : World) (b : Nat) (u : VT) : (set4 w b u).heap.size = w.heap.size := by simp [set4, World.setCell]
theorem set4_box {w : World} {b : Nat} {u : VT} {z : Array Value} {e : TypeId} (h : Box w b z e) (hz : z.size = 4) : Box (set4 w b u) b #[.int .i64 u.kind, .int .i64 u.int, .string u.text, .slice u.p u.n u.c] e := by
  have h4 := (((h.set 0 (.int .i64 u.kind)).set 1 (.int .i64 u.int)).set 2 (.string u.text)).set 3 (.slice u.p u.n u.c)
  obtain ⟨l⟩ := z
  match l, hz with
  | [a, b, c, d], _ => simpa [set4] using h4
theorem set4_but {X : Nat → Prop} {a w : World} {b : Nat} (u : VT) (h : But X a w) (hb : b < a.heap.size → X b) : But X a (set4 w b u) :=
  (((h.setCell (p := ⟨b, 0, none⟩) hb _).setCell (p := ⟨b, 1, none⟩) hb _).setCell (p := ⟨b, 2, none⟩) hb _).setCell (p := ⟨b, 3, none⟩) hb _

/-- from what the blocks hold in the end -/
theorem twb_of {w1 w3 : World} {u u2 : VT} (hb : Below w1.heap.size w1 w3) {wx : World} {bc bd : Nat} {X : Nat → Prop} (hne : bc ≠ bd) (hc : w1.heap.size ≤ bc) (hd : w1.heap.size ≤ bd) (hx : But X w3 wx) (hX : ∀ y, X y → y = bc ∨ y = bd)
   
    (h1 : Box wx bc #[.int .i64 u.kind, .int .i64 u.int, .string u.text, .slice u.p u.n u.c] 24) (h2 : Box wx bd #[.int .i64 u2.kind, .int .i64 u2.int, .string u2.text, .slice u2.p u2.n u2.c] 24) :
    TwoBox w1 u u2 (.pointer (some ⟨bc, 0, none⟩)) (.pointer (some ⟨bd, 0, none⟩)) wx := by
  refine ⟨bc, bd, rfl, rfl, hne, hc, hd, h1, h2, hb.trans (hx.below hb.size fun b hb2 hx2 => ?_)⟩
  rcases hX b hx2 with h | h
  · omega
  · omega
theorem twb_A {w1 w3 : World} {u u2 : VT} (hb : Below w1.heap.size w1 w3) :
    TwoBox w1 u u2 (.pointer (some ⟨w3.heap.size, 0, none⟩)) (.pointer (some ⟨w3.heap.size + 1, 0, none⟩)) ((w3.alloc (.cells (vcells u) 24)).alloc (.cells (vcells u2) 24)) := by
  have hs := hb.size
  refine twb_of hb (X := fun _ => False) (by omega) hs (by omega) (((But.refl _ _).alloc _).alloc _) (fun y h => h.elim) ?_ ?_
  · exact (Box.new w3 (vcells u) 24).below ((Below.refl _ _).alloc (Nat.le_refl _) _)
  · have h := Box.new (w3.alloc (.cells (vcells u) 24)) (vcells u2) 24
    rw [show (w3.alloc (.cells (vcells u) 24)).heap.size = w3.heap.size + 1 by simp] at h
    exact h
theorem twb_A' {w1 w3 : World} {u u2 : VT} (hb : Below w1.heap.size w1 w3) :
    TwoBox w1 u u2 (.pointer (some ⟨w3.heap.size + 1, 0, none⟩)) (.pointer (some ⟨w3.heap.size, 0, none⟩)) ((w3.alloc (.cells (vcells u2) 24)).alloc (.cells (vcells u) 24)) := by
  have hs := hb.size
  refine twb_of hb (X := fun _ => False) (by omega) (by omega) hs (((But.refl _ _).alloc _).alloc _) (fun y h => h.elim) ?_ ?_
  · have h := Box.new (w3.alloc (.cells (vcells u2) 24)) (vcells u) 24
    rw [show (w3.alloc (.cells (vcells u2) 24)).heap.size = w3.heap.size + 1 by simp] at h
    exact h
  · exact (Box.new w3 (vcells u2) 24).below ((Below.refl _ _).alloc (Nat.le_refl _) _)
theorem twb_B {w1 w3 : World} {u u2 : VT} (hb : Below w1.heap.size w1 w3) {bc : Nat} {z : Array Value} (hq : Box w3 bc z 24) (hz : z.size = 4) (hc : w1.heap.size ≤ bc) :
    TwoBox w1 u u2 (.pointer (some ⟨bc, 0, none⟩)) (.pointer (some ⟨w3.heap.size, 0, none⟩)) ((set4 w3 bc u).alloc (.cells (vcells u2) 24)) := by
  have hs := hb.size
  have hl := hq.lt
  refine twb_of hb (X := fun y => y = bc) (by omega) hc hs ((set4_but (X := fun y => y = bc) u (But.refl _ _) (fun _ => rfl)).alloc _) (fun y h => .inl h) ?_ ?_
  · exact (set4_box hq hz).below ((Below.refl _ _).alloc (Nat.le_refl _) _)
  · have h := Box.new (set4 w3 bc u) (vcells u2) 24
    rw [set4_size] at h
    exact h
theorem twb_B' {w1 w3 : World} {u u2 : VT} (hb : Below w1.heap.size w1 w3) {bd : Nat} {z : Array Value} (hq : Box w3 bd z 24) (hz : z.size = 4) (hd : w1.heap.size ≤ bd) :
    TwoBox w1 u u2 (.pointer (some ⟨w3.heap.size, 0, none⟩)) (.pointer (some ⟨bd, 0, none⟩)) ((set4 w3 bd u2).alloc (.cells (vcells u) 24)) := by
  have hs := hb.size
  have hl := hq.lt
  refine twb_of hb (X := fun y => y = bd) (by omega) hs hd ((set4_but (X := fun y => y = bd) u2 (But.refl _ _) (fun _ => rfl)).alloc _) (fun y h => .inr h) ?_ ?_
  · have h := Box.new (set4 w3 bd u2) (vcells u) 24
    rw [set4_size] at h
    exact h
  · exact (set4_box hq hz).below ((Below.refl _ _).alloc (Nat.le_refl _) _)
theorem twb_C {w1 w3 : World} {u u2 : VT} (hb : Below w1.heap.size w1 w3) {bc bd : Nat} {z z2 : Array Value} (hq : Box w3 bc z 24) (hz : z.size = 4) (hq2 : Box w3 bd z2 24) (hz2 : z2.size = 4) (hne : bc ≠ bd) (hc : w1.heap.size ≤ bc) (hd : w1.heap.size ≤ bd)
    :
    TwoBox w1 u u2 (.pointer (some ⟨bc, 0, none⟩)) (.pointer (some ⟨bd, 0, none⟩)) (set4 (set4 w3 bc u) bd u2) := by
  refine twb_of hb (X := fun y => y = bc ∨ y = bd) hne hc hd (set4_but u2 (set4_but u (But.refl _ _) (fun _ => .inl rfl)) (fun _ => .inr rfl)) (fun y h => h) ?_ ?_
  · exact (set4_box hq hz).but (X := fun y => y = bd) (set4_but u2 (But.refl _ _) (fun _ => rfl)) hne
  · exact set4_box (hq2.but (X := fun y => y = bc) (set4_but u (But.refl _ _) (fun _ => rfl)) (fun e => hne e.symm)) hz2
end Go.Proofs.YtdmhemofhmfkoabGreatDoor
