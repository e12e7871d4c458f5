import Derived.Test.YtgnamngnmbaeeaaDoorPack4
import Derived.Test.YtgnamngnmbaeeaaDoorPack5
import Derived.Test.YtgnamngnmbaeeaaDoorPack6
import Derived.Test.YtgnamngnmbaeeaaDoorPack7
import Derived.Test.YtgnamngnmbaeeaaDoorPack9
namespace Go.Proofs.YtgnamngnmbaeeaaDoor
open Go.RowKit
set_option maxRecDepth 8000
/-- a number in groups of seven bits -/
def grpB (u : Nat) : List Int := if u < 128 then [(u : Int)] else ((u % 128 + 128 : Nat) : Int) :: grpB (u / 128)
termination_by u
decreasing_by omega
theorem grpB_small {u : Nat} (h : u < 128) : grpB u = [(u : Int)] := by rw [grpB, if_pos h]
theorem grpB_great {u : Nat} (h : ¬ u < 128) : grpB u = ((u % 128 + 128 : Nat) : Int) :: grpB (u / 128) := by rw [grpB, if_neg h]
theorem grpB_len : ∀ (k u : Nat), u < 128 ^ (k + 1) → (grpB u).length ≤ k + 1 := by
  intro k
  induction k with
  | zero => intro u h; rw [grpB_small (by simpa using h)]; simp
  | succ k ih =>
    intro u h
    by_cases hu : u < 128
    · rw [grpB_small hu]; simp
    · rw [grpB_great hu]
      have h1 : u / 128 < 128 ^ (k + 1) := by
        rw [Nat.div_lt_iff_lt_mul (by omega)]
        rw [Nat.pow_succ] at h
        exact h
      have := ih _ h1
      simp
      omega
theorem or128 (u : Nat) : (u % 256) ||| 128 = u % 128 + 128 := by
  have h : ∀ v : Nat, v < 256 → v ||| 128 = v % 128 + 128 := by decide
  rw [h _ (Nat.mod_lt _ (by omega))]
  omega
theorem bits_or128 (u : Nat) : bits BinOp.or IntKind.u8 ((u % 256 : Nat) : Int) 128 = ((u % 128 + 128 : Nat) : Int) := by
  rw [← or128]
  have h : ∀ v : Nat, v < 256 → bits BinOp.or IntKind.u8 (v : Int) 128 = ((v ||| 128 : Nat) : Int) := by decide
  exact h _ (Nat.mod_lt _ (by omega))
theorem one8 (x : Int) : ∀ u ∈ [Value.int .u8 x], u.oneCell' = true := by
  intro u hu
  simp only [List.mem_singleton] at hu
  subst hu
  rfl
/-- one more byte -/
theorem OwnBy.one {base : Nat} {w w' : World} {v v' : Value} {zs : List Int} {x : Int} (h : OwnBy base w v zs) (ho : w'.ownsRow base 5 1 v' (zs.length + 1) (zs.map (Value.int .u8) ++ [.int .u8 x])) : OwnBy base w' v' (zs ++ [x]) := h.app (ys := [x]) ho
theorem below_row {base : Nat} {w w1 w2 : World} {v : Value} {zs : List Int} (hb : Below base w w1) (hB : base ≤ w1.heap.size) (hv : OwnBy base w1 v zs) (o : Obj) (hg : (w1.alloc o).grownBy w2 v.ownBlock) : Below base w w2 :=
  (hb.trans (((Below.refl w1.heap.size w1).alloc (Nat.le_refl _) o).mono hB)).grown hg (by simp; omega) (fun k hk => (World.ownsRow.lt hv k hk).1)
/-- what is no row of bytes stays -/
def KeepN (w w' : World) : Prop := ∀ (B : Nat) (o : Obj), (∀ cs z, o ≠ Obj.cells cs 5 z) → w.heap[B]? = some o → w'.heap[B]? = some o
theorem KeepN.refl (w : World) : KeepN w w := fun _ _ _ h => h
theorem KeepN.trans {a b c : World} (h : KeepN a b) (k : KeepN b c) : KeepN a c := fun B o he hb => k B o he (h B o he hb)
theorem KeepN.below {w w' : World} (h : Below w.heap.size w w') : KeepN w w' := fun B o _ hb => by
  have hl : B < w.heap.size := by
    rcases Nat.lt_or_ge B w.heap.size with h1 | h1
    · exact h1
    · rw [Array.getElem?_eq_none h1] at hb; cases hb
  rw [h.block B hl]; exact hb
theorem KeepN.box {w w' : World} (h : KeepN w w') {B : Nat} {cs : Array Value} {e : TypeId} (he : e ≠ 5) (hb : Box w B cs e) : Box w' B cs e := h B _ (fun cs2 z e2 => by simp only [Obj.cells.injEq] at e2; exact he e2.2.1) hb
theorem KeepN.grown {base : Nat} {w w' : World} {v : Value} {zs : List Int} (hv : OwnBy base w v zs) (hg : w.grownBy w' v.ownBlock) : KeepN w w' := fun B o he hb => by
  have hl : B < w.heap.size := by
    rcases Nat.lt_or_ge B w.heap.size with h1 | h1
    · exact h1
    · rw [Array.getElem?_eq_none h1] at hb; cases hb
  refine (hg.block B hl fun hB => ?_).trans hb
  obtain ⟨_, ⟨hv2, _⟩ | ⟨g, cap, cur, hv2, _, hh, _⟩⟩ := id hv
  · rw [hv2] at hB; cases hB
  · rw [hv2] at hB
    have e1 : B = g := by simpa [Value.ownBlock] using hB
    rw [e1, hh] at hb
    simp only [Option.some.injEq] at hb
    exact he _ _ hb.symm
/-- bytes laid behind a row -/
structure LayB (base : Nat) (w : World) (zs : List Int) (v' : Value) (w' : World) : Prop where
  own : OwnBy base w' v' zs
  bel : Below base w w'
  keep : KeepN w w'
theorem LayB.refl {base : Nat} {w : World} {v : Value} {zs : List Int} (h : OwnBy base w v zs) : LayB base w zs v w := ⟨h, Below.refl _ _, KeepN.refl _⟩
theorem LayB.lift {base : Nat} {a w w' : World} {v' : Value} {zs : List Int} (h : LayB base w zs v' w') (hb : Below base a w) (hk : KeepN a w) : LayB base a zs v' w' := ⟨h.own, hb.trans h.bel, hk.trans h.keep⟩
/-- one byte more, by an append of a new list -/
theorem LayB.one {base : Nat} {a w w' : World} {v v' : Value} {zs : List Int} {x : Int} (h : LayB base a zs v w) (hB : base ≤ w.heap.size) (ho : w'.ownsRow base 5 1 v' (zs.length + 1) (zs.map (Value.int .u8) ++ [.int .u8 x])) (hg : (w.alloc (.cells #[.int .u8 x] 5)).grownBy w' v.ownBlock) : LayB base a (zs ++ [x]) v' w' :=
  ⟨h.own.one ho, below_row h.bel hB h.own _ hg, (h.keep.trans (KeepN.below ((Below.refl _ _).alloc (Nat.le_refl _) _))).trans (KeepN.grown (h.own.below ((Below.refl _ _).alloc (Nat.le_refl _) _)) hg)⟩
def EPost (base : Nat) (w : World) (zs : List Int) (e : Ending) (w' : World) : Prop := ∃ v', e = .returned v' ∧ LayB base w zs v' w'
/-- what reading comes to: an error's number, or what is read and the bytes that are left -/
abbrev RS (α : Type) := List Int → Except Nat (α × List Int)
def bindS {α β : Type} (s : RS α) (g : α → RS β) : RS β := fun L => match s L with | .error e => .error e | .ok (y, R) => g y R
def retS {α : Type} (y : α) : RS α := fun L => .ok (y, L)
def failS {α : Type} (e : Nat) : RS α := fun _ => .error e
def takeS (n : Nat) : RS (List Int) := fun L => if n ≤ L.length then .ok (L.take n, L.drop n) else .error 40
def numG (bound : Nat) : Nat → Nat → Nat → RS Nat
  | 0, _, _ => failS 41
  | k + 1, i, u => bindS (takeS 1) fun l =>
      if (l.headD 0).toNat < 128 then (if 0 < i ∧ (l.headD 0).toNat = 0 then failS 41 else if bound < (u ||| (l.headD 0).toNat % 128 * 2 ^ (7 * i)) then failS 43 else retS (u ||| (l.headD 0).toNat % 128 * 2 ^ (7 * i)))
      else numG bound k (i + 1) (u ||| (l.headD 0).toNat % 128 * 2 ^ (7 * i))
/-- a number up to a bound -/
def numS (bound : Nat) : RS Nat := numG bound 5 0 0
theorem or_plus {u x i : Nat} (h : u < 2 ^ (7 * i)) : u ||| x * 2 ^ (7 * i) = u + x * 2 ^ (7 * i) := by
  have h1 := Nat.shiftLeft_add_eq_or_of_lt h x
  rw [Nat.shiftLeft_eq] at h1
  rw [Nat.or_comm, ← h1, Nat.add_comm]
theorem pow7 (i : Nat) : 2 ^ (7 * (i + 1)) = 128 * 2 ^ (7 * i) := by
  rw [Nat.mul_add, Nat.pow_add]
  simp [Nat.mul_comm]
theorem andnot128 (c : Nat) (h : c < 256) : bits BinOp.andNot IntKind.u8 (c : Int) 128 = ((c % 128 : Nat) : Int) := by
  have h2 : ∀ v : Nat, v < 256 → bits BinOp.andNot IntKind.u8 (v : Int) 128 = ((v % 128 : Nat) : Int) := by decide
  exact h2 c h
/-- what the end of a number comes to -/
def endS (n bound : Nat) (idle : Bool) : RS Nat := if idle = true then failS 41 else if bound < n then failS 43 else retS n
/-- what the end of a number answers -/
def endV (n bound size : Nat) (idle : Bool) : Value := if idle = true then .tuple #[.int .i64 0, .int .i64 0, .int .i64 41] else if bound < n then .tuple #[.int .i64 0, .int .i64 0, .int .i64 43] else .tuple #[.int .i64 n, .int .i64 size, .int .i64 0]
set_option maxHeartbeats 1000000 in
theorem numEnded_any (w : World) (n bound size : Nat) (zero : Bool) (hn : n < 34359738368) (hb : bound < 34359738368) (hs : 1 ≤ size ∧ size ≤ 5) : Calls Tryd.prog 85 #[.int .u64 n, .int .i64 size, .int .i64 bound, .bool zero] w fun x w' => x = .returned (endV n bound size (zero && decide (1 < size))) ∧ w' = w := by
  have fin : ∀ idle : Bool, (zero && decide (1 < size)) = idle → Calls Tryd.prog 85 #[.int .u64 n, .int .i64 size, .int .i64 bound, .bool zero] w fun x w' => x = .returned (endV n bound size idle) ∧ w' = w := by
    intro idle hid_
    cases idle with
    | true =>
      have hz : zero = true ∧ 1 < size := by simpa using hid_
      obtain ⟨rfl, h1⟩ := hz
      have h1' : (1 : Int) < (size : Int) := by omega
      clear hid_
      go_enter Tryd.func85, Tryd.ntmps85
      go_wp2
      exact bodyPost_ret (v := .tuple #[.int .i64 0, .int .i64 0, .int .i64 41]) (by simp [results, Tryd.results85, go_sem]) rfl ⟨rfl, rfl⟩
    | false =>
      have HQ : Hid (∀ x : Value, (bound < n → x = .tuple #[.int .i64 0, .int .i64 0, .int .i64 43]) → (¬ bound < n → x = .tuple #[.int .i64 n, .int .i64 size, .int .i64 0]) → x = endV n bound size false) := fun x h1 h2 => by
        unfold endV
        rw [if_neg (by simp)]
        by_cases h : bound < n
        · rw [if_pos h]; exact h1 h
        · rw [if_neg h]; exact h2 h
      have walk : ∀ z : Bool, (z = true → ¬ (1 : Int) < (size : Int)) → Calls Tryd.prog 85 #[.int .u64 n, .int .i64 size, .int .i64 bound, .bool z] w fun x w' => x = .returned (endV n bound size false) ∧ w' = w := by
        intro z hz
        cases z with
        | true =>
          have hz1 := hz rfl
          clear hz hid_
          by_cases hlt : bound < n
          · have hlt' : (bound : Int) < (n : Int) := by omega
            have HR := hid (HQ.out _ (fun _ => rfl) (fun h => absurd hlt h))
            clear HQ hlt
            go_enter Tryd.func85, Tryd.ntmps85
            go_wp2
            exact bodyPost_ret (v := .tuple #[.int .i64 0, .int .i64 0, .int .i64 43]) (by simp [results, Tryd.results85, go_sem]) rfl ⟨congrArg Ending.returned HR.out, rfl⟩
          · have hlt' : ¬ (bound : Int) < (n : Int) := by omega
            have HR := hid (HQ.out _ (fun h => absurd h hlt) (fun _ => rfl))
            clear HQ hlt
            go_enter Tryd.func85, Tryd.ntmps85
            go_wp2
            exact bodyPost_ret (v := .tuple #[.int .i64 n, .int .i64 size, .int .i64 0]) (by simp [results, Tryd.results85, go_sem]) rfl ⟨congrArg Ending.returned HR.out, rfl⟩
        | false =>
          clear hz hid_
          by_cases hlt : bound < n
          · have hlt' : (bound : Int) < (n : Int) := by omega
            have HR := hid (HQ.out _ (fun _ => rfl) (fun h => absurd hlt h))
            clear HQ hlt
            go_enter Tryd.func85, Tryd.ntmps85
            go_wp2
            exact bodyPost_ret (v := .tuple #[.int .i64 0, .int .i64 0, .int .i64 43]) (by simp [results, Tryd.results85, go_sem]) rfl ⟨congrArg Ending.returned HR.out, rfl⟩
          · have hlt' : ¬ (bound : Int) < (n : Int) := by omega
            have HR := hid (HQ.out _ (fun h => absurd h hlt) (fun _ => rfl))
            clear HQ hlt
            go_enter Tryd.func85, Tryd.ntmps85
            go_wp2
            exact bodyPost_ret (v := .tuple #[.int .i64 n, .int .i64 size, .int .i64 0]) (by simp [results, Tryd.results85, go_sem]) rfl ⟨congrArg Ending.returned HR.out, rfl⟩
      refine walk zero fun hz => ?_
      rw [hz] at hid_
      have : ¬ 1 < size := by simpa using hid_
      omega
  exact fin _ rfl
theorem and128lo (c : Nat) (h : c < 128) : bits BinOp.and IntKind.u8 (c : Int) 128 = 0 := by
  have h2 : ∀ v : Nat, v < 128 → bits BinOp.and IntKind.u8 (v : Int) 128 = 0 := by decide
  exact h2 c h
theorem and128hi (c : Nat) (h : c < 256) (h1 : ¬ c < 128) : bits BinOp.and IntKind.u8 (c : Int) 128 = 128 := by
  have h2 : ∀ v : Nat, v < 256 → ¬ v < 128 → bits BinOp.and IntKind.u8 (v : Int) 128 = 128 := by decide
  exact h2 c h h1
theorem numG_nil (bound k i u : Nat) : numG bound (k + 1) i u [] = .error 40 := rfl
theorem numG_lo {bound k i u C : Nat} {R : List Int} (h : C < 128) : numG bound (k + 1) i u ((C : Int) :: R) = endS (u ||| C % 128 * 2 ^ (7 * i)) bound (decide (0 < i ∧ C = 0)) R := by
  simp [numG, bindS, takeS, endS, h]
theorem numG_hi {bound k i u C : Nat} {R : List Int} (h : ¬ C < 128) : numG bound (k + 1) i u ((C : Int) :: R) = numG bound k (i + 1) (u ||| C % 128 * 2 ^ (7 * i)) R := by
  simp [numG, bindS, takeS, h]
/-- what Lead answers -/
def LeadP (bound : Nat) (L : List Int) (x : Ending) : Prop := ∃ n sz k : Nat, x = .returned (.tuple #[.int .i64 (n : Int), .int .i64 (sz : Int), .int .i64 (k : Int)]) ∧ ((k = 0 ∧ sz ≤ L.length ∧ numS bound L = .ok (n, L.drop sz) ∧ n ≤ bound) ∨ (k ≠ 0 ∧ n = 0 ∧ sz = 0 ∧ numS bound L = .error k))
theorem endS_lead {u bound i : Nat} {idle : Bool} {L R : List Int} {Z : Except Nat (Nat × List Int)} (hZ : Z = numS bound L) (hE : Z = endS u bound idle R) (hR : R = L.drop (i + 1)) (hi : i + 1 ≤ L.length) : LeadP bound L (.returned (endV u bound (i + 1) idle)) := by
  rw [hZ] at hE
  unfold endV
  unfold endS at hE
  cases idle with
  | true =>
    rw [if_pos rfl] at hE ⊢
    exact ⟨0, 0, 41, rfl, .inr ⟨by omega, rfl, rfl, hE⟩⟩
  | false =>
    rw [if_neg (by simp)] at hE ⊢
    by_cases h : bound < u
    · rw [if_pos h] at hE ⊢
      exact ⟨0, 0, 43, rfl, .inr ⟨by omega, rfl, rfl, hE⟩⟩
    · rw [if_neg h] at hE ⊢
      exact ⟨u, i + 1, 0, rfl, .inl ⟨rfl, hi, by rw [hE, ← hR]; rfl, by omega⟩⟩
set_option maxHeartbeats 4000000 in
theorem numLead_any (w : World) (S : Nat → Prop) (p : Option Addr) (L : List Int) (cc : Nat) (bound : Nat) (hb : bound < 34359738368) (h : Byts w S p L.length cc (fun j => L.getD j 0)) : Calls Tryd.prog 75 #[.slice p L.length cc, .int .i64 bound] w fun x w' => LeadP bound L x ∧ w' = w := by
  have HY := hid h
  have hnn := h.nn
  have hnc := h.nc
  clear h
  obtain ⟨nn, hne⟩ : ∃ nn, nn = L.length := ⟨_, rfl⟩
  obtain ⟨Z, hZ⟩ : ∃ Z, Z = numG bound 5 0 0 L := ⟨_, rfl⟩
  have HZ := hid hZ
  have HNe := hid hne
  rw [← hne] at hnn hnc ⊢
  clear hZ hne
  by_cases h5n : 5 < nn
  case pos =>
    have h5n' : (5 : Int) < (nn : Int) := by omega
    go_enter Tryd.func75, Tryd.ntmps75
    go_wp2_with fail
    go_loopw [7, 16] (fun y x wr => ∃ (i u : Nat), i ≤ 5 ∧ y = .int .u64 (u : Int) ∧ x = .int .i64 (i : Int) ∧ u < 2 ^ (7 * i) ∧ wr = w ∧ numG bound (5 - i) i u (L.drop i) = Z) (fun _ x _ => 5 - (intOf x).toNat)
    case atStart => exact ⟨0, 0, by omega, rfl, rfl, by decide, rfl, HZ.out.symm⟩
    case round =>
      obtain ⟨i, u, hi, rfl, rfl, hu, hw, hg⟩ := hrel
      subst wr
      have HG := hid hg
      clear hg
      by_cases him : i < 5
      · have him' : (i : Int) < (5 : Int) := by omega
        obtain ⟨C, hC⟩ : ∃ C : Nat, L.getD i 0 = (C : Int) ∧ C < 256 := by
          obtain ⟨f1, f2⟩ := HY.out.fit i (by rw [← HNe.out]; omega)
          exact ⟨(L.getD i 0).toNat, by omega, by omega⟩
        obtain ⟨hCe, hC2⟩ := hC
        obtain ⟨b0, o0, hp, _, _, hat⟩ := HY.out.at_ (by rw [← HNe.out]; omega)
        subst hp
        have y0 := hat i (by rw [← HNe.out]; omega)
        rw [hCe] at y0
        have hdr : L.drop i = (C : Int) :: L.drop (i + 1) := by
          have hl : i < L.length := by rw [← HNe.out]; omega
          rw [List.drop_eq_getElem_cons hl]
          congr 1
          rw [← hCe, List.getD_eq_getElem?_getD, List.getElem?_eq_getElem hl]
          rfl
        have HE : Hid (5 - i = (4 - i) + 1) := by unfold Hid; omega
        have e1 := andnot128 C hC2
        have hV : C % 128 * 2 ^ (7 * i) < 2 ^ (7 * (i + 1)) := by
          rw [pow7]
          have hp : 0 < 2 ^ (7 * i) := Nat.two_pow_pos _
          exact Nat.mul_lt_mul_of_pos_right (by omega) hp
        have hu2 : u < 2 ^ (7 * (i + 1)) := by
          rw [pow7]
          have hp : 0 < 2 ^ (7 * i) := Nat.two_pow_pos _
          omega
        have hU := Nat.or_lt_two_pow hu2 hV
        have h64 : 2 ^ (7 * (i + 1)) ≤ 34359738368 := by
          have h7 : (2 : Nat) ^ (7 * (i + 1)) ≤ 2 ^ 35 := Nat.pow_le_pow_right (by omega) (by omega)
          exact h7
        have hor := bits_or_u64_nat u (C % 128 * 2 ^ (7 * i)) (by omega) (by omega)
        have HU := hid hU
        have HUl := hid (Nat.lt_of_lt_of_le hU h64)
        clear hU hu2 h64
        have HGl : Hid (C < 128 → Z = endS (u ||| C % 128 * 2 ^ (7 * i)) bound (decide (0 < i ∧ C = 0)) (L.drop (i + 1))) := fun h => by
          have h1 := HG.out
          rw [hdr, HE.out, numG_lo h] at h1
          exact h1.symm
        have HGh : Hid (¬ C < 128 → numG bound (5 - (i + 1)) (i + 1) (u ||| C % 128 * 2 ^ (7 * i)) (L.drop (i + 1)) = Z) := fun h => by
          have h1 := HG.out
          rw [hdr, HE.out, numG_hi h] at h1
          rw [show 5 - (i + 1) = 4 - i by omega]
          exact h1
        obtain ⟨V, hVe⟩ : ∃ V, V = C % 128 * 2 ^ (7 * i) := ⟨_, rfl⟩
        rw [← hVe] at hor HU HUl HGl HGh hV
        obtain ⟨U, hUe⟩ : ∃ U, U = u ||| V := ⟨_, rfl⟩
        rw [← hUe] at hor HU HUl HGl HGh
        have HVe := hid hVe
        clear hVe hUe hat hCe hdr
        by_cases hlt : C < 128
        · have eA := and128lo C hlt
          have HGl := hid (HGl.out hlt)
          have HEn : Hid (∀ b : Bool, decide (C = 0) = b → Calls Tryd.prog 85 #[.int .u64 U, .int .i64 ((i : Int) + 1), .int .i64 bound, .bool b] w fun x w' => (∃ v, x = .returned v ∧ v = endV U bound (i + 1) (decide (0 < i ∧ C = 0))) ∧ w' = w) := fun b hb2 => by
            have h1 := numEnded_any w U bound (i + 1) b HUl.out hb (by omega)
            rw [show (((i + 1 : Nat)) : Int) = (i : Int) + 1 by omega] at h1
            refine h1.mono fun x w' ⟨h2, h3⟩ => ⟨⟨_, h2, ?_⟩, h3⟩
            congr 1
            rw [← hb2]
            by_cases h0 : C = 0
            · simp [h0]
            · simp [h0]
          have key : Hid (LeadP bound L (.returned (endV U bound (i + 1) (decide (0 < i ∧ C = 0))))) := endS_lead HZ.out HGl.out rfl (by rw [← HNe.out]; omega)
          have HKq : Hid (∃ a b c : Int, endV U bound (i + 1) (decide (0 < i ∧ C = 0)) = .tuple #[.int .i64 a, .int .i64 b, .int .i64 c]) := by
            unfold endV
            show ∃ a b c : Int, _
            split
            · exact ⟨0, 0, 41, rfl⟩
            · split
              · exact ⟨0, 0, 43, rfl⟩
              · exact ⟨U, ((i + 1 : Nat) : Int), 0, rfl⟩
          have hiI : (i : Int) + 1 ≤ 5 := by omega
          clear HGh HG HZ hlt HGl HU
          have hi4 : i ≤ 4 := by omega
          have h32 : (u : Int) < 34359738368 := by
            have h7 : (2 : Nat) ^ (7 * i) ≤ 2 ^ 35 := Nat.pow_le_pow_right (by omega) (by omega)
            have h8 := Nat.lt_of_lt_of_le hu h7
            omega
          obtain ⟨ev, hev⟩ : ∃ ev, ev = endV U bound (i + 1) (decide (0 < i ∧ C = 0)) := ⟨_, rfl⟩
          rw [← hev] at key HKq HEn
          clear hev
          obtain ⟨va, vb, vc, hvv⟩ := HKq.out
          subst hvv
          by_cases hC0 : C = 0
          · have HEn := hid (HEn.out true (by simp [hC0]))
            have hC0' : ((C : Int) == 0) = true := by rw [hC0]; rfl
            clear hC0
            by_cases hi0 : i = 0
            · subst hi0
              simp only [Nat.add_zero] at y0
              have e0 : (C : Int) % 128 = (V : Int) := by have := HVe.out; omega
              go_wp2_with fail
              refine HEn.out.mono ?_
              rintro x w' ⟨⟨v, rfl, rfl⟩, hw⟩
              subst w'
              go_wp2
              exact bodyPost_ret (v := .tuple #[.int .i64 va, .int .i64 vb, .int .i64 vc]) (by simp [results, Tryd.results75, go_sem]) rfl ⟨key.out, rfl⟩
            · have h1' : (0 : Int) < (i : Int) := by omega
              have e0 : IntKind.u64.wrap ((C : Int) % 128 * 2 ^ (7 * i)) = (V : Int) := by
                have h2 : (C : Int) % 128 * 2 ^ (7 * i) = (V : Int) := by rw [HVe.out]; simp
                have h7 : (2 : Nat) ^ (7 * (i + 1)) ≤ 2 ^ 35 := Nat.pow_le_pow_right (by omega) (by omega)
                have h8 := Nat.lt_of_lt_of_le hV h7
                rw [h2, wrap_u64]; omega
              go_wp2_with fail
              refine HEn.out.mono ?_
              rintro x w' ⟨⟨v, rfl, rfl⟩, hw⟩
              subst w'
              go_wp2
              exact bodyPost_ret (v := .tuple #[.int .i64 va, .int .i64 vb, .int .i64 vc]) (by simp [results, Tryd.results75, go_sem]) rfl ⟨key.out, rfl⟩
          · have HEn := hid (HEn.out false (by simp [hC0]))
            have hC0' : ((C : Int) == 0) = false := by simpa using hC0
            by_cases hi0 : i = 0
            · subst hi0
              simp only [Nat.add_zero] at y0
              have e0 : (C : Int) % 128 = (V : Int) := by have := HVe.out; omega
              go_wp2_with fail
              refine HEn.out.mono ?_
              rintro x w' ⟨⟨v, rfl, rfl⟩, hw⟩
              subst w'
              go_wp2
              exact bodyPost_ret (v := .tuple #[.int .i64 va, .int .i64 vb, .int .i64 vc]) (by simp [results, Tryd.results75, go_sem]) rfl ⟨key.out, rfl⟩
            · have h1' : (0 : Int) < (i : Int) := by omega
              have e0 : IntKind.u64.wrap ((C : Int) % 128 * 2 ^ (7 * i)) = (V : Int) := by
                have h2 : (C : Int) % 128 * 2 ^ (7 * i) = (V : Int) := by rw [HVe.out]; simp
                have h7 : (2 : Nat) ^ (7 * (i + 1)) ≤ 2 ^ 35 := Nat.pow_le_pow_right (by omega) (by omega)
                have h8 := Nat.lt_of_lt_of_le hV h7
                rw [h2, wrap_u64]; omega
              go_wp2_with fail
              refine HEn.out.mono ?_
              rintro x w' ⟨⟨v, rfl, rfl⟩, hw⟩
              subst w'
              go_wp2
              exact bodyPost_ret (v := .tuple #[.int .i64 va, .int .i64 vb, .int .i64 vc]) (by simp [results, Tryd.results75, go_sem]) rfl ⟨key.out, rfl⟩
        · have eA := and128hi C hC2 hlt
          have HGh := hid (HGh.out hlt)
          clear HGl HG HZ hlt
          by_cases hi0 : i = 0
          · subst hi0
            simp only [Nat.add_zero] at y0
            have e0 : (C : Int) % 128 = (V : Int) := by have := HVe.out; omega
            go_wp2
            go_roundw
            case rel => exact ⟨0 + 1, U, by omega, rfl, rfl, HU.out, by first | rfl | trivial, HGh.out⟩
            case measure => first | (simp [intOf]; done) | (simp [intOf]; omega)
          · have e0 : IntKind.u64.wrap ((C : Int) % 128 * 2 ^ (7 * i)) = (V : Int) := by
              have h2 : (C : Int) % 128 * 2 ^ (7 * i) = (V : Int) := by rw [HVe.out]; simp
              have h7 : (2 : Nat) ^ (7 * (i + 1)) ≤ 2 ^ 35 := Nat.pow_le_pow_right (by omega) (by omega)
              have h8 := Nat.lt_of_lt_of_le hV h7
              rw [h2, wrap_u64]; omega
            go_wp2
            go_roundw
            case rel => exact ⟨i + 1, U, by omega, rfl, by go_num, HU.out, by first | rfl | trivial, HGh.out⟩
            case measure => first | (simp [intOf]; done) | (simp [intOf]; omega)
      · have hie : i = 5 := by omega
        have him' : ¬ (i : Int) < (5 : Int) := by omega
        by_cases h5 : nn < 5
        · have h5' : (nn : Int) < 5 := by omega
          have HF : Hid (LeadP bound L (.returned (.tuple #[.int .i64 0, .int .i64 0, .int .i64 40]))) := by
            have h1 := HG.out
            rw [List.drop_of_length_le (by rw [← HNe.out]; omega), show 5 - i = (4 - i) + 1 by omega, numG_nil] at h1
            exact ⟨0, 0, 40, rfl, .inr ⟨by omega, rfl, rfl, by show numG bound 5 0 0 L = _; rw [← HZ.out, ← h1]⟩⟩
          clear hie
          go_wp2
          exact bodyPost_ret (v := .tuple #[.int .i64 0, .int .i64 0, .int .i64 40]) (by simp [results, Tryd.results75, go_sem]) rfl ⟨HF.out, rfl⟩
        · have h5' : ¬ (nn : Int) < 5 := by omega
          have HF : Hid (LeadP bound L (.returned (.tuple #[.int .i64 0, .int .i64 0, .int .i64 41]))) := by
            have h1 := HG.out
            rw [show 5 - i = 0 by omega] at h1
            exact ⟨0, 0, 41, rfl, .inr ⟨by omega, rfl, rfl, by show numG bound 5 0 0 L = _; rw [← HZ.out, ← h1]; rfl⟩⟩
          clear hie
          go_wp2
          exact bodyPost_ret (v := .tuple #[.int .i64 0, .int .i64 0, .int .i64 41]) (by simp [results, Tryd.results75, go_sem]) rfl ⟨HF.out, rfl⟩
  case neg =>
    have h5n' : ¬ (5 : Int) < (nn : Int) := by omega
    go_enter Tryd.func75, Tryd.ntmps75
    go_wp2_with fail
    go_loopw [7, 16] (fun y x wr => ∃ (i u : Nat), i ≤ nn ∧ y = .int .u64 (u : Int) ∧ x = .int .i64 (i : Int) ∧ u < 2 ^ (7 * i) ∧ wr = w ∧ numG bound (5 - i) i u (L.drop i) = Z) (fun _ x _ => nn - (intOf x).toNat)
    case atStart => exact ⟨0, 0, by omega, rfl, rfl, by decide, rfl, HZ.out.symm⟩
    case round =>
      obtain ⟨i, u, hi, rfl, rfl, hu, hw, hg⟩ := hrel
      subst wr
      have HG := hid hg
      clear hg
      by_cases him : i < nn
      · have him' : (i : Int) < (nn : Int) := by omega
        obtain ⟨C, hC⟩ : ∃ C : Nat, L.getD i 0 = (C : Int) ∧ C < 256 := by
          obtain ⟨f1, f2⟩ := HY.out.fit i (by rw [← HNe.out]; omega)
          exact ⟨(L.getD i 0).toNat, by omega, by omega⟩
        obtain ⟨hCe, hC2⟩ := hC
        obtain ⟨b0, o0, hp, _, _, hat⟩ := HY.out.at_ (by rw [← HNe.out]; omega)
        subst hp
        have y0 := hat i (by rw [← HNe.out]; omega)
        rw [hCe] at y0
        have hdr : L.drop i = (C : Int) :: L.drop (i + 1) := by
          have hl : i < L.length := by rw [← HNe.out]; omega
          rw [List.drop_eq_getElem_cons hl]
          congr 1
          rw [← hCe, List.getD_eq_getElem?_getD, List.getElem?_eq_getElem hl]
          rfl
        have HE : Hid (5 - i = (4 - i) + 1) := by unfold Hid; omega
        have e1 := andnot128 C hC2
        have hV : C % 128 * 2 ^ (7 * i) < 2 ^ (7 * (i + 1)) := by
          rw [pow7]
          have hp : 0 < 2 ^ (7 * i) := Nat.two_pow_pos _
          exact Nat.mul_lt_mul_of_pos_right (by omega) hp
        have hu2 : u < 2 ^ (7 * (i + 1)) := by
          rw [pow7]
          have hp : 0 < 2 ^ (7 * i) := Nat.two_pow_pos _
          omega
        have hU := Nat.or_lt_two_pow hu2 hV
        have h64 : 2 ^ (7 * (i + 1)) ≤ 34359738368 := by
          have h7 : (2 : Nat) ^ (7 * (i + 1)) ≤ 2 ^ 35 := Nat.pow_le_pow_right (by omega) (by omega)
          exact h7
        have hor := bits_or_u64_nat u (C % 128 * 2 ^ (7 * i)) (by omega) (by omega)
        have HU := hid hU
        have HUl := hid (Nat.lt_of_lt_of_le hU h64)
        clear hU hu2 h64
        have HGl : Hid (C < 128 → Z = endS (u ||| C % 128 * 2 ^ (7 * i)) bound (decide (0 < i ∧ C = 0)) (L.drop (i + 1))) := fun h => by
          have h1 := HG.out
          rw [hdr, HE.out, numG_lo h] at h1
          exact h1.symm
        have HGh : Hid (¬ C < 128 → numG bound (5 - (i + 1)) (i + 1) (u ||| C % 128 * 2 ^ (7 * i)) (L.drop (i + 1)) = Z) := fun h => by
          have h1 := HG.out
          rw [hdr, HE.out, numG_hi h] at h1
          rw [show 5 - (i + 1) = 4 - i by omega]
          exact h1
        obtain ⟨V, hVe⟩ : ∃ V, V = C % 128 * 2 ^ (7 * i) := ⟨_, rfl⟩
        rw [← hVe] at hor HU HUl HGl HGh hV
        obtain ⟨U, hUe⟩ : ∃ U, U = u ||| V := ⟨_, rfl⟩
        rw [← hUe] at hor HU HUl HGl HGh
        have HVe := hid hVe
        clear hVe hUe hat hCe hdr
        by_cases hlt : C < 128
        · have eA := and128lo C hlt
          have HGl := hid (HGl.out hlt)
          have HEn : Hid (∀ b : Bool, decide (C = 0) = b → Calls Tryd.prog 85 #[.int .u64 U, .int .i64 ((i : Int) + 1), .int .i64 bound, .bool b] w fun x w' => (∃ v, x = .returned v ∧ v = endV U bound (i + 1) (decide (0 < i ∧ C = 0))) ∧ w' = w) := fun b hb2 => by
            have h1 := numEnded_any w U bound (i + 1) b HUl.out hb (by omega)
            rw [show (((i + 1 : Nat)) : Int) = (i : Int) + 1 by omega] at h1
            refine h1.mono fun x w' ⟨h2, h3⟩ => ⟨⟨_, h2, ?_⟩, h3⟩
            congr 1
            rw [← hb2]
            by_cases h0 : C = 0
            · simp [h0]
            · simp [h0]
          have key : Hid (LeadP bound L (.returned (endV U bound (i + 1) (decide (0 < i ∧ C = 0))))) := endS_lead HZ.out HGl.out rfl (by rw [← HNe.out]; omega)
          have HKq : Hid (∃ a b c : Int, endV U bound (i + 1) (decide (0 < i ∧ C = 0)) = .tuple #[.int .i64 a, .int .i64 b, .int .i64 c]) := by
            unfold endV
            show ∃ a b c : Int, _
            split
            · exact ⟨0, 0, 41, rfl⟩
            · split
              · exact ⟨0, 0, 43, rfl⟩
              · exact ⟨U, ((i + 1 : Nat) : Int), 0, rfl⟩
          have hiI : (i : Int) + 1 ≤ 5 := by omega
          clear HGh HG HZ hlt HGl HU
          have hi4 : i ≤ 4 := by omega
          have h32 : (u : Int) < 34359738368 := by
            have h7 : (2 : Nat) ^ (7 * i) ≤ 2 ^ 35 := Nat.pow_le_pow_right (by omega) (by omega)
            have h8 := Nat.lt_of_lt_of_le hu h7
            omega
          obtain ⟨ev, hev⟩ : ∃ ev, ev = endV U bound (i + 1) (decide (0 < i ∧ C = 0)) := ⟨_, rfl⟩
          rw [← hev] at key HKq HEn
          clear hev
          obtain ⟨va, vb, vc, hvv⟩ := HKq.out
          subst hvv
          by_cases hC0 : C = 0
          · have HEn := hid (HEn.out true (by simp [hC0]))
            have hC0' : ((C : Int) == 0) = true := by rw [hC0]; rfl
            clear hC0
            by_cases hi0 : i = 0
            · subst hi0
              simp only [Nat.add_zero] at y0
              have e0 : (C : Int) % 128 = (V : Int) := by have := HVe.out; omega
              go_wp2_with fail
              refine HEn.out.mono ?_
              rintro x w' ⟨⟨v, rfl, rfl⟩, hw⟩
              subst w'
              go_wp2
              exact bodyPost_ret (v := .tuple #[.int .i64 va, .int .i64 vb, .int .i64 vc]) (by simp [results, Tryd.results75, go_sem]) rfl ⟨key.out, rfl⟩
            · have h1' : (0 : Int) < (i : Int) := by omega
              have e0 : IntKind.u64.wrap ((C : Int) % 128 * 2 ^ (7 * i)) = (V : Int) := by
                have h2 : (C : Int) % 128 * 2 ^ (7 * i) = (V : Int) := by rw [HVe.out]; simp
                have h7 : (2 : Nat) ^ (7 * (i + 1)) ≤ 2 ^ 35 := Nat.pow_le_pow_right (by omega) (by omega)
                have h8 := Nat.lt_of_lt_of_le hV h7
                rw [h2, wrap_u64]; omega
              go_wp2_with fail
              refine HEn.out.mono ?_
              rintro x w' ⟨⟨v, rfl, rfl⟩, hw⟩
              subst w'
              go_wp2
              exact bodyPost_ret (v := .tuple #[.int .i64 va, .int .i64 vb, .int .i64 vc]) (by simp [results, Tryd.results75, go_sem]) rfl ⟨key.out, rfl⟩
          · have HEn := hid (HEn.out false (by simp [hC0]))
            have hC0' : ((C : Int) == 0) = false := by simpa using hC0
            by_cases hi0 : i = 0
            · subst hi0
              simp only [Nat.add_zero] at y0
              have e0 : (C : Int) % 128 = (V : Int) := by have := HVe.out; omega
              go_wp2_with fail
              refine HEn.out.mono ?_
              rintro x w' ⟨⟨v, rfl, rfl⟩, hw⟩
              subst w'
              go_wp2
              exact bodyPost_ret (v := .tuple #[.int .i64 va, .int .i64 vb, .int .i64 vc]) (by simp [results, Tryd.results75, go_sem]) rfl ⟨key.out, rfl⟩
            · have h1' : (0 : Int) < (i : Int) := by omega
              have e0 : IntKind.u64.wrap ((C : Int) % 128 * 2 ^ (7 * i)) = (V : Int) := by
                have h2 : (C : Int) % 128 * 2 ^ (7 * i) = (V : Int) := by rw [HVe.out]; simp
                have h7 : (2 : Nat) ^ (7 * (i + 1)) ≤ 2 ^ 35 := Nat.pow_le_pow_right (by omega) (by omega)
                have h8 := Nat.lt_of_lt_of_le hV h7
                rw [h2, wrap_u64]; omega
              go_wp2_with fail
              refine HEn.out.mono ?_
              rintro x w' ⟨⟨v, rfl, rfl⟩, hw⟩
              subst w'
              go_wp2
              exact bodyPost_ret (v := .tuple #[.int .i64 va, .int .i64 vb, .int .i64 vc]) (by simp [results, Tryd.results75, go_sem]) rfl ⟨key.out, rfl⟩
        · have eA := and128hi C hC2 hlt
          have HGh := hid (HGh.out hlt)
          clear HGl HG HZ hlt
          by_cases hi0 : i = 0
          · subst hi0
            simp only [Nat.add_zero] at y0
            have e0 : (C : Int) % 128 = (V : Int) := by have := HVe.out; omega
            go_wp2
            go_roundw
            case rel => exact ⟨0 + 1, U, by omega, rfl, rfl, HU.out, by first | rfl | trivial, HGh.out⟩
            case measure => first | (simp [intOf]; done) | (simp [intOf]; omega)
          · have e0 : IntKind.u64.wrap ((C : Int) % 128 * 2 ^ (7 * i)) = (V : Int) := by
              have h2 : (C : Int) % 128 * 2 ^ (7 * i) = (V : Int) := by rw [HVe.out]; simp
              have h7 : (2 : Nat) ^ (7 * (i + 1)) ≤ 2 ^ 35 := Nat.pow_le_pow_right (by omega) (by omega)
              have h8 := Nat.lt_of_lt_of_le hV h7
              rw [h2, wrap_u64]; omega
            go_wp2
            go_roundw
            case rel => exact ⟨i + 1, U, by omega, rfl, by go_num, HU.out, by first | rfl | trivial, HGh.out⟩
            case measure => first | (simp [intOf]; done) | (simp [intOf]; omega)
      · have hie : i = nn := by omega
        have him' : ¬ (i : Int) < (nn : Int) := by omega
        by_cases h5 : nn < 5
        · have h5' : (nn : Int) < 5 := by omega
          have HF : Hid (LeadP bound L (.returned (.tuple #[.int .i64 0, .int .i64 0, .int .i64 40]))) := by
            have h1 := HG.out
            rw [List.drop_of_length_le (by rw [← HNe.out]; omega), show 5 - i = (4 - i) + 1 by omega, numG_nil] at h1
            exact ⟨0, 0, 40, rfl, .inr ⟨by omega, rfl, rfl, by show numG bound 5 0 0 L = _; rw [← HZ.out, ← h1]⟩⟩
          clear hie
          go_wp2
          exact bodyPost_ret (v := .tuple #[.int .i64 0, .int .i64 0, .int .i64 40]) (by simp [results, Tryd.results75, go_sem]) rfl ⟨HF.out, rfl⟩
        · have h5' : ¬ (nn : Int) < 5 := by omega
          have HF : Hid (LeadP bound L (.returned (.tuple #[.int .i64 0, .int .i64 0, .int .i64 41]))) := by
            have h1 := HG.out
            rw [show 5 - i = 0 by omega] at h1
            exact ⟨0, 0, 41, rfl, .inr ⟨by omega, rfl, rfl, by show numG bound 5 0 0 L = _; rw [← HZ.out, ← h1]; rfl⟩⟩
          clear hie
          go_wp2
          exact bodyPost_ret (v := .tuple #[.int .i64 0, .int .i64 0, .int .i64 41]) (by simp [results, Tryd.results75, go_sem]) rfl ⟨HF.out, rfl⟩
set_option maxHeartbeats 1000000 in
theorem wpNumber_any (u : Nat) (hu : u < 34359738368) (base : Nat) (w : World) (v : Value) (zs : List Int) (hv : OwnBy base w v zs) (hb : base ≤ w.heap.size) (hz : zs.length ≤ 100000000) :
    Calls Tryd.prog 70 #[v, .int .i64 u] w fun e w' => EPost base w (zs ++ grpB u) e w' := by
  obtain ⟨i0, Kd⟩ := kindB
  have hul : (grpB u).length ≤ 10 := grpB_len 9 u (Nat.lt_of_lt_of_le hu (by decide))
  have HU : Hid ((grpB u).length ≤ 10) := hul
  have HV := hid hv
  clear hv hul
  go_enter Tryd.func70, Tryd.ntmps70
  go_wp2_with fail
  go_loopw [0, 1] (fun v x wr => ∃ (ys : List Int) (m : Nat), x = .int .i64 (m : Int) ∧ m < 34359738368 ∧ LayB base w (zs ++ ys) v wr ∧ ys ++ grpB m = grpB u) (fun _ x _ => (intOf x).toNat)
  case atStart => exact ⟨[], u, rfl, hu, by simpa using LayB.refl HV.out, rfl⟩
  case round =>
    obtain ⟨ys, m, rfl, hm, hO, hg⟩ := hrel
    have hyl : ys.length ≤ 10 := by
      have h1 := HU.out
      rw [← hg, List.length_append] at h1
      omega
    have hsw := hO.bel.size
    have hzl : (zs ++ ys).length ≤ 100000010 := by rw [List.length_append]; omega
    have HG := hid hg
    obtain ⟨L, hL⟩ : ∃ L, L = zs ++ ys := ⟨_, rfl⟩
    rw [← hL] at hO hzl
    have HL := hid hL
    have HO := hid hO
    have hrow : wr.ownsRow base 5 1 u0 L.length (L.map (Value.int .u8)) := hO.own
    clear hO hg hL
    by_cases hs : m < 128
    · have hs' : ¬ (128 : Int) ≤ (m : Int) := by omega
      have e1 : (m : Int) % 256 = (m : Int) := by omega
      go_wp2_with (at_builtin; refine wpList_app rfl (.tmp 15) (.tmp 18) 36 5 i0 _ 1 1 Kd rfl base u0 L.length _ rfl (hrow.alloc _) ⟨wr.heap.size, 0, none⟩ 1 1 [.int .u8 (m : Int)] rfl rfl (cell_one_new _ _ _) (one8 _) (by omega) (by omega) (by simp; omega) ?_)
      intro v3 w3 ho3 hg3 hn3
      have HF := hid (HO.out.one (by omega) ho3 hg3)
      clear ho3 hg3 hn3 hrow
      go_wp2
      go_ret
      refine ⟨_, rfl, ?_⟩
      have e : zs ++ grpB u = L ++ [(m : Int)] := by rw [← HG.out, grpB_small hs, HL.out, List.append_assoc]
      rw [e]
      exact HF.out
    · have hs' : (128 : Int) ≤ (m : Int) := by omega
      have e2 : bits BinOp.or IntKind.u8 ((m : Int) % 256) 128 = ((m % 128 + 128 : Nat) : Int) := by
        have h := bits_or128 m
        rw [show ((m % 256 : Nat) : Int) = (m : Int) % 256 by omega] at h
        exact h
      go_wp2_with (at_builtin; refine wpList_app rfl (.tmp 7) (.tmp 11) 36 5 i0 _ 1 1 Kd rfl base u0 L.length _ rfl (hrow.alloc _) ⟨wr.heap.size, 0, none⟩ 1 1 [.int .u8 ((m : Int) % 128 + 128)] rfl rfl (cell_one_new _ _ _) (one8 _) (by omega) (by omega) (by simp; omega) ?_)
      intro v3 w3 ho3 hg3 hn3
      have HF := hid (HO.out.one (by omega) ho3 hg3)
      clear ho3 hg3 hn3 hrow e2
      go_wp2
      go_roundw
      case rel =>
        have e3 : ((m % 128 + 128 : Nat) : Int) = (m : Int) % 128 + 128 := by omega
        refine ⟨ys ++ [(m : Int) % 128 + 128], m / 128, ?_, by omega, by rw [← List.append_assoc, ← HL.out]; exact HF.out, ?_⟩
        · go_num
        · rw [List.append_assoc, List.singleton_append, ← e3, ← grpB_great hs]; exact HG.out
      case measure => simp [intOf]; omega
/-- the bytes are read back, whole; cut short they are refused, never for what follows them -/
structure Back {α : Type} (s : RS α) (B : List Int) (Q : α → Prop) : Prop where
  whole : ∀ R, ∃ y, s (B ++ R) = .ok (y, R) ∧ Q y
  short : ∀ A C, B = A ++ C → C ≠ [] → ∃ e, s A = .error e ∧ e ≠ 0 ∧ e ≠ 44
theorem back_numG (bound : Nat) : ∀ k i u j, u < 2 ^ (7 * i) → (0 < i → 1 ≤ j) → u + j * 2 ^ (7 * i) ≤ bound → j < 128 ^ (k + 1) → Back (numG bound (k + 1) i u) (grpB j) (· = u + j * 2 ^ (7 * i)) := by
  intro k
  induction k with
  | zero =>
    intro i u j hu hi hb hj
    have hj : j < 128 := by simpa using hj
    have hm : u ||| j % 128 * 2 ^ (7 * i) = u + j * 2 ^ (7 * i) := by rw [Nat.mod_eq_of_lt hj, or_plus hu]
    rw [grpB_small hj]
    refine ⟨fun R => ⟨_, ?_, rfl⟩, fun A C hA hC => ⟨40, ?_, by decide, by decide⟩⟩
    · rw [List.singleton_append, numG_lo hj, hm]
      unfold endS
      rw [if_neg (by simp; omega), if_neg (by omega)]
      rfl
    · cases A with
      | nil => exact numG_nil ..
      | cons a A =>
        simp only [List.cons_append, List.cons.injEq] at hA
        exact absurd (List.append_eq_nil_iff.1 hA.2.symm).2 hC
  | succ k ih =>
    intro i u j hu hi hb hj
    by_cases hs : j < 128
    · have hm : u ||| j % 128 * 2 ^ (7 * i) = u + j * 2 ^ (7 * i) := by rw [Nat.mod_eq_of_lt hs, or_plus hu]
      rw [grpB_small hs]
      refine ⟨fun R => ⟨_, ?_, rfl⟩, fun A C hA hC => ⟨40, ?_, by decide, by decide⟩⟩
      · rw [List.singleton_append, numG_lo hs, hm]
        unfold endS
        rw [if_neg (by simp; omega), if_neg (by omega)]
        rfl
      · cases A with
        | nil => exact numG_nil ..
        | cons a A =>
          simp only [List.cons_append, List.cons.injEq] at hA
          exact absurd (List.append_eq_nil_iff.1 hA.2.symm).2 hC
    · have hp : 0 < 2 ^ (7 * i) := Nat.two_pow_pos _
      have hq : j % 128 * 2 ^ (7 * i) ≤ 127 * 2 ^ (7 * i) := Nat.mul_le_mul (by omega) (Nat.le_refl _)
      have e1 : j / 128 * (128 * 2 ^ (7 * i)) = (128 * (j / 128)) * 2 ^ (7 * i) := by rw [← Nat.mul_assoc, Nat.mul_comm (j / 128) 128]
      have e2 : j * 2 ^ (7 * i) = (128 * (j / 128)) * 2 ^ (7 * i) + j % 128 * 2 ^ (7 * i) := by
        rw [← Nat.add_mul]
        congr 1
        omega
      have hv : u + j % 128 * 2 ^ (7 * i) + j / 128 * 2 ^ (7 * (i + 1)) = u + j * 2 ^ (7 * i) := by
        rw [pow7, e1, e2]
        omega
      have hu2 : u + j % 128 * 2 ^ (7 * i) < 2 ^ (7 * (i + 1)) := by
        rw [pow7]
        omega
      have hlt : j / 128 < 128 ^ (k + 1) := by
        rw [Nat.pow_succ] at hj
        exact Nat.div_lt_of_lt_mul (by rw [Nat.mul_comm]; exact hj)
      have H := ih (i + 1) (u + j % 128 * 2 ^ (7 * i)) (j / 128) hu2 (fun _ => by omega) (by rw [hv]; exact hb) hlt
      rw [hv] at H
      have hc : ¬ (j % 128 + 128) < 128 := by omega
      have hm : (j % 128 + 128) % 128 = j % 128 := by omega
      rw [grpB_great hs]
      refine ⟨fun R => ?_, fun A C hA hC => ?_⟩
      · obtain ⟨y, h1, h2⟩ := H.whole R
        refine ⟨y, ?_, h2⟩
        rw [List.cons_append, numG_hi hc, hm, or_plus hu]
        exact h1
      · cases A with
        | nil => exact ⟨40, numG_nil .., by decide, by decide⟩
        | cons a A =>
          simp only [List.cons_append, List.cons.injEq] at hA
          obtain ⟨e, h1, h2⟩ := H.short A C hA.2 hC
          refine ⟨e, ?_, h2⟩
          rw [← hA.1, numG_hi hc, hm, or_plus hu]
          exact h1
theorem back_num {bound m : Nat} (h : m ≤ bound) (hm : m < 34359738368) : Back (numS bound) (grpB m) (· = m) := by
  have := back_numG bound 4 0 0 m (by decide) (fun h => absurd h (by decide)) (by simpa using h) (Nat.lt_of_lt_of_le hm (by decide))
  simpa [numS] using this
end Go.Proofs.YtgnamngnmbaeeaaDoor
