import Derived.Test.YtgnamngnmbaeeaaDoorPack21
import Derived.Lib.ConvBytes
import Derived.Lib.Strings
namespace Go.Proofs.YtgnamngnmbaeeaaDoor
open Go.RowKit
set_option maxRecDepth 8000
/-- each block has a colour: whose it is -/
def Zc (w : World) (C : Nat → Nat) (c : Nat) (k : Nat) : Prop := k < w.heap.size ∧ C k ≠ c
/-- all that is new is of colour c -/
def upC (w : World) (C : Nat → Nat) (c : Nat) (k : Nat) : Nat := if k < w.heap.size then C k else c
theorem upC_old {w : World} {C : Nat → Nat} {c k : Nat} (h : k < w.heap.size) : upC w C c k = C k := if_pos h
theorem upC_new {w : World} {C : Nat → Nat} {c k : Nat} (h : w.heap.size ≤ k) : upC w C c k = c := if_neg (by omega)
theorem zc_lt {w : World} {C : Nat → Nat} {c : Nat} : ∀ k, Zc w C c k → k < w.heap.size := fun _ h => h.1
/-- whose the new blocks are, he sees them as his -/
theorem zc_own {w w' : World} {C : Nat → Nat} {c k : Nat} (h : Zc w' (upC w C c) c k) : Zc w C c k := by
  by_cases hk : k < w.heap.size
  · exact ⟨hk, by have := h.2; rw [upC_old hk] at this; exact this⟩
  · exact absurd (upC_new (by omega)) h.2
theorem zc_old {w w' : World} {C : Nat → Nat} {c d k : Nat} (hk : k < w.heap.size) (h : Zc w' (upC w C c) d k) : Zc w C d k := ⟨hk, by have := h.2; rw [upC_old hk] at this; exact this⟩
theorem fr_but {w w' : World} {C : Nat → Nat} {c d : Nat} (h : Fr (Zc w C c) w w') (hd : d ≠ c) : But (Zc w C d) w w' :=
  But.mono h fun k hk hn => ⟨hk, fun e => hn ⟨hk, by rw [e]; exact hd⟩⟩
/-- a line: the two ends, the pools, what was put -/
structure LS where
  A : SA
  R : RA
  D : List (List Int)
  N : List (List Int)
  P : List (List Int)
  gv : Nat
  td : Int
  ws : List Int
  wd : Int
  dn : Int
/-- a row of numbers of colour c -/
structure IRow (w : World) (C : Nat → Nat) (c : Nat) (v : Value) (l : List Int) : Prop where
  row : w.ownsRow 0 3 1 v l.length (l.map (Value.int .i64))
  col : ∀ g, v.ownBlock = some g → C g = c
theorem IRow.but {w w' : World} {C C' : Nat → Nat} {c : Nat} {v : Value} {l : List Int} (h : IRow w C c v l) (hb : But (Zc w C c) w w') (hc : ∀ k, k < w.heap.size → C' k = C k) : IRow w' C' c v l :=
  ⟨ownsRow_keep h.row fun g hg hl => hb.block g hl fun e => e.2 (h.col g hg), fun g hg => by rw [hc g (h.row.lt g hg).2]; exact h.col g hg⟩
structure LM (w : World) (C : Nat → Nat) (c lb sb rb : Nat) (dv nv bv pv wv : Value) (D N P : List BS) (S : LS) : Prop where
  bx : Box w lb #[.pointer (some ⟨sb, 0, none⟩), .pointer (some ⟨rb, 0, none⟩), dv, nv, bv, pv, .int .i64 (S.gv : Int), .int .i64 S.td, wv, .int .i64 S.wd, .int .i64 S.dn] 34
  cl : C lb = c
  s : SndI w (Zc w C (c + 1)) sb S.A
  r : RcvI w (Zc w C (c + 2)) rb S.R
  d : Rw w (Zc w C (c + 3)) dv D
  n : Rw w (Zc w C (c + 4)) nv N
  p : Rw w (Zc w C (c + 5)) pv P
  w : IRow w C (c + 6) wv S.ws
  hd : D.map BS.zs = S.D
  hn : N.map BS.zs = S.N
  hp : P.map BS.zs = S.P
def LI (w : World) (C : Nat → Nat) (c lb : Nat) (S : LS) : Prop := ∃ sb rb dv nv bv pv wv D N P, LM w C c lb sb rb dv nv bv pv wv D N P S
/-- what a step of the line may touch -/
def In8 (C : Nat → Nat) (c : Nat) (k : Nat) : Prop := c ≤ C k ∧ C k ≤ c + 7
/-- what a step of the line may change of what there was -/
def In7 (C : Nat → Nat) (c : Nat) (k : Nat) : Prop := c ≤ C k ∧ C k ≤ c + 6
def LQ (w : World) (C : Nat → Nat) (c lb : Nat) (S : LS) (w' : World) : Prop := ∃ C', LI w' C' c lb S ∧ (∀ k, k < w.heap.size → C' k = C k) ∧ (∀ k, w.heap.size ≤ k → In8 C' c k) ∧ But (In7 C c) w w'
theorem LQ.refl {w : World} {C : Nat → Nat} {c lb : Nat} {S : LS} (h : LI w C c lb S) (hc : ∀ k, w.heap.size ≤ k → In8 C c k) : LQ w C c lb S w := ⟨C, h, fun _ _ => rfl, hc, But.refl _ _⟩
/-- the line when others write -/
theorem LM.but {w w' : World} {C C' : Nat → Nat} {c lb sb rb : Nat} {dv nv bv pv wv : Value} {D N P : List BS} {S : LS} (h : LM w C c lb sb rb dv nv bv pv wv D N P S) (hb : But (fun k => ¬ In8 C c k) w w') (hc : ∀ k, k < w.heap.size → C' k = C k) : LM w' C' c lb sb rb dv nv bv pv wv D N P S := by
  have hbd : ∀ d, c ≤ d → d ≤ c + 7 → But (Zc w C d) w w' := fun d h1 h2 => hb.mono fun k hk hn => ⟨hk, fun e => hn (by unfold In8; omega)⟩
  have hz : ∀ d k, k < w.heap.size → Zc w' C' d k → Zc w C d k := fun d k hk e => ⟨hk, by rw [← hc k hk]; exact e.2⟩
  refine ⟨h.bx.but hb fun e => e (by have := h.cl; unfold In8; omega), by rw [hc lb h.bx.lt]; exact h.cl, h.s.but (hbd _ (by omega) (by omega)) (hz _), h.r.but (hbd _ (by omega) (by omega)) (hz _), h.d.but (hbd _ (by omega) (by omega)) (hz _), h.n.but (hbd _ (by omega) (by omega)) (hz _), h.p.but (hbd _ (by omega) (by omega)) (hz _), h.w.but (hbd _ (by omega) (by omega)) hc, h.hd, h.hn, h.hp⟩
theorem LI.but {w w' : World} {C C' : Nat → Nat} {c lb : Nat} {S : LS} (h : LI w C c lb S) (hb : But (fun k => ¬ In8 C c k) w w') (hc : ∀ k, k < w.heap.size → C' k = C k) : LI w' C' c lb S := by
  obtain ⟨sb, rb, dv, nv, bv, pv, wv, D, N, P, h⟩ := h
  exact ⟨sb, rb, dv, nv, bv, pv, wv, D, N, P, h.but hb hc⟩
/-- a step of one of its parts -/
theorem LM.part {w w' : World} {C : Nat → Nat} {c lb sb rb : Nat} {dv nv bv pv wv : Value} {D N P : List BS} {S : LS} (h : LM w C c lb sb rb dv nv bv pv wv D N P S) {d : Nat} (hd : d ≠ 0 ∧ d ≤ 6) (hb : Fr (Zc w C (c + d)) w w')
    (A' : SA) (R' : RA) (hs : d = 1 → SndI w' (Zc w C (c + 1)) sb A') (hs' : d ≠ 1 → A' = S.A) (hr : d = 2 → RcvI w' (Zc w C (c + 2)) rb R') (hr' : d ≠ 2 → R' = S.R) (h3 : d ≠ 3) (h4 : d ≠ 4) (h5 : d ≠ 5) (h6 : d ≠ 6) :
    LM w' (upC w C (c + d)) c lb sb rb dv nv bv pv wv D N P { S with A := A', R := R' } ∧ (∀ k, k < w.heap.size → upC w C (c + d) k = C k) ∧ (∀ k, w.heap.size ≤ k → In8 (upC w C (c + d)) c k) ∧ But (In7 C c) w w' := by
  have hbd : ∀ e, e ≠ d → But (Zc w C (c + e)) w w' := fun e he => fr_but hb (by omega)
  have hz : ∀ e, ∀ k, k < w.heap.size → Zc w' (upC w C (c + d)) e k → Zc w C e k := fun e k hk => zc_old hk
  refine ⟨⟨h.bx.but (hbd 0 (by omega)) fun e => e.2 (by rw [h.cl]; rfl), by rw [upC_old h.bx.lt]; exact h.cl, ?_, ?_, h.d.but (hbd 3 (by omega)) (hz _), h.n.but (hbd 4 (by omega)) (hz _), h.p.but (hbd 5 (by omega)) (hz _), h.w.but (hbd 6 (by omega)) fun k hk => upC_old hk, h.hd, h.hn, h.hp⟩, fun k hk => upC_old hk, fun k hk => ?_, But.mono hb fun k hk hn => ?_⟩
  · by_cases hd1 : d = 1
    · have h1 := hs hd1
      exact h1.z fun k hk hz2 => by rw [hd1] at hz2; exact zc_own hz2
    · rw [hs' hd1]; exact h.s.but (hbd 1 (by omega)) (hz _)
  · by_cases hd1 : d = 2
    · have h1 := hr hd1
      exact h1.z fun k hk hz2 => by rw [hd1] at hz2; exact zc_own hz2
    · rw [hr' hd1]; exact h.r.but (hbd 2 (by omega)) (hz _)
  · unfold In8; rw [upC_new hk]; omega
  · unfold In7
    have : C k = c + d := by
      by_cases e : C k = c + d
      · exact e
      · exact absurd ⟨hk, e⟩ hn
    omega
end Go.Proofs.YtgnamngnmbaeeaaDoor

namespace Go.Proofs.YtgnamngnmbaeeaaDoor
open Go.RowKit
set_option maxRecDepth 8000
def fairL (l : Int) : Int := if l < 0 ∨ 24 ≤ l then 0 else l
def fairW (n : Int) : Int := if n < 1 ∨ 16 < n then 2 else n
theorem fairL_c (l : Int) : (l < 0 ∧ fairL l = 0) ∨ (¬ l < 0 ∧ 24 ≤ l ∧ fairL l = 0) ∨ (¬ l < 0 ∧ ¬ 24 ≤ l ∧ fairL l = l) := by
  unfold fairL
  by_cases h1 : l < 0
  · exact .inl ⟨h1, if_pos (.inl h1)⟩
  · by_cases h2 : 24 ≤ l
    · exact .inr (.inl ⟨h1, h2, if_pos (.inr h2)⟩)
    · exact .inr (.inr ⟨h1, h2, if_neg (by omega)⟩)
theorem fairW_c (l : Int) : (l < 1 ∧ fairW l = 2) ∨ (¬ l < 1 ∧ 16 < l ∧ fairW l = 2) ∨ (¬ l < 1 ∧ ¬ 16 < l ∧ fairW l = l) := by
  unfold fairW
  by_cases h1 : l < 1
  · exact .inl ⟨h1, if_pos (.inl h1)⟩
  · by_cases h2 : 16 < l
    · exact .inr (.inl ⟨h1, h2, if_pos (.inr h2)⟩)
    · exact .inr (.inr ⟨h1, h2, if_neg (by omega)⟩)
theorem fair_fine (l n : Int) : fineE (fairL l) (fairW n) := by
  have h1 := fairL_c l
  have h2 := fairW_c n
  unfold fineE
  omega
theorem fair_any (l n m : Int) (w : World) : Calls Tryd.prog 17 #[.int .i64 l, .int .i64 n, .int .i64 m] w fun e w' => e = .returned (.tuple #[.int .i64 (fairL l), .int .i64 (fairW n), .int .i64 (fairW m)]) ∧ w' = w := by
  have h1 := fairL_c l
  have h2 := fairW_c n
  have h3 := fairW_c m
  obtain ⟨fl, hfl⟩ : ∃ x, x = fairL l := ⟨_, rfl⟩
  obtain ⟨fn, hfn⟩ : ∃ x, x = fairW n := ⟨_, rfl⟩
  obtain ⟨fm, hfm⟩ : ∃ x, x = fairW m := ⟨_, rfl⟩
  rw [← hfl] at h1 ⊢
  rw [← hfn] at h2 ⊢
  rw [← hfm] at h3 ⊢
  clear hfl hfn hfm
  rcases h1 with ⟨a1, a3⟩ | ⟨a1, a2, a3⟩ | ⟨a1, a2, a3⟩ <;> subst a3 <;> rcases h2 with ⟨b1, b3⟩ | ⟨b1, b2, b3⟩ | ⟨b1, b2, b3⟩ <;> subst b3 <;> rcases h3 with ⟨c1, c3⟩ | ⟨c1, c2, c3⟩ | ⟨c1, c2, c3⟩ <;> subst c3 <;> (go_enter Tryd.func17, Tryd.ntmps17; go_wp2; exact bodyPost_ret (v := .tuple #[_, _, _]) (by simp [results, Tryd.results17, go_sem]) rfl ⟨rfl, rfl⟩)
/-- bytes as a text -/
def strY (zs : List Int) : ByteArray := zs.foldl (fun r n => r.push (UInt8.ofNat n.toNat)) ByteArray.empty
theorem strY_dat (zs : List Int) : (strY zs).data.toList = zs.map fun n => UInt8.ofNat n.toNat := by
  have h : ∀ (zs : List Int) (r : ByteArray), (zs.foldl (fun r n => r.push (UInt8.ofNat n.toNat)) r).data.toList = r.data.toList ++ zs.map fun n => UInt8.ofNat n.toNat := by
    intro zs
    induction zs with
    | nil => intro r; simp
    | cons z zs ih =>
      intro r
      rw [List.foldl_cons, ih]
      simp [ByteArray.push]
  have := h zs ByteArray.empty
  exact this.trans (List.nil_append _)
theorem strY_inj {xs ys : List Int} (hx : ∀ z ∈ xs, 0 ≤ z ∧ z < 256) (hy : ∀ z ∈ ys, 0 ≤ z ∧ z < 256) (h : strY xs = strY ys) : xs = ys := by
  have h1 : xs.map (fun n => UInt8.ofNat n.toNat) = ys.map fun n => UInt8.ofNat n.toNat := by rw [← strY_dat, ← strY_dat, h]
  clear h
  induction xs generalizing ys with
  | nil => cases ys with
    | nil => rfl
    | cons y ys => simp at h1
  | cons x xs ih =>
    cases ys with
    | nil => simp at h1
    | cons y ys =>
      simp only [List.map_cons, List.cons.injEq] at h1
      obtain ⟨h2, h3⟩ := h1
      have hxx := hx x List.mem_cons_self
      have hyy := hy y List.mem_cons_self
      have h4 : x = y := by
        have h5 := congrArg UInt8.toNat h2
        simp only [UInt8.toNat_ofNat'] at h5
        omega
      rw [h4, ih (fun z hz => hx z (List.mem_cons_of_mem _ hz)) (fun z hz => hy z (List.mem_cons_of_mem _ hz)) h3]
theorem conv_bs {w : World} {S : Nat → Prop} {x : BS} (hx : x.In w S) : (convert 36 9 x.val).run Tryd.prog w = .ok (.string (strY x.zs)) w := by
  have h := hx.bsrc
  obtain ⟨p, c, zs⟩ := x
  dsimp only [BS.val] at h ⊢
  rw [run_convert_bytes_string (P := Tryd.prog) w 36 9 5 _ _ _ Tryd.underlying36 Tryd.underlying5 Tryd.underlying9]
  rcases h with ⟨rfl, h0, rfl, _⟩ | ⟨ad, rfl, _, hc⟩
  · obtain rfl : zs = [] := List.eq_nil_of_length_eq_zero h0
    rfl
  · have hl := run_loadCells_list (P := Tryd.prog) (w := w) ad (zs.map (Value.int .u8)) hc
    rw [List.length_map] at hl
    exact run_bytesToString w ad zs.length c zs hl
set_option maxHeartbeats 4000000 in
theorem sameB_any (x y : BS) (w : World) (S S' : Nat → Prop) (hx : x.In w S) (hy : y.In w S') : Calls Tryd.prog 22 #[x.val, y.val] w fun e w' => e = .returned (.bool (decide (x.zs = y.zs))) ∧ w' = w := by
  have h1 := conv_bs hx
  have h2 := conv_bs hy
  obtain ⟨B, hB⟩ : ∃ B, B = decide (x.zs = y.zs) := ⟨_, rfl⟩
  obtain ⟨s, hs⟩ : ∃ s, s = strY x.zs := ⟨_, rfl⟩
  obtain ⟨t, ht⟩ : ∃ t, t = strY y.zs := ⟨_, rfl⟩
  have hd : (s.toList == t.toList) = B := by
    rw [hB, hs, ht]
    by_cases e : x.zs = y.zs
    · rw [e]; simp
    · rw [decide_eq_false e]
      refine beq_eq_false_iff_ne.2 fun h => e (strY_inj hx.byte hy.byte ?_)
      rw [Go.Lib.toList_data, Go.Lib.toList_data] at h
      exact ByteArray.ext (Array.toList_inj.1 h)
  rw [← hs] at h1
  rw [← ht] at h2
  rw [← hB]
  obtain ⟨xv, hxv⟩ : ∃ v, v = x.val := ⟨_, rfl⟩
  obtain ⟨yv, hyv⟩ : ∃ v, v = y.val := ⟨_, rfl⟩
  rw [← hxv] at h1 ⊢
  rw [← hyv] at h2 ⊢
  clear hx hy hB hs ht hxv hyv
  go_enter Tryd.func22, Tryd.ntmps22
  go_wp2
  exact bodyPost_ret (v := .bool B) (by simp [results, Tryd.results22, go_sem]) rfl ⟨rfl, rfl⟩
end Go.Proofs.YtgnamngnmbaeeaaDoor

namespace Go.Proofs.YtgnamngnmbaeeaaDoor
open Go.RowKit
set_option maxRecDepth 8000
/-- the line at its beginning -/
def ls0 (l n m : Int) : LS := ⟨⟨(fairL l).toNat, (fairW n).toNat, 0, [], 0⟩, ⟨(fairL l).toNat, (fairW m).toNat, 1, [], [], 0⟩, [], [], [], 0, 0, [0], 0, 0⟩
def BegQ (l n m : Int) (w : World) (e : Ending) (w' : World) : Prop :=
  ∃ lb, e = .returned (.pointer (some ⟨lb, 0, none⟩)) ∧ w.heap.size ≤ lb ∧ Below w.heap.size w w' ∧ ∀ (C : Nat → Nat) (c : Nat), ∃ C', LI w' C' c lb (ls0 l n m) ∧ (∀ k, k < w.heap.size → C' k = C k) ∧ ∀ k, w.heap.size ≤ k → In8 C' c k
set_option maxHeartbeats 8000000 in
theorem begin_any (l n m : Int) (w : World) : Calls Tryd.prog 7 #[.int .i64 l, .int .i64 n, .int .i64 m] w fun e w' => BegQ l n m w e w' := by
  have HFa := hid (fair_any l n m w)
  have HNs := hid (newSnd_any (fairL l) (fairW n) w)
  go_enter Tryd.func7, Tryd.ntmps7
  go_wp2_with fail
  refine HFa.out.mono ?_
  rintro e w0 ⟨rfl, rfl⟩
  clear HFa
  go_wp2_with fail
  refine HNs.out.mono ?_
  rintro e w1 ⟨hs, _⟩
  obtain ⟨sb, hsb, rfl, hb1, hS⟩ := hs (fair_fine l n)
  have HSb := hid hsb
  have HB1 := hid hb1
  have HS := hid hS
  have HNr := hid (newRcv_any (fairL l) (fairW m) w1)
  clear hs hsb hb1 hS HNs
  go_wp2_with fail
  refine HNr.out.mono ?_
  rintro e w2 ⟨hs, _⟩
  obtain ⟨rb, hrb, rfl, hb2, hR⟩ := hs (fair_fine l m)
  have HRb := hid hrb
  have HB2 := hid hb2
  have HR := hid hR
  clear hs hrb hb2 hR HNr
  go_upto_region 6 with fail
  go_wp2
  obtain ⟨V3, hV3⟩ : ∃ V, V = w2.alloc (.cells #[.int .i64 0] 3) := ⟨_, rfl⟩
  obtain ⟨ib, hib⟩ : ∃ ib, ib = w2.heap.size := ⟨_, rfl⟩
  obtain ⟨V4, hV4⟩ : ∃ V, V = V3.alloc (.cells #[.pointer (some ⟨sb, 0, none⟩), .pointer (some ⟨rb, 0, none⟩), .slice none 0 0, .slice none 0 0, .slice none 0 0, .slice none 0 0, .int .i64 0, .int .i64 0, .slice (some ⟨ib, 0, none⟩) 1 1, .int .i64 0, .int .i64 0] 34) := ⟨_, rfl⟩
  have HQ : Hid (BegQ l n m w0 (.returned (.pointer (some ⟨w2.heap.size + 1, 0, none⟩))) V4) := by
    have hX3 : Box V3 ib #[.int .i64 0] 3 := by rw [hV3, hib]; exact Box.new _ _ _
    have hs3 : V3.heap.size = ib + 1 := by rw [hV3, hib]; simp
    have hs4 : V4.heap.size = ib + 2 := by rw [hV4]; simp [hs3]
    have hb3 : Below w2.heap.size w2 V3 := by rw [hV3]; exact (Below.refl _ _).alloc (Nat.le_refl _) _
    have hb34 : Below V3.heap.size V3 V4 := by rw [hV4]; exact (Below.refl _ _).alloc (Nat.le_refl _) _
    have hb24 : Below w2.heap.size w2 V4 := hb3.trans (hb34.mono hb3.size)
    have hX4 : Box V4 (ib + 1) #[.pointer (some ⟨sb, 0, none⟩), .pointer (some ⟨rb, 0, none⟩), .slice none 0 0, .slice none 0 0, .slice none 0 0, .slice none 0 0, .int .i64 0, .int .i64 0, .slice (some ⟨ib, 0, none⟩) 1 1, .int .i64 0, .int .i64 0] 34 := by rw [hV4, ← hs3]; exact Box.new _ _ _
    have hXi : Box V4 ib #[.int .i64 0] 3 := hX3.below hb34
    have h1 := HB1.out.size
    have h2 := HB2.out.size
    have hb14 : Below w1.heap.size w1 V4 := HB2.out.trans (hb24.mono h2)
    refine ⟨ib + 1, by rw [hib], by omega, HB1.out.trans (hb14.mono h1), fun C c => ?_⟩
    obtain ⟨C', hC⟩ : ∃ C' : Nat → Nat, C' = fun k => if k < w0.heap.size then C k else if k < w1.heap.size then c + 1 else if k < ib then c + 2 else if k = ib then c + 6 else if k = ib + 1 then c else c + 7 := ⟨_, rfl⟩
    have c0 : ∀ k, k < w0.heap.size → C' k = C k := fun k hk => by rw [hC]; exact if_pos hk
    have c1 : ∀ k, w0.heap.size ≤ k → k < w1.heap.size → C' k = c + 1 := fun k hk hl => by rw [hC]; show (if _ then _ else _) = _; rw [if_neg (by omega), if_pos hl]
    have c2 : ∀ k, w1.heap.size ≤ k → k < ib → C' k = c + 2 := fun k hk hl => by rw [hC]; show (if _ then _ else _) = _; rw [if_neg (by omega), if_neg (by omega), if_pos hl]
    have c6 : C' ib = c + 6 := by rw [hC]; show (if _ then _ else _) = _; rw [if_neg (by omega), if_neg (by omega), if_neg (by omega), if_pos rfl]
    have c7 : C' (ib + 1) = c := by rw [hC]; show (if _ then _ else _) = _; rw [if_neg (by omega), if_neg (by omega), if_neg (by omega), if_neg (by omega), if_pos rfl]
    refine ⟨C', ⟨sb, rb, .slice none 0 0, .slice none 0 0, .slice none 0 0, .slice none 0 0, .slice (some ⟨ib, 0, none⟩) 1 1, [], [], [], ?_⟩, c0, fun k hk => ?_⟩
    · refine ⟨hX4, c7, ?_, ?_, Rw.nil _ _, Rw.nil _ _, Rw.nil _ _, ⟨⟨rfl, .inr ⟨ib, 1, #[.int .i64 0], rfl, Nat.zero_le _, hXi, Nat.le_refl _, by unfold maxLen; omega, rfl, rfl⟩⟩, fun g hg => by have e : some ib = some g := hg; injection e with e; rw [← e]; exact c6⟩, rfl, rfl, rfl⟩
      · refine (HS.out (fun k => k < w0.heap.size) fun _ h => h).below hb14 fun k hk hz => ?_
        rcases Nat.lt_or_ge k w0.heap.size with h | h
        · exact h
        · exact absurd (c1 k h hk) hz.2
      · refine (HR.out (fun k => k < w1.heap.size) fun _ h => h).below hb24 fun k hk hz => ?_
        rcases Nat.lt_or_ge k w1.heap.size with h | h
        · exact h
        · exact absurd (c2 k h (by omega)) hz.2
    · unfold In8
      rcases Nat.lt_or_ge k w1.heap.size with h | h
      · rw [c1 k hk h]; omega
      · rcases Nat.lt_or_ge k ib with h3 | h3
        · rw [c2 k h h3]; omega
        · by_cases h4 : k = ib
          · rw [h4, c6]; omega
          · by_cases h5 : k = ib + 1
            · rw [h5, c7]; omega
            · have : C' k = c + 7 := by rw [hC]; show (if _ then _ else _) = _; rw [if_neg (by omega), if_neg (by omega), if_neg (by omega), if_neg (by omega), if_neg (by omega)]
              omega
  rw [hV3, hib] at hV4
  rw [← hV4]
  clear hV3 hib hV4
  exact bodyPost_ret (v := .pointer (some ⟨w2.heap.size + 1, 0, none⟩)) (by simp [results, Tryd.results7, go_sem]) rfl HQ.out
end Go.Proofs.YtgnamngnmbaeeaaDoor
