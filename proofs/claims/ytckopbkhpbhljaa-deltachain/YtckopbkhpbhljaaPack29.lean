import Derived.Test.YtckopbkhpbhljaaPack16
import Derived.Test.YtckopbkhpbhljaaPack28
import Derived.Test.YtckopbkhpbhljaaPack27
import Derived.Test.YtckopbkhpbhljaaDlR
namespace Go.Proofs.Ytckopbkhpbhljaa
open Go.RowKit
set_option maxRecDepth 8000
theorem ST.ofLT0 {w : World} {S : Nat → Prop} {l : LT VT} (h : LT.In elCell w S l) : ST.In w S ⟨0, l.p, l.n, l.c, l.item⟩ := by
  refine ⟨fun hn => ?_, h.each, h.nc, h.nn, h.cc, (by show (-9223372036854775808 : Int) ≤ 0; omega), (by show (0 : Int) ≤ 9223372036854775807; omega)⟩
  obtain ⟨b, o, e, hS, hl, ha⟩ := h.at_ hn
  exact ⟨b, o, e, hS, hl, fun j hj => ⟨ha j hj 0 _ rfl, ha j hj 1 _ rfl⟩⟩
def LT.totC (l : LT VT) : Nat := ST.total ⟨0, l.p, l.n, l.c, l.item⟩
theorem Told.neg {l : Int} (k : Nat) (h : l < 0) (h1 : -1000000000000000 ≤ l) : Told l l k := ⟨fun h0 => absurd h0 (by omega), Int.le_refl _, h1⟩
theorem Told.two {l m q : Int} {j k : Nat} (h : Told l m j) (g : Told m q k) : Told l q (j + k) :=
  ⟨fun h0 => by have a := g.ok h0; have b := h.ok a.1; exact ⟨b.1, by omega⟩, by have := h.le; have := g.le; omega, g.low⟩
set_option maxHeartbeats 1000000 in
theorem szCells_neg (q : LT VT) (w : World) (b : Nat) (l : Int) (hn : q.n ≤ 140737488355328) (hb : Box w b #[.int .i64 l] 95) (hl : l < 0) :
    Calls Try.prog 29 #[.pointer (some ⟨b, 0, none⟩), .slice q.p q.n q.c] w fun e w' => e = .returned (.tuple #[]) ∧ w' = w := by
  have HA := hid (szAdd_neg w b l (q.n : Int) hb hl)
  have HO := hid (szOk_any w b l hb)
  have hd : decide (0 ≤ l) = false := decide_eq_false (by omega)
  rw [hd] at HO
  clear hb hd
  go_enter Try.func29, Try.ntmps29
  go_wp2_with fail
  refine HA.out.mono ?_
  rintro e w1 ⟨rfl, rfl⟩
  go_wp2_with fail
  go_loopw [4] (fun x wr => wr = w1 ∧ x = .int .i64 0) (fun _ _ => 0)
  case atStart => exact ⟨rfl, rfl⟩
  case round =>
    obtain ⟨rfl, rfl⟩ := hrel
    by_cases h0 : q.n = 0
    · have h0' : ¬ (0 : Int) < (q.n : Int) := by omega
      go_wp2_with fail
      go_end0
      exact ⟨rfl, rfl⟩
    · have h0' : (0 : Int) < (q.n : Int) := by omega
      go_wp2_with (go_at_call 28; refine HO.out.mono ?_; rintro e w2 ⟨rfl, rfl⟩)
      go_end0
      exact ⟨rfl, rfl⟩
theorem szCells_all (q : LT VT) (w : World) (S : Nat → Prop) (b : Nat) (l : Int) (hin : LT.In elCell w S q) (hS : ¬ S b) (hb : Box w b #[.int .i64 l] 95) (hl : -1000000000000000 ≤ l) (hl2 : l ≤ 10000) :
    Calls Try.prog 29 #[.pointer (some ⟨b, 0, none⟩), .slice q.p q.n q.c] w fun e w' => SzPost b l q.totC w e w' := by
  by_cases h : 0 ≤ l
  · exact szCells_any ⟨0, q.p, q.n, q.c, q.item⟩ w S b l (ST.ofLT0 hin) hS hb h hl2
  · refine (szCells_neg q w b l hin.nn hb (by omega)).mono fun e w' hp => ?_
    obtain ⟨rfl, rfl⟩ := hp
    exact ⟨rfl, l, hb, Told.neg _ (by omega) hl, But.refl _ _⟩

structure DSz (d : DT) : Prop where
  set : d.set.n ≤ 10000
  gone : d.gone.n ≤ 10000
  item : ∀ j, j < d.set.n → (d.set.item j).total ≤ 10000
structure CSz (l : LT VT) : Prop where
  n : l.n ≤ 10000
  item : ∀ j, j < l.n → (l.item j).total ≤ 10000
theorem CSz.of {l : LT VT} (h : l.totC ≤ 10000) : CSz l := by
  have h0 : l.n + ST.upto ⟨0, l.p, l.n, l.c, l.item⟩ l.n ≤ 10000 := h
  refine ⟨by omega, fun j hj => ?_⟩
  have h1 := ST.upto_succ ⟨0, l.p, l.n, l.c, l.item⟩ j
  have h2 := ST.upto_mono ⟨0, l.p, l.n, l.c, l.item⟩ (show j + 1 ≤ l.n by omega)
  simp only at h1
  omega
theorem DSz.of {d : DT} (h : d.gone.n + d.set.totC ≤ 10000) : DSz d := by
  have h1 := CSz.of (l := d.set) (by omega)
  exact ⟨h1.n, by omega, h1.item⟩
/-- a delta in a row -/
def elD : El DT where
  ty := 30
  size := 3
  cells := fun d => [.int .i64 d.num, .slice d.set.p d.set.n d.set.c, .slice d.gone.p d.gone.n d.gone.c]
  len := fun _ => rfl
  one := fun x u hu => by
    simp only [List.mem_cons, List.not_mem_nil, or_false] at hu
    rcases hu with rfl | rfl | rfl <;> rfl
  In := DT.In
  kept := fun h hs hb => h.kept hs hb
  mono := fun h hb => h.mono hb
set_option maxHeartbeats 2000000 in
theorem szDelta_any (d : DT) (w : World) (S : Nat → Prop) (b : Nat) (l : Int) (hin : DT.In w S d) (hS : ¬ S b) (hb : Box w b #[.int .i64 l] 95) (hl : 0 ≤ l) (hl2 : l ≤ 10000) :
    Calls Try.prog 45 #[.pointer (some ⟨b, 0, none⟩), .agg #[.int .i64 d.num, .slice d.set.p d.set.n d.set.c, .slice d.gone.p d.gone.n d.gone.c]] w fun e w' => SzPost b l (d.gone.n + d.set.totC) w e w' := by
  obtain ⟨W, hW⟩ : ∃ V, V = w.alloc (.cells #[.int .i64 d.num, .slice d.set.p d.set.n d.set.c, .slice d.gone.p d.gone.n d.gone.c] 30) := ⟨_, rfl⟩
  have hB : Below w.heap.size w W := by rw [hW]; exact (Below.refl _ _).alloc (Nat.le_refl _) _
  have hx : Box W w.heap.size #[.int .i64 d.num, .slice d.set.p d.set.n d.set.c, .slice d.gone.p d.gone.n d.gone.c] 30 := by rw [hW]; exact Box.new _ _ _
  have hgn := hin.gone.nn
  have hne : w.heap.size ≠ b := by have := hb.lt; omega
  have HA := hid (szAdd_pos W b l (d.gone.n : Int) (hb.below hB) hl hl2 (by omega) (by omega))
  have x2 := hx.cell 2
  have xl := hx.lt
  simp at x2
  have HX := hid hx
  have HI := hid (hin.below hB)
  have HB := hid hB
  have HW := hid hW
  have HS := hid hS
  clear hin hb hB hx hW hS
  go_enter Try.func45, Try.ntmps45
  go_upto_region 1 with fail
  rw [← HW.out]
  go_wp2_with fail
  refine HA.out.mono ?_
  rintro e w1 ⟨rfl, hb1, hk1⟩
  have hx1 : Box w1 w.heap.size #[.int .i64 d.num, .slice d.set.p d.set.n d.set.c, .slice d.gone.p d.gone.n d.gone.c] 30 := HX.out.kept (hk1.block _ xl hne)
  have y1 := hx1.cell 1
  have yl := hx1.lt
  simp at y1
  have HC := hid (szCells_all d.set w1 S b (l - d.gone.n) (HI.out.set.but hk1 (fun x hx _ e => HS.out (e ▸ hx))) HS.out hb1 (by omega) (by omega))
  have HK := hid hk1
  clear hb1 hk1 hx1 x2
  go_wp2_with fail
  refine HC.out.mono ?_
  rintro e w2 ⟨rfl, m, hb2, ht2, hk2⟩
  have HQ : Hid (Box w2 b #[.int .i64 m] 95 ∧ Told l m (d.gone.n + d.set.totC) ∧ But (fun k => k = b) w w2) := ⟨hb2, Told.add rfl hl ht2, (But.ofBelow HB.out).trans (HK.out.trans hk2)⟩
  clear hb2 ht2 hk2
  go_wp2_with fail
  go_end0
  exact ⟨rfl, m, HQ.out⟩
set_option maxHeartbeats 2000000 in
/-- Deltas -/
theorem szDeltas_any (l : LT DT) (w : World) (S : Nat → Prop) (hin : LT.In elD w S l) (hS : ∀ b, S b → b < w.heap.size) :
    Calls Try.prog 18 #[.slice l.p l.n l.c] w fun e w' => ∃ q, e = .returned (.bool q) ∧ (q = true → ∀ j, j < l.n → DSz (l.item j)) ∧ Below w.heap.size w w' := by
  have hb0 : Below w.heap.size w (w.alloc (.cells #[.int .i64 10000] 95)) := (Below.refl _ _).alloc (Nat.le_refl _) _
  have HB0 := hid hb0
  have HX0 : Hid (Box (w.alloc (.cells #[.int .i64 10000] 95)) w.heap.size #[.int .i64 10000] 95) := Box.new _ _ _
  have HI := hid (hin.below hb0)
  have HS : Hid (¬ S w.heap.size) := fun h => absurd (hS _ h) (by omega)
  have hnn := hin.nn
  clear hin hS hb0
  go_enter Try.func18, Try.ntmps18
  go_wp2_with (go_at_call 27; refine (szNew_any _).mono ?_; rintro e w1 ⟨rfl, rfl⟩)
  go_loopw [4] (fun x wr => ∃ k : Nat, k ≤ l.n ∧ x = .int .i64 (k : Int) ∧ ∃ m : Int, m ≤ 10000 ∧ Box wr w.heap.size #[.int .i64 m] 95 ∧ (0 ≤ m → ∀ q, q < k → DSz (l.item q)) ∧ But (fun k => k = w.heap.size) (w.alloc (.cells #[.int .i64 10000] 95)) wr) (fun x _ => l.n - (intOf x).toNat)
  case atStart => exact ⟨0, Nat.zero_le _, rfl, 10000, by omega, HX0.out, fun _ q hq => absurd hq (by omega), But.refl _ _⟩
  case round =>
    obtain ⟨k, hk, rfl, m, hm, hbm, hq, hkm⟩ := hrel
    have HO := hid (szOk_any wr w.heap.size m hbm)
    have HQ := hid hq
    have HBm := hid hbm
    have HK := hid hkm
    clear hq
    by_cases hlt : k < l.n
    · have hlt' : (k : Int) < (l.n : Int) := by omega
      by_cases hm0 : 0 ≤ m
      · have hd : decide (0 ≤ m) = true := decide_eq_true hm0
        rw [hd] at HO
        obtain ⟨bb, o, hp, hSb, hbl, hat⟩ := HI.out.at_ (show 0 < l.n by omega)
        have hne : bb ≠ w.heap.size := fun e => HS.out (e ▸ hSb)
        have hca : ∀ r v, (elD.cells (l.item k))[r]? = some v → wr.cell? ⟨bb, o + k * 3 + r, none⟩ = some v := fun r v hv => (World.cell?_of_block (a := ⟨bb, o + k * 3 + r, none⟩) (hkm.block bb hbl hne)).trans (hat k hlt r v hv)
        have c0 : wr.cell? ⟨bb, o + k * 3, none⟩ = some (.int .i64 (l.item k).num) := hca 0 _ rfl
        have c1 := hca 1 _ rfl
        have c2 := hca 2 _ rfl
        have hbl2 : bb < wr.heap.size := Nat.lt_of_lt_of_le hbl hkm.size
        have hi : DT.In (w.alloc (.cells #[.int .i64 10000] 95)) S (l.item k) := HI.out.each k hlt
        have HC := hid (szDelta_any (l.item k) wr S w.heap.size m (hi.kept hkm.size (fun b hb hl => hkm.block b hl (fun e => HS.out (e ▸ hb)))) HS.out hbm hm0 hm)
        rw [hp]
        clear hat hca hkm hi hbm hd
        go_wp2_with (first | (go_at_call 28; refine HO.out.mono ?_; rintro e w2 ⟨rfl, rfl⟩))
        refine HC.out.mono ?_
        rintro e w3 ⟨rfl, m', hb3, ht3, hk3⟩
        go_wp2
        go_roundw
        case rel =>
          refine ⟨k + 1, by omega, by go_num, m', by have := ht3.le; omega, hb3, fun h0 q hq => ?_, HK.out.trans hk3⟩
          by_cases hqk : q < k
          · exact HQ.out hm0 q hqk
          · obtain rfl : q = k := by omega
            have a1 := ht3.ok h0
            exact DSz.of (by omega)
        case measure => simp [intOf]; omega
      · have hd : decide (0 ≤ m) = false := decide_eq_false hm0
        rw [hd] at HO
        clear hd hkm hbm
        go_wp2_with (first | (go_at_call 28; refine HO.out.mono ?_; rintro e w2 ⟨rfl, rfl⟩))
        exact bodyPost_ret (v := .bool false) (by simp [results, Try.results18, go_sem]) rfl ⟨false, rfl, fun h => (by cases h), HB0.out.trans (HK.out.below HB0.out.size fun k hk => by omega)⟩
    · obtain rfl : k = l.n := by omega
      clear hkm hbm
      go_wp2_with (first | (go_at_call 28; refine HO.out.mono ?_; rintro e w2 ⟨rfl, rfl⟩))
      exact bodyPost_ret (v := .bool (decide (0 ≤ m))) (by simp [results, Try.results18, go_sem]) rfl ⟨_, rfl, fun h j hj => HQ.out (of_decide_eq_true h) j hj, HB0.out.trans (HK.out.below HB0.out.size fun k hk => by omega)⟩
end Go.Proofs.Ytckopbkhpbhljaa

namespace Go.Proofs.Ytckopbkhpbhljaa
open Go.RowKit
set_option maxRecDepth 8000
theorem VT.Alike.total : ∀ {t u : VT}, VT.Alike t u → u.total = t.total := by
  intro t
  induction t with
  | nil => intro u h; have h : u = .nil := h; rw [h]
  | mk k i s n p c f ih =>
    intro u h
    have hn : u.n = n := h.n
    rw [VT.total_eq u, hn]
    show n + _ = n + _
    congr 1
    congr 1
    apply List.map_congr_left
    intro j hj
    exact ih j (h.item (List.mem_range.1 hj))
/-- a thing without its addresses -/
def VT.norm : VT → VT
  | .nil => .nil
  | .mk k i s n _ _ f => .mk k i s n none 0 (fun j => if j < n then VT.norm (f j) else .nil)
theorem norm_text (t : VT) : t.norm.text = t.text := by cases t <;> rfl
theorem norm_n (t : VT) : t.norm.n = t.n := by cases t <;> rfl
theorem norm_z : zC.norm = zC := by
  unfold zC VT.norm
  simp
theorem norm_of {w : World} {S : Nat → Prop} : ∀ {t u : VT}, VT.Alike t u → VT.In w S u → t.norm = u.norm := by
  intro t
  induction t with
  | nil => intro u h _; have h : u = .nil := h; rw [h]
  | mk k i s n p c f ih =>
    intro u h hu
    obtain ⟨k2, i2, s2, n2, p2, c2, f2, rfl⟩ := hu.mk_
    obtain ⟨h1, h2, h3, h4, h5⟩ := h
    simp only [VT.kind_mk, VT.int_mk, VT.text_mk, VT.n_mk, VT.item_mk] at h1 h2 h3 h4 h5
    subst h1 h2 h3 h4
    simp only [VT.norm, VT.mk.injEq, true_and]
    funext j
    by_cases hj : j < n2
    · rw [if_pos hj, if_pos hj]; exact ih j (h5 j hj) (hu.sub hj)
    · rw [if_neg hj, if_neg hj]
theorem norm_to : ∀ {t u : VT}, t.norm = u.norm → VT.Alike t u := by
  intro t
  induction t with
  | nil =>
    intro u h
    cases u with
    | nil => exact rfl
    | mk k i s n p c f => simp [VT.norm] at h
  | mk k i s n p c f ih =>
    intro u h
    cases u with
    | nil => simp [VT.norm] at h
    | mk k2 i2 s2 n2 p2 c2 f2 =>
      simp only [VT.norm, VT.mk.injEq, true_and] at h
      obtain ⟨h1, h2, h3, h4, h5⟩ := h
      subst h1 h2 h3 h4
      refine ⟨rfl, rfl, rfl, rfl, fun j hj => ?_⟩
      have := congrFun h5 j
      rw [if_pos hj, if_pos hj] at this
      exact ih j this
section
variable {α β α' β' : Type} (φ : α → α') (ψ : β → β') (kA : α → ByteArray) (kB : β → ByteArray) (zA : α) (zB : β) (kA' : α' → ByteArray) (kB' : β' → ByteArray) (hA : ∀ x, kA' (φ x) = kA x) (hB : ∀ x, kB' (ψ x) = kB x)
include hA in
theorem hit_nat (xs : List α) (K : ByteArray) : hitL kA' (xs.map φ) K = hitL kA xs K := by
  cases xs with
  | nil => rfl
  | cons a t => simp [hitL, hA]
theorem get_nat (z : α) (xs : List α) (b : Bool) : getL (φ z) (xs.map φ) b = φ (getL z xs b) := by cases xs <;> cases b <;> rfl
theorem cut_nat (xs : List α) (b : Bool) : cutL (xs.map φ) b = (cutL xs b).map φ := by cases xs <;> cases b <;> rfl
include hA hB in
theorem lk_nat (xs : List α) (ys : List β) : lkL kA' kB' (xs.map φ) (ys.map ψ) = lkL kA kB xs ys := by
  cases xs <;> cases ys <;> simp [lkL, hA, hB]
include hA hB in
theorem mrg_nat : ∀ (f : Nat) (xs : List α) (ys : List β), mrgF kA' kB' (φ zA) (ψ zB) f (xs.map φ) (ys.map ψ) = (mrgF kA kB zA zB f xs ys).map fun e => ⟨e.key, φ e.a, ψ e.b, e.inA, e.inB⟩
  | 0, _, _ => rfl
  | f + 1, xs, ys => by
    have ih := mrg_nat f (nxA kA kB xs ys) (nxB kA kB xs ys)
    unfold mrgF
    simp only [List.length_map]
    split
    · rfl
    · simp only [List.map_cons, evL, nxA, nxB, lk_nat φ ψ kA kB kA' kB' hA hB, hit_nat φ kA kA' hA, hit_nat ψ kB kB' hB, get_nat, cut_nat] at ih ⊢
      rw [ih]
include hA hB in
theorem wo_nat (xs : List α) (ys : List β) : woL kA' kB' (φ zA) (ψ zB) (xs.map φ) (ys.map ψ) = (woL kA kB zA zB xs ys).map φ := by
  unfold woL
  simp only [List.length_map]
  rw [mrg_nat φ ψ kA kB zA zB kA' kB' hA hB, List.filter_map, List.map_map, List.map_map]
  rfl
include hA in
theorem ov_nat (xs ys : List α) : ovL kA' (φ zA) (xs.map φ) (ys.map φ) = (ovL kA zA xs ys).map φ := by
  unfold ovL
  simp only [List.length_map]
  rw [mrg_nat φ φ kA kA zA zA kA' kA' hA hA, List.map_map, List.map_map]
  apply List.map_congr_left
  intro e _
  simp only [Function.comp_apply]
  split <;> rfl
end
/-- the cells of two deltas in turn -/
def jS (A : List VT) (G : List ByteArray) (B : List VT) : List VT := ovL VT.text zC (woL VT.text id zC (⟨#[]⟩ : ByteArray) A G) B
/-- the keys that two deltas in turn take away -/
def jG (P : List ByteArray) (B : List VT) (Q : List ByteArray) : List ByteArray := ovL id (⟨#[]⟩ : ByteArray) (woL id VT.text (⟨#[]⟩ : ByteArray) zC P B) Q
theorem jS_nat (A : List VT) (G : List ByteArray) (B : List VT) : jS (A.map VT.norm) G (B.map VT.norm) = (jS A G B).map VT.norm := by
  unfold jS
  have h1 := wo_nat VT.norm id VT.text id zC (⟨#[]⟩ : ByteArray) VT.text id norm_text (fun _ => rfl) A G
  rw [norm_z, List.map_id] at h1
  have h2 := ov_nat VT.norm VT.text zC VT.text norm_text (woL VT.text id zC (⟨#[]⟩ : ByteArray) A G) B
  rw [norm_z] at h2
  simp only [id_eq] at h1
  rw [h1, h2]
theorem jG_nat (P : List ByteArray) (B : List VT) (Q : List ByteArray) : jG P (B.map VT.norm) Q = jG P B Q := by
  unfold jG
  have h1 := wo_nat id VT.norm id VT.text (⟨#[]⟩ : ByteArray) zC id VT.text (fun _ => rfl) norm_text P B
  rw [norm_z, List.map_id, List.map_id] at h1
  simp only [id_eq] at h1
  rw [h1]
theorem jS_mem {A B : List VT} {G : List ByteArray} (hA : Rise VT.text A) (hB : Rise VT.text B) (hG : Rise id G) (c : VT) : c ∈ jS A G B ↔ c ∈ B ∨ ((c ∈ A ∧ ∀ g ∈ G, g ≠ c.text) ∧ ∀ b ∈ B, b.text ≠ c.text) := by
  unfold jS
  rw [ov_mem _ _ (wo_rise _ _ _ _ hA hG) hB, wo_mem _ _ _ _ hA hG]
  rfl
theorem jS_rise {A B : List VT} {G : List ByteArray} (hA : Rise VT.text A) (hB : Rise VT.text B) (hG : Rise id G) : Rise VT.text (jS A G B) := ov_rise _ _ (wo_rise _ _ _ _ hA hG) hB
theorem jG_mem {P Q : List ByteArray} {B : List VT} (hP : Rise id P) (hQ : Rise id Q) (hB : Rise VT.text B) (k : ByteArray) : k ∈ jG P B Q ↔ k ∈ Q ∨ ((k ∈ P ∧ ∀ b ∈ B, b.text ≠ k) ∧ ∀ q ∈ Q, q ≠ k) := by
  unfold jG
  rw [ov_mem _ _ (wo_rise _ _ _ _ hP hB) hQ, wo_mem _ _ _ _ hP hB]
  rfl
theorem jG_rise {P Q : List ByteArray} {B : List VT} (hP : Rise id P) (hQ : Rise id Q) (hB : Rise VT.text B) : Rise id (jG P B Q) := ov_rise _ _ (wo_rise _ _ _ _ hP hB) hQ
section
variable {A B C : List VT} {P Q R : List ByteArray} (hA : Rise VT.text A) (hB : Rise VT.text B) (hC : Rise VT.text C) (hP : Rise id P) (hQ : Rise id Q) (hR : Rise id R)
include hA hB hC hQ hR in
theorem jS_assoc : jS (jS A Q B) R C = jS A (jG Q C R) (jS B R C) := by
  refine Rise.ext (k := VT.text) (jS_rise (jS_rise hA hB hQ) hC hR) (jS_rise hA (jS_rise hB hC hR) (jG_rise hQ hR hC)) fun c => ?_
  rw [jS_mem (jS_rise hA hB hQ) hC hR, jS_mem hA (jS_rise hB hC hR) (jG_rise hQ hR hC), jS_mem hA hB hQ, jS_mem hB hC hR]
  simp only [jS_mem hB hC hR, jG_mem hQ hR hC]
  constructor
  · rintro (h | ⟨⟨h | ⟨⟨h1, h2⟩, h3⟩, h4⟩, h5⟩)
    · exact .inl (.inl h)
    · exact .inl (.inr ⟨⟨h, h4⟩, h5⟩)
    · refine .inr ⟨⟨h1, fun g hg => ?_⟩, fun b hb => ?_⟩
      · rcases hg with hg | ⟨⟨hg, _⟩, _⟩
        · exact h4 g hg
        · exact h2 g hg
      · rcases hb with hb | ⟨⟨hb, _⟩, _⟩
        · exact h5 b hb
        · exact h3 b hb
  · rintro ((h | ⟨⟨h, h4⟩, h5⟩) | ⟨⟨h1, h2⟩, h3⟩)
    · exact .inl h
    · exact .inr ⟨⟨.inl h, h4⟩, h5⟩
    · have h4 : ∀ g ∈ R, g ≠ c.text := fun g hg => h2 g (.inl hg)
      have h5 : ∀ b ∈ C, b.text ≠ c.text := fun b hb => h3 b (.inl hb)
      refine .inr ⟨⟨.inr ⟨⟨h1, fun g hg e => ?_⟩, fun b hb e => ?_⟩, h4⟩, h5⟩
      · exact h2 g (.inr ⟨⟨hg, fun b hb => by rw [e]; exact h5 b hb⟩, fun q hq => by rw [e]; exact h4 q hq⟩) e
      · exact h3 b (.inr ⟨⟨hb, fun g hg => by rw [e]; exact h4 g hg⟩, fun x hx => by rw [e]; exact h5 x hx⟩) e
include hB hC hP hQ hR in
theorem jG_assoc : jG (jG P B Q) C R = jG P (jS B R C) (jG Q C R) := by
  refine Rise.ext (k := id) (jG_rise (jG_rise hP hQ hB) hR hC) (jG_rise hP (jG_rise hQ hR hC) (jS_rise hB hC hR)) fun k => ?_
  rw [jG_mem (jG_rise hP hQ hB) hR hC, jG_mem hP (jG_rise hQ hR hC) (jS_rise hB hC hR), jG_mem hP hQ hB, jG_mem hQ hR hC]
  simp only [jS_mem hB hC hR, jG_mem hQ hR hC]
  constructor
  · rintro (h | ⟨⟨h | ⟨⟨h1, h2⟩, h3⟩, h4⟩, h5⟩)
    · exact .inl (.inl h)
    · exact .inl (.inr ⟨⟨h, h4⟩, h5⟩)
    · refine .inr ⟨⟨h1, fun b hb => ?_⟩, fun q hq => ?_⟩
      · rcases hb with hb | ⟨⟨hb, _⟩, _⟩
        · exact h4 b hb
        · exact h2 b hb
      · rcases hq with hq | ⟨⟨hq, _⟩, _⟩
        · exact h5 q hq
        · exact h3 q hq
  · rintro ((h | ⟨⟨h, h4⟩, h5⟩) | ⟨⟨h1, h2⟩, h3⟩)
    · exact .inl h
    · exact .inr ⟨⟨.inl h, h4⟩, h5⟩
    · have h4 : ∀ b ∈ C, b.text ≠ k := fun b hb => h2 b (.inl hb)
      have h5 : ∀ q ∈ R, q ≠ k := fun q hq => h3 q (.inl hq)
      refine .inr ⟨⟨.inr ⟨⟨h1, fun b hb e => ?_⟩, fun q hq e => ?_⟩, h4⟩, h5⟩
      · exact h2 b (.inr ⟨⟨hb, fun g hg => by rw [e]; exact h5 g hg⟩, fun x hx => by rw [e]; exact h4 x hx⟩) e
      · exact h3 q (.inr ⟨⟨hq, fun b hb => by rw [e]; exact h4 b hb⟩, fun x hx => by rw [e]; exact h5 x hx⟩) e
end
theorem firstC_all {g : Nat → Nat} : ∀ m, firstC g m = 0 → ∀ i, i < m → g i = 0 := by
  intro m
  induction m with
  | zero => intro _ i hi; omega
  | succ m ih =>
    intro h i hi
    have h' : (if firstC g m = 0 then g m else firstC g m) = 0 := h
    by_cases h0 : firstC g m = 0
    · rw [if_pos h0] at h'
      by_cases him : i < m
      · exact ih h0 i him
      · obtain rfl : i = m := by omega
        exact h'
    · rw [if_neg h0] at h'; exact (h0 h').elim
theorem rise_of {α : Type} (k : α → ByteArray) (l : LT α) (h : ∀ j, j < l.n → 0 < j → ltB (k (l.item (j - 1))) (k (l.item j))) : Rise k l.toL := by
  have key : ∀ j, j < l.n → ∀ i, i < j → ltB (k (l.item i)) (k (l.item j)) := by
    intro j
    induction j with
    | zero => intro _ i hi; omega
    | succ j ih =>
      intro hj i hi
      have h1 := h (j + 1) hj (by omega)
      simp only [Nat.add_sub_cancel] at h1
      by_cases hij : i < j
      · exact (ih (by omega) i hij).trans h1
      · obtain rfl : i = j := by omega
        exact h1
  unfold Rise LT.toL
  rw [List.pairwise_map]
  refine List.pairwise_lt_range.imp_of_mem fun {a b} _ hb hab => ?_
  exact key b (List.mem_range.1 hb) a hab
theorem chkState_rise {num : Int} {l : LT VT} (h : chkState ⟨num, l.p, l.n, l.c, l.item⟩ = 0) : Rise VT.text l.toL ∧ l.n ≤ 64 ∧ 0 ≤ num ∧ num ≤ 1073741824 := by
  unfold chkState at h
  by_cases h1 : num < 0 ∨ 1073741824 < num
  · rw [if_pos h1] at h; cases h
  rw [if_neg h1] at h
  by_cases h2 : 64 < l.n
  · rw [if_pos h2] at h; cases h
  rw [if_neg h2] at h
  refine ⟨rise_of _ _ fun j hj h0 => ?_, by omega, by omega, by omega⟩
  have hc := firstC_all _ h j hj
  unfold chkCell at hc
  by_cases h3 : 12 < (l.item j).text.size
  · simp only at hc; rw [if_pos h3] at hc; cases hc
  simp only at hc
  rw [if_neg h3] at hc
  by_cases h4 : Op.bytesLess (l.item (j - 1)).text.toList (l.item j).text.toList = false
  · rw [if_pos ⟨h0, h4⟩] at hc; cases hc
  · exact (Bool.not_eq_false _).mp h4
structure DOk (d : DT) : Prop where
  set : Rise VT.text d.set.toL
  gone : Rise id d.gone.toL
  sn : d.set.n ≤ 64
  gn : d.gone.n ≤ 64
  n0 : 0 ≤ d.num
  n1 : d.num ≤ 1073741824
  apart : ∀ g ∈ d.gone.toL, ∀ c ∈ d.set.toL, c.text ≠ g
theorem chkD_ok {d : DT} (h : chkD d = 0) : DOk d := by
  unfold chkD at h
  by_cases h1 : chkState ⟨d.num, d.set.p, d.set.n, d.set.c, d.set.item⟩ = 0
  · rw [if_neg (by simpa using h1)] at h
    obtain ⟨a1, a2, a3, a4⟩ := chkState_rise (l := d.set) h1
    by_cases h2 : 64 < d.gone.n
    · rw [if_pos h2] at h; cases h
    rw [if_neg h2] at h
    have key : ∀ j, j < d.gone.n → (0 < j → ltB (d.gone.item (j - 1)) (d.gone.item j)) ∧ hasK d.set.toL (d.gone.item j) = false := fun j hj => by
      have hc := firstC_all _ h j hj
      unfold chkGone at hc
      by_cases h3 : 12 < (d.gone.item j).size
      · rw [if_pos h3] at hc; cases hc
      rw [if_neg h3] at hc
      split at hc
      · cases hc
      · rename_i h4
        refine ⟨fun h0 => ?_, ?_⟩
        · have h5 := le_not_lt (d.gone.item j).toList (d.gone.item (j - 1)).toList
          have h6 : (Op.bytesLess (d.gone.item j).toList (d.gone.item (j - 1)).toList || (d.gone.item j).toList == (d.gone.item (j - 1)).toList) = false := Bool.eq_false_iff.2 fun e => h4 (.inl ⟨h0, e⟩)
          rw [h6] at h5
          unfold ltB
          cases hx : Op.bytesLess (d.gone.item (j - 1)).toList (d.gone.item j).toList with
          | true => rfl
          | false => rw [hx] at h5; cases h5
        · exact Bool.eq_false_iff.2 fun e => h4 (.inr e)
    refine ⟨a1, rise_of id _ fun j hj h0 => (key j hj).1 h0, a2, by omega, a3, a4, fun g hg c hc e => ?_⟩
    obtain ⟨j, hj, rfl⟩ := LT.mem_toL hg
    have := (key j hj).2
    rw [hasK, List.any_eq_false] at this
    exact this c hc (by rw [e]; simp)
  · rw [if_pos h1] at h; exact (h1 h).elim
/-- the cells of a delta without their addresses -/
def DT.nS (d : DT) : List VT := d.set.toL.map VT.norm
theorem rise_norm {xs : List VT} (h : Rise VT.text xs) : Rise VT.text (xs.map VT.norm) := by
  unfold Rise
  rw [List.pairwise_map]
  exact h.imp fun hab => by rw [norm_text, norm_text]; exact hab
theorem DT.Alike.nS {num : Int} {xs : List VT} {gs : List ByteArray} {u : DT} {w : World} {S : Nat → Prop} (h : DT.Alike ⟨num, ltOf none 0 zC xs, ltOf none 0 (⟨#[]⟩ : ByteArray) gs⟩ u) (hu : DT.In w S u) : u.num = num ∧ u.nS = xs.map VT.norm ∧ u.gone.toL = gs := by
  have hn : u.set.n = xs.length := h.sn
  have hg : u.gone.n = gs.length := h.gn
  refine ⟨h.num, ?_, ?_⟩
  · unfold DT.nS
    apply List.ext_getElem?
    intro j
    by_cases hj : j < xs.length
    · have h1 := h.set j hj
      have h2 : (ltOf none 0 zC xs).item j = xs[j] := by simp [ltOf, hj]
      simp only at h1
      rw [h2] at h1
      rw [List.getElem?_map, List.getElem?_map, LT.toL_get _ (by omega), List.getElem?_eq_getElem hj]
      simp only [Option.map_some]
      rw [norm_of h1 (hu.set.each j (by omega))]
    · rw [List.getElem?_eq_none (by rw [List.length_map, LT.toL_len]; omega), List.getElem?_eq_none (by rw [List.length_map]; omega)]
  · apply List.ext_getElem?
    intro j
    by_cases hj : j < gs.length
    · have h1 := h.gone j hj
      have h2 : (ltOf none 0 (⟨#[]⟩ : ByteArray) gs).item j = gs[j] := by simp [ltOf, hj]
      simp only at h1
      rw [h2] at h1
      rw [LT.toL_get _ (by omega), List.getElem?_eq_getElem hj, h1]
    · rw [List.getElem?_eq_none (by rw [LT.toL_len]; omega), List.getElem?_eq_none (by omega)]
theorem DAlk.of {d e : DT} (hn : d.num = e.num) (hs : d.nS = e.nS) (hg : d.gone.toL = e.gone.toL) : DAlk d e := by
  have l1 : d.set.n = e.set.n := by
    have := congrArg List.length hs
    simpa [DT.nS, LT.toL_len] using this
  have l2 : d.gone.n = e.gone.n := by
    have := congrArg List.length hg
    simpa [LT.toL_len] using this
  refine ⟨hn, ⟨l1.symm, fun j hj => ?_⟩, l2.symm, fun j hj => ?_⟩
  · have := congrArg (fun l => l[j]?) hs
    simp only [DT.nS, List.getElem?_map, LT.toL_get d.set hj, LT.toL_get e.set (show j < e.set.n by omega), Option.map_some, Option.some.injEq] at this
    exact (norm_to this).cell
  · have := congrArg (fun l => l[j]?) hg
    simp only [LT.toL_get d.gone hj, LT.toL_get e.gone (show j < e.gone.n by omega), Option.some.injEq] at this
    exact this
/-- u is what Join makes of d and e -/
structure Jnd (d e u : DT) : Prop where
  num : u.num = e.num
  set : u.nS = jS d.nS e.gone.toL e.nS
  gone : u.gone.toL = jG d.gone.toL e.nS e.gone.toL
theorem Jnd.of {d e u : DT} {w : World} {S : Nat → Prop} (h : DT.Alike ⟨e.num, ltOf none 0 zC (jSet d e), ltOf none 0 (⟨#[]⟩ : ByteArray) (jAll d e)⟩ u) (hu : DT.In w S u) : Jnd d e u := by
  obtain ⟨h1, h2, h3⟩ := h.nS hu
  refine ⟨h1, ?_, ?_⟩
  · rw [h2, DT.nS, DT.nS, jS_nat]; rfl
  · rw [h3, DT.nS, jG_nat]; rfl
theorem Jnd.assoc {d e f a b x y : DT} (hd : DOk d) (he : DOk e) (hf : DOk f) (h1 : Jnd d e a) (h2 : Jnd e f b) (h3 : Jnd a f x) (h4 : Jnd d b y) : DAlk x y := by
  refine DAlk.of ?_ ?_ ?_
  · rw [h3.num, h4.num, h2.num]
  · rw [h3.set, h4.set, h1.set, h2.set, h2.gone]
    exact jS_assoc (rise_norm hd.set) (rise_norm he.set) (rise_norm hf.set) he.gone hf.gone
  · rw [h3.gone, h4.gone, h1.gone, h2.gone, h2.set]
    exact jG_assoc (rise_norm he.set) (rise_norm hf.set) hd.gone he.gone hf.gone
theorem joinE_ok {d e : DT} (h : joinE d e = 0) : chkD d = 0 ∧ chkD e = 0 ∧ ¬ (jGone d e).length < e.gone.n ∧ (jSet d e).length ≤ 64 ∧ (jAll d e).length ≤ 64 := by
  unfold joinE at h
  by_cases h1 : chkD d = 0
  · rw [if_neg (by simpa using h1)] at h
    by_cases h2 : chkD e = 0
    · rw [if_neg (by simpa using h2)] at h
      by_cases h3 : (jGone d e).length < e.gone.n
      · rw [if_pos h3] at h; cases h
      rw [if_neg h3] at h
      by_cases h4 : 64 < (jSet d e).length ∨ 64 < (jAll d e).length
      · rw [if_pos h4] at h; cases h
      exact ⟨h1, h2, h3, by omega, by omega⟩
    · rw [if_pos h2] at h; exact (h2 h).elim
  · rw [if_pos h1] at h; exact (h1 h).elim
theorem DSz.join {d e u : DT} (hd : DSz d) (he : DSz e) (hj : joinE d e = 0) (h : DT.Alike ⟨e.num, ltOf none 0 zC (jSet d e), ltOf none 0 (⟨#[]⟩ : ByteArray) (jAll d e)⟩ u) : DSz u := by
  have hk := joinE_ok hj
  have hn : u.set.n = (jSet d e).length := h.sn
  have hg : u.gone.n = (jAll d e).length := h.gn
  refine ⟨by omega, by omega, fun j hj' => ?_⟩
  have hj2 : j < (jSet d e).length := by omega
  have h1 := h.set j hj2
  have h2 : (ltOf none 0 zC (jSet d e)).item j = (jSet d e)[j] := by simp [ltOf, hj2]
  simp only at h1
  rw [h2] at h1
  rw [h1.total]
  have hm : (jSet d e)[j] ∈ jSet d e := List.getElem_mem hj2
  rcases ovL_mem hm with hm | hm
  · obtain ⟨i, hi, e1⟩ := LT.mem_toL (woL_mem hm)
    rw [← e1]; exact hd.item i hi
  · obtain ⟨i, hi, e1⟩ := LT.mem_toL hm
    rw [← e1]; exact he.item i hi
end Go.Proofs.Ytckopbkhpbhljaa
