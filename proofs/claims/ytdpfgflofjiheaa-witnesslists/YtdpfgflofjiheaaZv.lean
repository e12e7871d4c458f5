import Derived.Test.YtdpfgflofjiheaaZu
import Derived.Test.YtdpfgflofjiheaaZj
namespace Go.Proofs.Ytdpfgflofjiheaa
open Go.RowKit
set_option maxRecDepth 8000
theorem OwnL.congr {α : Type} {E : El α} {base : Nat} {w : World} {v : Value} {n : Nat} {g g' : Nat → α} (h : OwnL E base w v n g) (he : ∀ j, j < n → g j = g' j) : OwnL E base w v n g' := by
  have e : ((List.range n).flatMap fun j => E.cells (g j)) = ((List.range n).flatMap fun j => E.cells (g' j)) := by
    rw [List.flatMap_def, List.flatMap_def]
    congr 1
    apply List.map_congr_left
    intro j hj
    rw [he j (List.mem_range.1 hj)]
  exact ⟨by rw [← e]; exact h.own, fun j hj => by rw [← he j hj]; exact h.each j hj⟩
/-- the trail with the marks behind it -/
def fullI (l : LT TR) (q : Nat) : TR := if q < l.n then l.item q else ⟨901 + ((((q - l.n) % 2 : Nat)) : Int), 0, 0, 0⟩
/-- answers in a variable -/
structure Var (w : World) (S : Nat → Prop) (b : Nat) (X : An) : Prop where
  box : Box w b X.cs 51
  rows : AnI w S X
theorem Var.below {w w' : World} {S : Nat → Prop} {b : Nat} {X : An} (h : Var w S b X) (hb : Below w.heap.size w w') : Var w' S b X := ⟨h.box.below hb, h.rows.below hb⟩
theorem Var.but {w w' : World} {S Y : Nat → Prop} {b : Nat} {X : An} (h : Var w S b X) (hb : But Y w w') (hy : ∀ k, S k → ¬ Y k) (hbb : ¬ Y b) : Var w' S b X := ⟨h.box.but hb hbb, h.rows.but hb fun k hk _ => hy k hk⟩
theorem AnI.lit {w : World} {S : Nat → Prop} {X : An} (h : AnI w S X) : ∃ p1 n1 c1 p2 n2 c2 p3 n3 c3 p4 n4 c4 e f g, X.cs = #[.slice p1 n1 c1, .slice p2 n2 c2, .slice p3 n3 c3, .slice p4 n4 c4, .int .i64 e, .int .i64 f, .int .i64 g] := by
  obtain ⟨p1, c1, e1⟩ := ownsRow_slice h.ra
  obtain ⟨p2, c2, e2⟩ := ownsRow_slice h.rb
  obtain ⟨p3, c3, e3⟩ := ownsRow_slice h.rc
  obtain ⟨p4, c4, e4⟩ := ownsRow_slice h.rp
  exact ⟨p1, _, c1, p2, _, c2, p3, _, c3, p4, _, c4, X.e, X.f, X.h, by unfold An.cs; rw [e1, e2, e3, e4]⟩
/-- a new variable for answers in new memory -/
theorem Var.new {w w1 : World} {X : An} (h : AnI w1 (fun b => w.heap.size ≤ b) X) : Var (w1.alloc (.cells X.cs 51)) (fun b => w.heap.size ≤ b ∧ b < w1.heap.size) w1.heap.size X :=
  ⟨Box.new _ _ _, (h.mono fun _ hk hl => ⟨hk, hl⟩).below (below1 _ _)⟩
theorem split_fine {l : LT TR} {n i e : Int} {xs ys : List EV} (h : SplitS l n i e xs ys) : e ≠ 0 ↔ ¬ Fine l i n := by
  rcases h with ⟨c, rfl, _, _⟩ | ⟨c, d, rfl, _, _⟩ | ⟨c, a, b, d, o, rfl, _, _⟩ | ⟨c, a, b, m, d, o, rfl, _, _⟩
  · exact ⟨fun _ h => c h.1, fun _ => by omega⟩
  · exact ⟨fun _ h => by obtain ⟨_, a, b, h1, _⟩ := h; exact h1.not d, fun _ => by omega⟩
  · refine ⟨fun _ h => ?_, fun _ => by omega⟩
    obtain ⟨_, a', b', h1, h2⟩ := h
    obtain ⟨rfl, rfl⟩ := h1.uniq d
    exact o h2
  · exact ⟨fun h => (h rfl).elim, fun h => (h ⟨c, a, b, d, fun k hk => ⟨m k, o k hk⟩⟩).elim⟩
theorem newsT (w : World) (x : Int) : ∀ j' u', [Value.int .i64 x, .int .i64 0, .int .i64 0, .int .i64 0][j']? = some u' → (w.alloc (.cells #[.int .i64 x, .int .i64 0, .int .i64 0, .int .i64 0] 37)).cell? ((⟨w.heap.size, 0, none⟩ : Addr).add j') = some u' := fun j' u' hu => by
  rw [Go.WideShapes.add_plain, (Box.new w #[.int .i64 x, .int .i64 0, .int .i64 0, .int .i64 0] 37).cell]
  rw [show 0 + j' = j' by omega]
  simpa using hu
theorem AskS.len {l : LT TR} {n i : Int} {X : An} (h : AskS l n i X) (h47 : l.n * 32 ≤ 140737488351232) : X.a.length ≤ 4398046511024 ∧ X.b.length ≤ 4398046511024 ∧ X.c.length ≤ 4398046511024 ∧ X.p.length ≤ 4398046511024 := by
  have h1 := h.1.len
  have h2 := h.2.1.len
  have h3 := h.2.2.len
  exact ⟨by omega, by omega, by omega, by omega⟩
theorem cs_len {w w' : World} {S S' : Nat → Prop} {X Y : An} (h : AnI w S X) (g : AnI w' S' Y) (he : X.cs = Y.cs) : X.a.length = Y.a.length ∧ X.b.length = Y.b.length ∧ X.c.length = Y.c.length ∧ X.p.length = Y.p.length := by
  obtain ⟨e1, e2, e3, e4, _⟩ := cs_rows he
  obtain ⟨p1, c1, h1⟩ := ownsRow_slice h.ra
  obtain ⟨p2, c2, h2⟩ := ownsRow_slice h.rb
  obtain ⟨p3, c3, h3⟩ := ownsRow_slice h.rc
  obtain ⟨p4, c4, h4⟩ := ownsRow_slice h.rp
  obtain ⟨q1, d1, g1⟩ := ownsRow_slice g.ra
  obtain ⟨q2, d2, g2⟩ := ownsRow_slice g.rb
  obtain ⟨q3, d3, g3⟩ := ownsRow_slice g.rc
  obtain ⟨q4, d4, g4⟩ := ownsRow_slice g.rp
  rw [h1, g1] at e1
  rw [h2, g2] at e2
  rw [h3, g3] at e3
  rw [h4, g4] at e4
  exact ⟨(Value.slice.inj e1).2.1, (Value.slice.inj e2).2.1, (Value.slice.inj e3).2.1, (Value.slice.inj e4).2.1⟩
theorem OwnL.front {base g N c k : Nat} {W : World} {f : Nat → TR} (h : OwnL elTr base W (.slice (some ⟨g, 0, none⟩) N c) N f) (hk : k ≤ N) (hN : N ≤ 140737488355328) (hNc : N ≤ c) : LT.In elTr W (fun b => b = g) ⟨some ⟨g, 0, none⟩, k, c, f⟩ := by
  obtain ⟨p, c', e, h1⟩ := h.in_ hN
  cases e
  have hcc := h1.cc
  refine ⟨fun hn => ⟨g, 0, rfl, rfl, (h.own.lt g rfl).2, fun j hj r u hu => ?_⟩, fun _ _ => trivial, by dsimp only; omega, by dsimp only; omega, hcc, fun h => by cases h⟩
  dsimp only at hn
  obtain ⟨b, o, e, _, _, h2⟩ := h1.at_ (by dsimp only; omega)
  cases e
  exact h2 j (by dsimp only at hj ⊢; omega) r u hu
theorem LT.In.congr {w : World} {S : Nat → Prop} {p : Option Addr} {n c : Nat} {f f' : Nat → TR} (h : LT.In elTr w S ⟨p, n, c, f⟩) (he : ∀ j, j < n → f j = f' j) : LT.In elTr w S ⟨p, n, c, f'⟩ := by
  refine ⟨fun hn => ?_, fun _ _ => trivial, h.nc, h.nn, h.cc, h.nil⟩
  obtain ⟨b, o, e, hS, hl, ha⟩ := h.at_ hn
  exact ⟨b, o, e, hS, hl, fun j hj r u hu => ha j hj r u (by dsimp only at hj hu ⊢; rw [he j hj]; exact hu)⟩
theorem OwnL.trCell {base g N c j : Nat} {W : World} {f : Nat → TR} (h : OwnL elTr base W (.slice (some ⟨g, 0, none⟩) N c) N f) (hj : j < N) : W.cell? ⟨g, j * 4, none⟩ = some (.int .i64 (f j).kind) ∧ W.cell? ⟨g, j * 4 + 1, none⟩ = some (.int .i64 (f j).task) ∧ W.cell? ⟨g, j * 4 + 2, none⟩ = some (.int .i64 (f j).port) ∧ W.cell? ⟨g, j * 4 + 3, none⟩ = some (.int .i64 (f j).id) ∧ ∀ o, W.frozen? ⟨g, o, none⟩ = false := by
  have hce := @World.ownsRow.cells _ _ _ _ _ _ _ h.own
  have hc : ∀ r u, (TR.cells (f j))[r]? = some u → r < 4 → W.cell? ⟨g, j * 4 + r, none⟩ = some u := fun r u hu hr => by
    have h1 := hce (g := g) rfl (j * 4 + r) u ((range_flat_get elTr f N j r hj hr).trans hu)
    rw [Go.WideShapes.add_plain, Nat.zero_add] at h1
    exact h1
  refine ⟨hc 0 _ rfl (by omega), hc 1 _ rfl (by omega), hc 2 _ rfl (by omega), hc 3 _ rfl (by omega), fun o => ?_⟩
  obtain ⟨_, ⟨hv, _⟩ | ⟨gb, cap, cur, hv, _, hh, _⟩⟩ := id h.own
  · cases hv
  · cases hv
    simp [World.frozen?, hh]
theorem tr_set {f : Nat → TR} {N j : Nat} {t : TR} (_ : j < N) : ((((((List.range N).flatMap fun q => elTr.cells (f q)).set (j * 4) (.int .i64 t.kind)).set (j * 4 + 1) (.int .i64 t.task)).set (j * 4 + 2) (.int .i64 t.port)).set (j * 4 + 3) (.int .i64 t.id)) = (List.range N).flatMap fun q => elTr.cells (if q = j then t else f q) := by
  have hl1 := range_flat_len elTr f N
  have hl2 := range_flat_len elTr (fun q => if q = j then t else f q) N
  have h4 : elTr.size = 4 := rfl
  rw [h4] at hl1 hl2
  apply List.ext_getElem?
  intro k
  by_cases hk : k < N * 4
  · obtain ⟨q, r, hr, rfl⟩ : ∃ q r, r < 4 ∧ k = q * 4 + r := ⟨k / 4, k % 4, by omega, by omega⟩
    have hq : q < N := by omega
    have g1 := range_flat_get elTr f N q r hq (by rw [h4]; exact hr)
    have g2 := range_flat_get elTr (fun q => if q = j then t else f q) N q r hq (by rw [h4]; exact hr)
    rw [h4] at g1 g2
    rw [g2]
    simp only [List.getElem?_set, List.length_set, hl1]
    by_cases hqj : q = j
    · subst hqj
      rw [if_pos rfl]
      have : r = 0 ∨ r = 1 ∨ r = 2 ∨ r = 3 := by omega
      rcases this with rfl | rfl | rfl | rfl
      · rw [if_neg (by omega), if_neg (by omega), if_neg (by omega), if_pos (by omega), if_pos (by omega)]; rfl
      · rw [if_neg (by omega), if_neg (by omega), if_pos (by omega), if_pos (by omega)]; rfl
      · rw [if_neg (by omega), if_pos (by omega), if_pos (by omega)]; rfl
      · rw [if_pos (by omega), if_pos (by omega)]; rfl
    · rw [if_neg hqj, if_neg (by omega), if_neg (by omega), if_neg (by omega), if_neg (by omega)]
      exact g1
  · rw [List.getElem?_eq_none (by simp only [List.length_set, hl1]; omega), List.getElem?_eq_none (by rw [hl2]; omega)]
theorem OwnL.trSet {base g N c j : Nat} {W : World} {f : Nat → TR} (t : TR) (h : OwnL elTr base W (.slice (some ⟨g, 0, none⟩) N c) N f) (hj : j < N) : OwnL elTr base ((((W.setCell ⟨g, j * 4, none⟩ (.int .i64 t.kind)).setCell ⟨g, j * 4 + 1, none⟩ (.int .i64 t.task)).setCell ⟨g, j * 4 + 2, none⟩ (.int .i64 t.port)).setCell ⟨g, j * 4 + 3, none⟩ (.int .i64 t.id)) (.slice (some ⟨g, 0, none⟩) N c) N (fun q => if q = j then t else f q) := by
  refine ⟨?_, fun _ _ => trivial⟩
  rw [← tr_set hj]
  exact ((((h.own.stored (j * 4) (.int .i64 t.kind)).1.stored (j * 4 + 1) (.int .i64 t.task)).1.stored (j * 4 + 2) (.int .i64 t.port)).1.stored (j * 4 + 3) (.int .i64 t.id)).1
theorem oneT4 (x : Int) : ∀ u ∈ [Value.int .i64 x, .int .i64 0, .int .i64 0, .int .i64 0], u.oneCell' = true := by
  intro u hu
  simp only [List.mem_cons, List.not_mem_nil, or_false] at hu
  rcases hu with rfl | rfl | rfl | rfl <;> rfl
set_option maxHeartbeats 40000000 in
theorem witnessLists_walk (l m : LT TR) (i n : Int) (w : World) (hl : LT.In elTr w (fun b => b < w.heap.size) l) (hm : LT.In elTr w (fun b => b < w.heap.size) m) (h47 : l.n * 32 ≤ 140737488351232) (hm47 : m.n * 32 ≤ 140737488351232) :
    Calls Try.prog 7 #[.slice l.p l.n l.c, .slice m.p m.n m.c, .int .i64 i, .int .i64 n] w fun e w' => e = .returned (.bool true) ∧ Below w.heap.size w w' := by
  have hnn := hl.nn
  have hmn := hm.nn
  obtain ⟨i0, Kd⟩ := kindTr
  have HKd := hid Kd
  have HSrc := hid hl.src
  have HL := hid hl
  have HM := hid hm
  have H47 := hid h47
  have HM47 := hid hm47
  clear hl hm Kd h47 hm47
  have hb47 : (0 + l.n) * 32 ≤ 140737488355328 := by have := H47.out; omega
  go_enter Try.func7, Try.ntmps7
  go_wp2_with (at_builtin; refine wpList_appS rfl (.const (.slice none 0 0)) (.tmp 25) 22 37 i0 _ 4 32 HKd.out rfl w.heap.size (.slice none 0 0) 0 [] rfl (World.ownsRow_nil _ _ _ _) l.p l.n l.c _ rfl HSrc.out (oneTr l) (by omega) hb47 (Nat.le_refl _) ?_)
  intro v9 w9 ho hg _
  have HO0 : Hid (OwnL elTr w.heap.size w9 v9 (l.n + 0) (fullI l)) := OwnL.congr (g := l.item) ⟨ho, fun _ _ => trivial⟩ fun j hj => by unfold fullI; rw [if_pos (show j < l.n by omega)]
  have HB9 : Hid (Below w.heap.size w w9) := (Below.refl _ _).grown hg (Nat.le_refl _) (fun k hk => by cases hk)
  clear ho hg hb47
  go_wp2_with fail
  go_loopw [9, 10] (fun x y wr => ∃ k : Nat, k ≤ 40 ∧ y = .int .i64 (k : Int) ∧ OwnL elTr w.heap.size wr x (l.n + k) (fullI l) ∧ Below w.heap.size w wr) (fun _ y _ => 40 - (intOf y).toNat)
  case atStart => exact ⟨0, by omega, rfl, HO0.out, HB9.out⟩
  case round =>
    obtain ⟨k, hk, rfl, hO, hB⟩ := hrel
    have HO := hid hO
    have HB := hid hB
    clear hO hB HO0 HB9
    by_cases hlt : k < 40
    · have hlt' : (k : Int) < 40 := by omega
      obtain ⟨r, hr⟩ : ∃ r : Nat, r = k % 2 := ⟨_, rfl⟩
      have hr2 : r < 2 := by omega
      have htm : Int.tmod (k : Int) 2 = (r : Int) := by rw [Int.tmod_eq_emod_of_nonneg (by omega)]; omega
      have HR := hid hr
      clear hr
      have h47 := H47.out
      have hx9 := HO.out.own
      obtain ⟨p9, c9, rfl⟩ := ownsRow_slice hx9
      clear hx9
      go_wp2_with (at_builtin; refine wpList_app rfl (.tmp 31) (.tmp 36) 22 37 i0 _ 4 32 HKd.out rfl w.heap.size (.slice p9 (l.n + k) c9) (l.n + k) _ rfl (World.ownsRow.alloc HO.out.own _) ⟨wr.heap.size, 0, none⟩ 1 1 [.int .i64 (901 + (r : Int)), .int .i64 0, .int .i64 0, .int .i64 0] rfl rfl (newsT wr _) (oneT4 _) (by omega) (by omega) (by have := HB.out.size; simp; omega) ?_)
      intro v5 w5 ho5 hg5 hn5
      obtain ⟨p5, c5, rfl⟩ := ownsRow_slice ho5
      have HB5 : Hid (Below w.heap.size w w5) := (HB.out.trans ((below1 wr _).mono HB.out.size)).grown hg5 (by have := HB.out.size; simp; omega) (fun q hq => (HO.out.own.lt q hq).1)
      have HO5 : Hid (OwnL elTr w.heap.size w5 (.slice p5 (l.n + k + 1) c5) (l.n + (k + 1)) (fullI l)) := by
        have h1 : OwnL elTr w.heap.size (wr.alloc (.cells #[.int .i64 (901 + (r : Int)), .int .i64 0, .int .i64 0, .int .i64 0] 37)) (.slice p9 (l.n + k) c9) (l.n + k) (fullI l) := HO.out.keep (by simp) fun q _ hq => Below.heap_alloc _ _ _ hq
        have h2 := h1.push (u := ⟨901 + (r : Int), 0, 0, 0⟩) trivial ho5 hg5 hn5
        refine h2.congr fun j hj => ?_
        by_cases hjn : j < l.n + k
        · rw [if_pos hjn]
        · rw [if_neg hjn]
          obtain rfl : j = l.n + k := by omega
          unfold fullI
          rw [if_neg (by omega), HR.out, show l.n + k - l.n = k by omega]
      clear ho5 hg5 hn5
      go_wp2
      go_roundw
      case rel => exact ⟨k + 1, by omega, by go_num, HO5.out, HB5.out⟩
      case measure => simp [intOf]; omega
    · obtain rfl : k = 40 := by omega
      obtain ⟨W1, hW1⟩ : ∃ x, x = wr := ⟨_, rfl⟩
      subst hW1
      have hx9 := HO.out.own
      have h47 := H47.out
      obtain ⟨N, hN⟩ : ∃ N, N = l.n + 40 := ⟨_, rfl⟩
      rw [← hN] at HO hx9
      obtain ⟨g, c9, hv9, hnc9⟩ : ∃ g c9, u9 = .slice (some ⟨g, 0, none⟩) N c9 ∧ N ≤ c9 := by
        obtain ⟨_, ⟨hv, h0⟩ | ⟨gb, cap, cur, hv, _, _, hc, _⟩⟩ := id hx9
        · omega
        · exact ⟨gb, cap, hv, hc⟩
      subst hv9
      obtain ⟨hgB, hgW⟩ := hx9.lt g rfl
      have HGB := hid hgB
      have HGW := hid hgW
      have hln0 : (0 : Int) ≤ (l.n : Int) := by omega
      have hlnc : (l.n : Int) ≤ (c9 : Int) := by omega
      have hlnN : l.n ≤ N := by omega
      have hNN : N ≤ 140737488355328 := by omega
      have HOwn : Hid (LT.In elTr W1 (fun b => b = g) ⟨some ⟨g, 0, none⟩, l.n, c9, l.item⟩) := (HO.out.front hlnN hNN hnc9).congr fun j hj => by unfold fullI; rw [if_pos hj]
      have HBw := hid HB.out
      have HN := hid hN
      have HC := hid (asked_any ⟨some ⟨g, 0, none⟩, l.n, c9, l.item⟩ i n W1 _ (HOwn.out) H47.out)
      dsimp only at HC
      clear hx9 h47 hN HB hgB hgW
      go_wp2_with fail
      refine HC.out.mono ?_
      rintro e_ W2 ⟨X, hP, rfl, hI, hb_⟩
      obtain ⟨xp1, xn1, xc1, xp2, xn2, xc2, xp3, xn3, xc3, xp4, xn4, xc4, xe, xf, xg, hcs⟩ := hI.lit
      obtain ⟨W3, hW_⟩ : ∃ V, V = W2.alloc (.cells #[.slice xp1 xn1 xc1, .slice xp2 xn2 xc2, .slice xp3 xn3 xc3, .slice xp4 xn4 xc4, .int .i64 xe, .int .i64 xf, .int .i64 xg] 51) := ⟨_, rfl⟩
      have HZW2 : Hid (W1.heap.size ≤ W2.heap.size) := hb_.size
      have HZW3 : Hid (W3.heap.size = W2.heap.size + 1) := by show _ = _; rw [hW_]; simp
      have hbn : Below W1.heap.size W1 W3 := by rw [hW_]; exact hb_.trans ((below1 _ _).mono hb_.size)
      replace HOwn := hid (HOwn.out.below hbn)
      replace HO := hid (HO.out.keep hbn.size fun q _ hq => hbn.block q hq)
      replace HBw := hid (HBw.out.trans (hbn.mono HBw.out.size))
      have HVx : Hid (Var W3 (fun b => W1.heap.size ≤ b ∧ b < W2.heap.size) W2.heap.size X) := by show Var _ _ _ _; rw [hW_, ← hcs]; exact Var.new hI
      have HPx := hid hP
      have HCsx := hid hcs
      have HWW3 := hid hW_
      unfold An.val
      rw [hcs]
      clear hW_ hb_ hbn hI hP hcs HC
      go_upto_region 8 with fail
      rw [← HWW3.out]
      have HC := hid (asked_any ⟨some ⟨g, 0, none⟩, l.n, c9, l.item⟩ i n W3 _ (HOwn.out) H47.out)
      dsimp only at HC
      go_wp2_with fail
      refine HC.out.mono ?_
      rintro e_ W4 ⟨Y, hP, rfl, hI, hb_⟩
      obtain ⟨yp1, yn1, yc1, yp2, yn2, yc2, yp3, yn3, yc3, yp4, yn4, yc4, ye, yf, yg, hcs⟩ := hI.lit
      obtain ⟨W5, hW_⟩ : ∃ V, V = W4.alloc (.cells #[.slice yp1 yn1 yc1, .slice yp2 yn2 yc2, .slice yp3 yn3 yc3, .slice yp4 yn4 yc4, .int .i64 ye, .int .i64 yf, .int .i64 yg] 51) := ⟨_, rfl⟩
      have HZW4 : Hid (W3.heap.size ≤ W4.heap.size) := hb_.size
      have HZW5 : Hid (W5.heap.size = W4.heap.size + 1) := by show _ = _; rw [hW_]; simp
      have hbn : Below W3.heap.size W3 W5 := by rw [hW_]; exact hb_.trans ((below1 _ _).mono hb_.size)
      replace HVx := hid (HVx.out.below hbn)
      replace HOwn := hid (HOwn.out.below hbn)
      replace HO := hid (HO.out.keep hbn.size fun q _ hq => hbn.block q hq)
      replace HBw := hid (HBw.out.trans (hbn.mono HBw.out.size))
      have HVy : Hid (Var W5 (fun b => W3.heap.size ≤ b ∧ b < W4.heap.size) W4.heap.size Y) := by show Var _ _ _ _; rw [hW_, ← hcs]; exact Var.new hI
      have HPy := hid hP
      have HCsy := hid hcs
      have HWW5 := hid hW_
      unfold An.val
      rw [hcs]
      clear hW_ hb_ hbn hI hP hcs HC
      go_upto_region 9 with fail
      rw [← HWW5.out]
      have bxx := HVx.out.box
      rw [HCsx.out] at bxx
      have x_0 := bxx.cell 0
      have x_1 := bxx.cell 1
      have x_2 := bxx.cell 2
      have x_3 := bxx.cell 3
      have x_4 := bxx.cell 4
      have x_5 := bxx.cell 5
      have x_6 := bxx.cell 6
      simp at x_0 x_1 x_2 x_3 x_4 x_5 x_6
      have x_l := bxx.lt
      clear bxx
      have HC : Hid (Calls Try.prog 21 #[.agg #[.slice xp1 xn1 xc1, .slice xp2 xn2 xc2, .slice xp3 xn3 xc3, .slice xp4 xn4 xc4, .int .i64 xe, .int .i64 xf, .int .i64 xg]] W5 (fun e w' => AnsQ (fun Y => Y.like X) W5 e w')) := by show Calls _ _ _ _ _; have h := kept_any X W5 _ HVx.out.rows; unfold An.val at h; rw [HCsx.out] at h; exact h
      go_wp2_with fail
      refine HC.out.mono ?_
      clear x_0 x_1 x_2 x_3 x_4 x_5 x_6 x_l
      rintro e_ W6 ⟨Sw, hP, rfl, hI, hb_⟩
      obtain ⟨sp1, sn1, sc1, sp2, sn2, sc2, sp3, sn3, sc3, sp4, sn4, sc4, se, sf, sg, hcs⟩ := hI.lit
      obtain ⟨W7, hW_⟩ : ∃ V, V = W6.alloc (.cells #[.slice sp1 sn1 sc1, .slice sp2 sn2 sc2, .slice sp3 sn3 sc3, .slice sp4 sn4 sc4, .int .i64 se, .int .i64 sf, .int .i64 sg] 51) := ⟨_, rfl⟩
      have HZW6 : Hid (W5.heap.size ≤ W6.heap.size) := hb_.size
      have HZW7 : Hid (W7.heap.size = W6.heap.size + 1) := by show _ = _; rw [hW_]; simp
      have hbn : Below W5.heap.size W5 W7 := by rw [hW_]; exact hb_.trans ((below1 _ _).mono hb_.size)
      replace HVx := hid (HVx.out.below hbn)
      replace HVy := hid (HVy.out.below hbn)
      replace HOwn := hid (HOwn.out.below hbn)
      replace HO := hid (HO.out.keep hbn.size fun q _ hq => hbn.block q hq)
      replace HBw := hid (HBw.out.trans (hbn.mono HBw.out.size))
      have HVs : Hid (Var W7 (fun b => W5.heap.size ≤ b ∧ b < W6.heap.size) W6.heap.size Sw) := by show Var _ _ _ _; rw [hW_, ← hcs]; exact Var.new hI
      have HPs := hid hP
      have HCss := hid hcs
      have HWW7 := hid hW_
      unfold An.val
      rw [hcs]
      clear hW_ hb_ hbn hI hP hcs HC
      go_upto_region 10 with fail
      rw [← HWW7.out]
      go_wp2_with fail
      go_loopw [15] (fun x wr => ∃ k : Nat, k ≤ N ∧ x = .int .i64 (k : Int) ∧ Below W7.heap.size W7 wr) (fun x _ => N - (intOf x).toNat)
      case atStart => exact ⟨0, Nat.zero_le _, rfl, Below.refl _ _⟩
      case round =>
        obtain ⟨k, hk, rfl, hb⟩ := hrel
        have HB := hid hb
        clear hb
        by_cases hlt : k < N
        · have hlt' : (k : Int) < (N : Int) := by omega
          obtain ⟨a0, a1, a2, a3, _⟩ := (HO.out.keep (HB.out.size) fun q _ hq => HB.out.block q hq).trCell hlt
          have gl : g < wr.heap.size := by have := (HO.out.own.lt g rfl).2; have := HB.out.size; omega
          by_cases hkl : k < l.n
          · have hkl' : (k : Int) < (l.n : Int) := by omega
            have hkl2 : ¬ (l.n : Int) ≤ (k : Int) := by omega
            have hf : fullI l k = l.item k := by unfold fullI; rw [if_pos hkl]
            rw [hf] at a0 a1 a2 a3
            obtain ⟨b1, o1, hp1, hS1, hl1, ha1⟩ := ((HL.out.kept HBw.out.size fun b hb _ => HBw.out.block b hb).below HB.out).tr (by omega)
            obtain ⟨d0, d1, d2, d3⟩ := ha1 k hkl
            rw [hp1]
            clear ha1 hp1 hf
            go_upto_region 13 with fail
            refine wp_region_calmE 30 (fun wx => Below wr.heap.size wr wx) [(0, true), (1, true), (2, true), (3, true), (4, true), (5, true), (6, true), (7, true), (8, false), (9, true), (10, true), (11, true), (12, false), (13, true), (14, true), (15, true), (16, true), (17, true), (18, true), (19, true), (20, true), (21, true), (22, true), (23, true), (24, true), (25, false), (26, true), (27, true), (28, true), (29, true), (30, true), (31, true), (32, true), (33, true), (34, true)] .done (by kernel_rfl) (by kernel_rfl) (Below.refl _ _).drew ?_
            refine wpPre_e rfl rfl (fun K1 hK1 => ?_)
            apply Exists.intro
            refine And.intro (fun wx hx => ?_) ?_
            · go_simp
              try rfl
            go_simp
            refine hK1 _ ?_
            clear hK1 K1
            refine wpPre_e rfl rfl (fun K1 hK1 => ?_)
            apply Exists.intro
            refine And.intro (fun wx hx => ?_) ?_
            · go_simp
              try rfl
            go_simp
            refine hK1 _ ?_
            clear hK1 K1
            refine wpPre_e rfl rfl (fun K1 hK1 => ?_)
            apply Exists.intro
            refine And.intro (fun wx hx => ?_) ?_
            · go_simp
              try rfl
            go_simp
            refine hK1 _ ?_
            clear hK1 K1
            refine wpPre_e rfl rfl (fun K1 hK1 => ?_)
            apply Exists.intro
            refine And.intro (fun wx hx => ?_) ?_
            · go_simp
              try rfl
            go_simp
            refine hK1 _ ?_
            clear hK1 K1
            refine wpPre_e rfl rfl (fun K1 hK1 => ?_)
            apply Exists.intro
            refine And.intro (fun wx hx => ?_) ?_
            · go_simp
              try rfl
            go_simp
            refine hK1 _ ?_
            clear hK1 K1
            refine wpPre_i rfl (fun K1 hK1 => ?_)
            rw [if_pos (by go_simp)]
            apply Exists.intro
            refine And.intro (fun wx hx => ?_) ?_
            · go_simp
              try rfl
            go_simp
            refine hK1 _ ?_
            clear hK1 K1
            refine wpPre_i rfl (fun K1 hK1 => ?_)
            rw [if_pos (by go_simp)]
            apply Exists.intro
            refine And.intro (fun wx hx => ?_) ?_
            · go_simp
              try rfl
            go_simp
            refine hK1 _ ?_
            clear hK1 K1
            refine wpPre_i rfl (fun K1 hK1 => ?_)
            rw [if_pos (by go_simp)]
            apply Exists.intro
            refine And.intro (fun wx hx => ?_) ?_
            · go_simp
              try rfl
            go_simp
            refine hK1 _ ?_
            clear hK1 K1
            refine wpPre_i rfl (fun K1 hK1 => ?_)
            rw [if_pos (by go_simp)]
            apply Exists.intro
            refine And.intro (fun wx hx => ?_) ?_
            · have e0 := below_fact hx rfl a0
              have e1 := below_fact hx rfl a1
              have e2 := below_fact hx rfl a2
              have e3 := below_fact hx rfl a3
              have e4 := below_fact hx rfl d0
              have e5 := below_fact hx rfl d1
              have e6 := below_fact hx rfl d2
              have e7 := below_fact hx rfl d3
              go_simp
              try rfl
            go_simp
            refine hK1 _ ?_
            clear hK1 K1
            refine wpPre_i rfl (fun K1 hK1 => ?_)
            rw [if_pos (by go_simp)]
            apply Exists.intro
            refine And.intro (fun wx hx => ?_) ?_
            · go_simp
              try rfl
            go_simp
            refine hK1 _ ?_
            clear hK1 K1
            refine wpPre_i rfl (fun K1 hK1 => ?_)
            rw [if_pos (by go_simp)]
            apply Exists.intro
            refine And.intro (fun wx hx => ?_) ?_
            · go_simp
              try rfl
            go_simp
            refine hK1 _ ?_
            clear hK1 K1
            refine wpPre_i rfl (fun K1 hK1 => ?_)
            rw [if_pos (by go_simp)]
            apply Exists.intro
            refine And.intro (fun wx hx => ?_) ?_
            · go_simp
              try rfl
            go_simp
            refine hK1 _ ?_
            clear hK1 K1
            refine wpPre_i rfl (fun K1 hK1 => ?_)
            rw [if_pos (by go_simp)]
            apply Exists.intro
            refine And.intro (fun wx hx => ?_) ?_
            · have e0 := below_fact hx rfl a0
              have e1 := below_fact hx rfl a1
              have e2 := below_fact hx rfl a2
              have e3 := below_fact hx rfl a3
              have e4 := below_fact hx rfl d0
              have e5 := below_fact hx rfl d1
              have e6 := below_fact hx rfl d2
              have e7 := below_fact hx rfl d3
              go_simp
              try rfl
            go_simp
            refine hK1 _ ?_
            clear hK1 K1
            refine wpPre_i rfl (fun K1 hK1 => ?_)
            rw [if_pos (by go_simp)]
            apply Exists.intro
            refine And.intro (fun wx hx => ?_) ?_
            · go_simp
              try rfl
            go_simp
            refine hK1 _ ?_
            clear hK1 K1
            refine wpPre_e rfl rfl (fun K1 hK1 => ?_)
            apply Exists.intro
            refine And.intro (fun wx hx => ?_) ?_
            · go_simp
              try rfl
            go_simp
            refine hK1 _ ?_
            clear hK1 K1
            refine wpPre_e rfl rfl (fun K1 hK1 => ?_)
            apply Exists.intro
            refine And.intro (fun wx hx => ?_) ?_
            · go_simp
              try rfl
            go_simp
            refine hK1 _ ?_
            clear hK1 K1
            refine wpPre_i rfl (fun K1 hK1 => ?_)
            rw [if_pos (by go_simp)]
            apply Exists.intro
            refine And.intro (fun wx hx => ?_) ?_
            · go_simp
              try rfl
            go_simp
            refine hK1 _ ?_
            clear hK1 K1
            refine wpPre_i rfl (fun K1 hK1 => ?_)
            rw [if_pos (by go_simp)]
            apply Exists.intro
            refine And.intro (fun wx hx => ?_) ?_
            · go_simp
              try rfl
            go_simp
            refine hK1 _ ?_
            clear hK1 K1
            refine wpPre_i rfl (fun K1 hK1 => ?_)
            rw [if_pos (by go_simp)]
            apply Exists.intro
            refine And.intro (fun wx hx => ?_) ?_
            · go_simp
              try rfl
            go_simp
            refine hK1 _ ?_
            clear hK1 K1
            refine wpPre_i rfl (fun K1 hK1 => ?_)
            rw [if_pos (by go_simp)]
            apply Exists.intro
            refine And.intro (fun wx hx => ?_) ?_
            · go_simp
              try rfl
            go_simp
            refine hK1 _ ?_
            clear hK1 K1
            refine wpPre_i rfl (fun K1 hK1 => ?_)
            rw [if_pos (by go_simp)]
            apply Exists.intro
            refine And.intro (fun wx hx => ?_) ?_
            · go_simp
              try rfl
            go_simp
            refine hK1 _ ?_
            clear hK1 K1
            refine wpPre_i rfl (fun K1 hK1 => ?_)
            rw [if_neg (by go_simp; all_goals (intro h; cases h))]
            go_simp
            refine hK1 _ ?_
            clear hK1 K1
            refine wpPre_i rfl (fun K1 hK1 => ?_)
            rw [if_neg (by go_simp; all_goals (intro h; cases h))]
            go_simp
            refine hK1 _ ?_
            clear hK1 K1
            refine wpPre_i rfl (fun K1 hK1 => ?_)
            rw [if_neg (by go_simp; all_goals (intro h; cases h))]
            go_simp
            refine hK1 _ ?_
            clear hK1 K1
            refine wpPre_i rfl (fun K1 hK1 => ?_)
            rw [if_neg (by go_simp; all_goals (intro h; cases h))]
            go_simp
            refine hK1 _ ?_
            clear hK1 K1
            refine wpPre_i rfl (fun K1 hK1 => ?_)
            rw [if_neg (by go_simp; all_goals (intro h; cases h))]
            go_simp
            refine hK1 _ ?_
            clear hK1 K1
            refine wpPre_i rfl (fun K1 hK1 => ?_)
            rw [if_neg (by go_simp; all_goals (intro h; cases h))]
            go_simp
            refine hK1 _ ?_
            clear hK1 K1
            refine wpPre_i rfl (fun K1 hK1 => ?_)
            rw [if_neg (by go_simp; all_goals (intro h; cases h))]
            go_simp
            refine hK1 _ ?_
            clear hK1 K1
            refine wpPre_i rfl (fun K1 hK1 => ?_)
            rw [if_neg (by go_simp; all_goals (intro h; cases h))]
            go_simp
            refine hK1 _ ?_
            clear hK1 K1
            refine wpPre_i rfl (fun K1 hK1 => ?_)
            rw [if_neg (by go_simp; all_goals (intro h; cases h))]
            go_simp
            refine hK1 _ ?_
            clear hK1 K1
            refine wpPre_i rfl (fun K1 hK1 => ?_)
            rw [if_neg (by go_simp; all_goals (intro h; cases h))]
            go_simp
            refine hK1 _ ?_
            clear hK1 K1
            refine wpPre_i rfl (fun K1 hK1 => ?_)
            rw [if_neg (by go_simp; all_goals (intro h; cases h))]
            go_simp
            refine hK1 _ ?_
            clear hK1 K1
            refine wpPre_i rfl (fun K1 hK1 => ?_)
            rw [if_neg (by go_simp; all_goals (intro h; cases h))]
            go_simp
            refine hK1 _ ?_
            clear hK1 K1
            refine wpPre_i rfl (fun K1 hK1 => ?_)
            rw [if_pos (by go_simp)]
            apply Exists.intro
            refine And.intro (fun wx hx => ?_) ?_
            · go_simp
              try rfl
            go_simp
            refine hK1 _ ?_
            clear hK1 K1
            refine wpPre_e rfl rfl (fun K1 hK1 => ?_)
            apply Exists.intro
            refine And.intro (fun wx hx => ?_) ?_
            · go_simp
              try rfl
            go_simp
            refine hK1 _ ?_
            clear hK1 K1
            refine wpPre_nil ?_
            refine wpTr_done ?_
            go_wp2
            go_roundw
            case rel => exact ⟨k + 1, by omega, by go_num, HB.out.drew⟩
            case measure => simp [intOf]; omega
          · obtain ⟨q, hq⟩ : ∃ q, k = l.n + q := ⟨k - l.n, by omega⟩
            have hkl' : ¬ (k : Int) < (l.n : Int) := by omega
            have hkl2 : (l.n : Int) ≤ (k : Int) := by omega
            obtain ⟨r, hr⟩ : ∃ r : Nat, r = q % 2 := ⟨_, rfl⟩
            have hsub : (k : Int) - (l.n : Int) = (q : Int) := by omega
            have hq47 : (q : Int) < 40 := by have := HN.out; omega
            have htm : Int.tmod (q : Int) 2 = (r : Int) := by rw [Int.tmod_eq_emod_of_nonneg (by omega)]; omega
            have hr2 : r < 2 := by omega
            have hf : (fullI l k).kind = 901 + (r : Int) := by unfold fullI; rw [if_neg hkl, hr, show k - l.n = q by omega]
            rw [hf] at a0
            have hwq : IntKind.i64.wrap (q : Int) = (q : Int) := by rw [IntKind.wrap_i64]; omega
            have hwr : IntKind.i64.wrap (901 + (r : Int)) = 901 + (r : Int) := by rw [IntKind.wrap_i64]; omega
            have HQ := hid hq
            clear hf a1 a2 a3 hr hq
            go_upto_region 13 with fail
            refine wp_region_calmE 30 (fun wx => Below wr.heap.size wr wx) [(0, true), (1, true), (2, true), (3, true), (4, true), (5, true), (6, true), (7, true), (8, false), (9, true), (10, true), (11, true), (12, false), (13, true), (14, true), (15, true), (16, true), (17, true), (18, true), (19, true), (20, true), (21, true), (22, true), (23, true), (24, true), (25, false), (26, true), (27, true), (28, true), (29, true), (30, true), (31, true), (32, true), (33, true), (34, true)] .done (by kernel_rfl) (by kernel_rfl) (Below.refl _ _).drew ?_
            refine wpPre_e rfl rfl (fun K1 hK1 => ?_)
            apply Exists.intro
            refine And.intro (fun wx hx => ?_) ?_
            · go_simp
              try rfl
            go_simp
            refine hK1 _ ?_
            clear hK1 K1
            refine wpPre_e rfl rfl (fun K1 hK1 => ?_)
            apply Exists.intro
            refine And.intro (fun wx hx => ?_) ?_
            · go_simp
              try rfl
            go_simp
            refine hK1 _ ?_
            clear hK1 K1
            refine wpPre_e rfl rfl (fun K1 hK1 => ?_)
            apply Exists.intro
            refine And.intro (fun wx hx => ?_) ?_
            · go_simp
              try rfl
            go_simp
            refine hK1 _ ?_
            clear hK1 K1
            refine wpPre_e rfl rfl (fun K1 hK1 => ?_)
            apply Exists.intro
            refine And.intro (fun wx hx => ?_) ?_
            · go_simp
              try rfl
            go_simp
            refine hK1 _ ?_
            clear hK1 K1
            refine wpPre_e rfl rfl (fun K1 hK1 => ?_)
            apply Exists.intro
            refine And.intro (fun wx hx => ?_) ?_
            · go_simp
              try rfl
            go_simp
            refine hK1 _ ?_
            clear hK1 K1
            refine wpPre_i rfl (fun K1 hK1 => ?_)
            rw [if_neg (by go_simp; all_goals (intro h; cases h))]
            go_simp
            refine hK1 _ ?_
            clear hK1 K1
            refine wpPre_i rfl (fun K1 hK1 => ?_)
            rw [if_neg (by go_simp; all_goals (intro h; cases h))]
            go_simp
            refine hK1 _ ?_
            clear hK1 K1
            refine wpPre_i rfl (fun K1 hK1 => ?_)
            rw [if_neg (by go_simp; all_goals (intro h; cases h))]
            go_simp
            refine hK1 _ ?_
            clear hK1 K1
            refine wpPre_i rfl (fun K1 hK1 => ?_)
            rw [if_neg (by go_simp; all_goals (intro h; cases h))]
            go_simp
            refine hK1 _ ?_
            clear hK1 K1
            refine wpPre_i rfl (fun K1 hK1 => ?_)
            rw [if_neg (by go_simp; all_goals (intro h; cases h))]
            go_simp
            refine hK1 _ ?_
            clear hK1 K1
            refine wpPre_i rfl (fun K1 hK1 => ?_)
            rw [if_neg (by go_simp; all_goals (intro h; cases h))]
            go_simp
            refine hK1 _ ?_
            clear hK1 K1
            refine wpPre_i rfl (fun K1 hK1 => ?_)
            rw [if_neg (by go_simp; all_goals (intro h; cases h))]
            go_simp
            refine hK1 _ ?_
            clear hK1 K1
            refine wpPre_i rfl (fun K1 hK1 => ?_)
            rw [if_neg (by go_simp; all_goals (intro h; cases h))]
            go_simp
            refine hK1 _ ?_
            clear hK1 K1
            refine wpPre_i rfl (fun K1 hK1 => ?_)
            rw [if_neg (by go_simp; all_goals (intro h; cases h))]
            go_simp
            refine hK1 _ ?_
            clear hK1 K1
            refine wpPre_e rfl rfl (fun K1 hK1 => ?_)
            apply Exists.intro
            refine And.intro (fun wx hx => ?_) ?_
            · go_simp
              try rfl
            go_simp
            refine hK1 _ ?_
            clear hK1 K1
            refine wpPre_e rfl rfl (fun K1 hK1 => ?_)
            apply Exists.intro
            refine And.intro (fun wx hx => ?_) ?_
            · go_simp
              try rfl
            go_simp
            refine hK1 _ ?_
            clear hK1 K1
            refine wpPre_i rfl (fun K1 hK1 => ?_)
            rw [if_pos (by go_simp)]
            apply Exists.intro
            refine And.intro (fun wx hx => ?_) ?_
            · go_simp
              try rfl
            go_simp
            refine hK1 _ ?_
            clear hK1 K1
            refine wpPre_i rfl (fun K1 hK1 => ?_)
            rw [if_pos (by go_simp)]
            apply Exists.intro
            refine And.intro (fun wx hx => ?_) ?_
            · go_simp
              try rfl
            go_simp
            refine hK1 _ ?_
            clear hK1 K1
            refine wpPre_i rfl (fun K1 hK1 => ?_)
            rw [if_pos (by go_simp)]
            apply Exists.intro
            refine And.intro (fun wx hx => ?_) ?_
            · go_simp
              try rfl
            go_simp
            refine hK1 _ ?_
            clear hK1 K1
            refine wpPre_i rfl (fun K1 hK1 => ?_)
            rw [if_pos (by go_simp)]
            apply Exists.intro
            refine And.intro (fun wx hx => ?_) ?_
            · go_simp
              try rfl
            go_simp
            refine hK1 _ ?_
            clear hK1 K1
            refine wpPre_i rfl (fun K1 hK1 => ?_)
            rw [if_pos (by go_simp)]
            apply Exists.intro
            refine And.intro (fun wx hx => ?_) ?_
            · go_simp
              try rfl
            go_simp
            refine hK1 _ ?_
            clear hK1 K1
            refine wpPre_i rfl (fun K1 hK1 => ?_)
            rw [if_pos (by go_simp)]
            apply Exists.intro
            refine And.intro (fun wx hx => ?_) ?_
            · go_simp
              try rfl
            go_simp
            refine hK1 _ ?_
            clear hK1 K1
            refine wpPre_i rfl (fun K1 hK1 => ?_)
            rw [if_pos (by go_simp)]
            apply Exists.intro
            refine And.intro (fun wx hx => ?_) ?_
            · go_simp
              try rfl
            go_simp
            refine hK1 _ ?_
            clear hK1 K1
            refine wpPre_i rfl (fun K1 hK1 => ?_)
            rw [if_pos (by go_simp)]
            apply Exists.intro
            refine And.intro (fun wx hx => ?_) ?_
            · go_simp
              try rfl
            go_simp
            refine hK1 _ ?_
            clear hK1 K1
            refine wpPre_i rfl (fun K1 hK1 => ?_)
            rw [if_pos (by go_simp)]
            apply Exists.intro
            refine And.intro (fun wx hx => ?_) ?_
            · go_simp
              try rfl
            go_simp
            refine hK1 _ ?_
            clear hK1 K1
            refine wpPre_i rfl (fun K1 hK1 => ?_)
            rw [if_pos (by go_simp)]
            apply Exists.intro
            refine And.intro (fun wx hx => ?_) ?_
            · have e0 := below_fact hx rfl a0
              go_simp
              try rfl
            go_simp
            refine hK1 _ ?_
            clear hK1 K1
            refine wpPre_i rfl (fun K1 hK1 => ?_)
            rw [if_pos (by go_simp)]
            apply Exists.intro
            refine And.intro (fun wx hx => ?_) ?_
            · go_simp
              try rfl
            go_simp
            refine hK1 _ ?_
            clear hK1 K1
            refine wpPre_i rfl (fun K1 hK1 => ?_)
            rw [if_pos (by go_simp)]
            apply Exists.intro
            refine And.intro (fun wx hx => ?_) ?_
            · go_simp
              try rfl
            go_simp
            refine hK1 _ ?_
            clear hK1 K1
            refine wpPre_i rfl (fun K1 hK1 => ?_)
            rw [if_pos (by go_simp)]
            apply Exists.intro
            refine And.intro (fun wx hx => ?_) ?_
            · go_simp
              try rfl
            go_simp
            refine hK1 _ ?_
            clear hK1 K1
            refine wpPre_i rfl (fun K1 hK1 => ?_)
            rw [if_pos (by go_simp)]
            apply Exists.intro
            refine And.intro (fun wx hx => ?_) ?_
            · go_simp
              try rfl
            go_simp
            refine hK1 _ ?_
            clear hK1 K1
            refine wpPre_i rfl (fun K1 hK1 => ?_)
            rw [if_pos (by go_simp)]
            apply Exists.intro
            refine And.intro (fun wx hx => ?_) ?_
            · go_simp
              try rfl
            go_simp
            refine hK1 _ ?_
            clear hK1 K1
            refine wpPre_i rfl (fun K1 hK1 => ?_)
            rw [if_pos (by go_simp)]
            apply Exists.intro
            refine And.intro (fun wx hx => ?_) ?_
            · go_simp
              try rfl
            go_simp
            refine hK1 _ ?_
            clear hK1 K1
            refine wpPre_i rfl (fun K1 hK1 => ?_)
            rw [if_pos (by go_simp)]
            apply Exists.intro
            refine And.intro (fun wx hx => ?_) ?_
            · go_simp
              try rfl
            go_simp
            refine hK1 _ ?_
            clear hK1 K1
            refine wpPre_i rfl (fun K1 hK1 => ?_)
            rw [if_pos (by go_simp)]
            apply Exists.intro
            refine And.intro (fun wx hx => ?_) ?_
            · go_simp
              try rfl
            go_simp
            refine hK1 _ ?_
            clear hK1 K1
            refine wpPre_e rfl rfl (fun K1 hK1 => ?_)
            apply Exists.intro
            refine And.intro (fun wx hx => ?_) ?_
            · go_simp
              try rfl
            go_simp
            refine hK1 _ ?_
            clear hK1 K1
            refine wpPre_nil ?_
            refine wpTr_done ?_
            go_wp2
            go_roundw
            case rel => exact ⟨k + 1, by omega, by go_num, HB.out.drew⟩
            case measure => simp [intOf]; omega
        · obtain rfl : N = k := by omega
          obtain ⟨W8, hW8⟩ : ∃ x, x = wr := ⟨_, rfl⟩
          subst hW8
          have hb_ := HB.out
          have HZW8 : Hid (W7.heap.size ≤ W8.heap.size) := hb_.size
          replace HVx := hid (HVx.out.below hb_)
          replace HVy := hid (HVy.out.below hb_)
          replace HVs := hid (HVs.out.below hb_)
          replace HOwn := hid (HOwn.out.below hb_)
          replace HO := hid (HO.out.keep hb_.size fun q _ hq => hb_.block q hq)
          replace HBw := hid (HBw.out.trans (hb_.mono HBw.out.size))
          clear hb_ HB
          have HLyx : Hid (Y.like X) := AskS.uniq (l := l) HPy.out HPx.out
          have HLys : Hid (Y.like Sw) := HLyx.out.trans HPs.out.symm
          have HLxs : Hid (X.like Sw) := HPs.out.symm
          have bxy := HVy.out.box
          rw [HCsy.out] at bxy
          have y_0 := bxy.cell 0
          have y_1 := bxy.cell 1
          have y_2 := bxy.cell 2
          have y_3 := bxy.cell 3
          have y_4 := bxy.cell 4
          have y_5 := bxy.cell 5
          have y_6 := bxy.cell 6
          simp at y_0 y_1 y_2 y_3 y_4 y_5 y_6
          have y_l := bxy.lt
          clear bxy
          have bxs := HVs.out.box
          rw [HCss.out] at bxs
          have s_0 := bxs.cell 0
          have s_1 := bxs.cell 1
          have s_2 := bxs.cell 2
          have s_3 := bxs.cell 3
          have s_4 := bxs.cell 4
          have s_5 := bxs.cell 5
          have s_6 := bxs.cell 6
          simp at s_0 s_1 s_2 s_3 s_4 s_5 s_6
          have s_l := bxs.lt
          clear bxs
          have HC : Hid (Calls Try.prog 22 #[.agg #[.slice yp1 yn1 yc1, .slice yp2 yn2 yc2, .slice yp3 yn3 yc3, .slice yp4 yn4 yc4, .int .i64 ye, .int .i64 yf, .int .i64 yg], .agg #[.slice sp1 sn1 sc1, .slice sp2 sn2 sc2, .slice sp3 sn3 sc3, .slice sp4 sn4 sc4, .int .i64 se, .int .i64 sf, .int .i64 sg]] W8.drew (fun e w' => e = .returned (.bool true) ∧ Below (W8.drew).heap.size (W8.drew) w')) := by show Calls _ _ _ _ _; have h := same_any Y Sw (W8.drew) _ _ (HVy.out.rows.below (Below.refl _ _).drew) (HVs.out.rows.below (Below.refl _ _).drew) (HLys.out); unfold An.val at h; rw [HCsy.out, HCss.out] at h; exact h
          obtain ⟨bb, hbb⟩ : ∃ bb : Bool, (se != 0) = bb := ⟨_, rfl⟩
          have HCr : ∀ W9 : World, Below W8.heap.size W8 W9 → Hid (Calls Try.prog 12 #[.slice l.p l.n l.c, .int .i64 i, .int .i64 n] W9 (fun e w' => e = .returned (.bool bb) ∧ Below W9.heap.size W9 w')) := fun W9 h9 => by
            show Calls _ _ _ _ _
            refine (refusable_any l i n W9 _ ((HL.out.kept HBw.out.size fun b hb _ => HBw.out.block b hb).below h9)).mono ?_
            rintro e_ w_ ⟨b_, rfl, hb_, h_⟩
            refine ⟨?_, h_⟩
            have he : Sw.e = se := by have h := HCss.out; unfold An.cs at h; simp at h; exact h.2.2.2.2.1
            have hx : Sw.e = X.e := HPs.out.2.2.2.2.1
            have hf := split_fine (l := l) HPx.out.1
            rw [← hx, he] at hf
            have e1 : b_ = bb := by
              rw [← hbb]
              by_cases h0 : se = 0
              · have : ¬ (¬ Fine l i n) := fun h => (hf.2 h) h0
                cases b_ with
                | false => simp [h0]
                | true => exact (this (hb_.1 rfl)).elim
              · have h1 := hb_.2 (hf.1 h0)
                rw [h1]; simp [h0]
            rw [e1]
          go_upto_region 15 with fail
          refine wp_region_calmE 30 (fun wx => Below W8.heap.size W8 wx) [(0, false), (1, false)] (.one 2 true [(3, true), (4, true), (5, true), (6, false), (7, true), (8, true), (9, true), (10, true)] (.one 11 true [(12, true), (13, true)] .done)) (by kernel_rfl) (by kernel_rfl) (Below.refl _ _).drew ?_
          refine wpPre_e rfl rfl (fun K1 hK1 => ?_)
          apply Exists.intro
          refine And.intro (fun wx hx => ?_) ?_
          · have e0 := below_fact hx rfl y_0
            have e1 := below_fact hx rfl y_1
            have e2 := below_fact hx rfl y_2
            have e3 := below_fact hx rfl y_3
            have e4 := below_fact hx rfl y_4
            have e5 := below_fact hx rfl y_5
            have e6 := below_fact hx rfl y_6
            have e7 := below_fact hx rfl s_0
            have e8 := below_fact hx rfl s_1
            have e9 := below_fact hx rfl s_2
            have e10 := below_fact hx rfl s_3
            have e11 := below_fact hx rfl s_4
            have e12 := below_fact hx rfl s_5
            have e13 := below_fact hx rfl s_6
            go_simp
            try rfl
          go_simp
          refine hK1 _ ?_
          clear hK1 K1
          refine wpPre_e rfl rfl (fun K1 hK1 => ?_)
          apply Exists.intro
          refine And.intro (fun wx hx => ?_) ?_
          · have e0 := below_fact hx rfl y_0
            have e1 := below_fact hx rfl y_1
            have e2 := below_fact hx rfl y_2
            have e3 := below_fact hx rfl y_3
            have e4 := below_fact hx rfl y_4
            have e5 := below_fact hx rfl y_5
            have e6 := below_fact hx rfl y_6
            have e7 := below_fact hx rfl s_0
            have e8 := below_fact hx rfl s_1
            have e9 := below_fact hx rfl s_2
            have e10 := below_fact hx rfl s_3
            have e11 := below_fact hx rfl s_4
            have e12 := below_fact hx rfl s_5
            have e13 := below_fact hx rfl s_6
            go_simp
            try rfl
          go_simp
          refine hK1 _ ?_
          clear hK1 K1
          refine wpPre_nil ?_
          refine wpTr_e rfl (fun K1 hK1 => ?_)
          refine step_callG (by first | rfl | go_simp) 22 #[.tmp 93, .tmp 94] _ rfl Try.f22 Try.func22 (by kernel_rfl) rfl #[.agg #[.slice yp1 yn1 yc1, .slice yp2 yn2 yc2, .slice yp3 yn3 yc3, .slice yp4 yn4 yc4, .int .i64 ye, .int .i64 yf, .int .i64 yg], .agg #[.slice sp1 sn1 sc1, .slice sp2 sn2 sc2, .slice sp3 sn3 sc3, .slice sp4 sn4 sc4, .int .i64 se, .int .i64 sf, .int .i64 sg]] rfl _ (HC.out) ?_
          rintro e_ W9 ⟨rfl, hb9_⟩
          refine ⟨_, rfl, ?_⟩
          have hb9 : Below W8.heap.size W8 W9 := ((Below.refl W8.heap.size W8).drew).trans hb9_
          have HB9 := hid hb9
          clear hb9_ hb9
          go_simp
          refine hK1 _ _ (fun _ => HB9.out) ?_
          clear hK1 K1
          refine wpPre_e rfl rfl (fun K1 hK1 => ?_)
          apply Exists.intro
          refine And.intro (fun wx hx => ?_) ?_
          · go_simp
            try rfl
          go_simp
          refine hK1 _ ?_
          clear hK1 K1
          refine wpPre_e rfl rfl (fun K1 hK1 => ?_)
          apply Exists.intro
          refine And.intro (fun wx hx => ?_) ?_
          · go_simp
            try rfl
          go_simp
          refine hK1 _ ?_
          clear hK1 K1
          refine wpPre_i rfl (fun K1 hK1 => ?_)
          rw [if_pos (by go_simp)]
          apply Exists.intro
          refine And.intro (fun wx hx => ?_) ?_
          · go_simp
            try rfl
          go_simp
          refine hK1 _ ?_
          clear hK1 K1
          refine wpPre_i rfl (fun K1 hK1 => ?_)
          rw [if_pos (by go_simp)]
          apply Exists.intro
          refine And.intro (fun wx hx => ?_) ?_
          · have e0 := below_fact hx rfl s_4
            go_simp
            try rfl
          go_simp
          refine hK1 _ ?_
          clear hK1 K1
          refine wpPre_i rfl (fun K1 hK1 => ?_)
          rw [if_pos (by go_simp)]
          apply Exists.intro
          refine And.intro (fun wx hx => ?_) ?_
          · go_simp
            try rfl
          go_simp
          refine hK1 _ ?_
          clear hK1 K1
          refine wpPre_i rfl (fun K1 hK1 => ?_)
          rw [if_pos (by go_simp)]
          apply Exists.intro
          refine And.intro (fun wx hx => ?_) ?_
          · go_simp
            try rfl
          go_simp
          refine hK1 _ ?_
          clear hK1 K1
          refine wpPre_i rfl (fun K1 hK1 => ?_)
          rw [if_pos (by go_simp)]
          apply Exists.intro
          refine And.intro (fun wx hx => ?_) ?_
          · go_simp
            try rfl
          go_simp
          refine hK1 _ ?_
          clear hK1 K1
          refine wpPre_i rfl (fun K1 hK1 => ?_)
          rw [if_pos (by go_simp)]
          apply Exists.intro
          refine And.intro (fun wx hx => ?_) ?_
          · go_simp
            try rfl
          go_simp
          refine hK1 _ ?_
          clear hK1 K1
          refine wpPre_nil ?_
          refine wpTr_e rfl (fun K1 hK1 => ?_)
          refine step_callG (by first | rfl | go_simp) 12 #[.tmp 101, .tmp 102, .tmp 103] _ rfl Try.f12 Try.func12 (by kernel_rfl) rfl #[.slice l.p l.n l.c, .int .i64 i, .int .i64 n] rfl _ ((HCr W9 HB9.out).out) ?_
          rintro e_ W10 ⟨rfl, hb10_⟩
          refine ⟨_, rfl, ?_⟩
          have HB10 : Hid (Below W8.heap.size W8 W10) := HB9.out.trans (hb10_.mono HB9.out.size)
          clear hb10_
          go_simp
          refine hK1 _ _ (fun _ => HB10.out) ?_
          clear hK1 K1
          refine wpPre_i rfl (fun K1 hK1 => ?_)
          rw [if_pos (by go_simp)]
          apply Exists.intro
          refine And.intro (fun wx hx => ?_) ?_
          · go_simp
            try rfl
          go_simp
          refine hK1 _ ?_
          clear hK1 K1
          refine wpPre_e rfl rfl (fun K1 hK1 => ?_)
          apply Exists.intro
          refine And.intro (fun wx hx => ?_) ?_
          · go_simp
            try rfl
          go_simp
          refine hK1 _ ?_
          clear hK1 K1
          refine wpPre_nil ?_
          refine wpTr_done ?_
          have hb_ := HB10.out
          have HZW10 : Hid (W8.heap.size ≤ W10.heap.size) := hb_.size
          replace HVx := hid (HVx.out.below hb_)
          replace HVy := hid (HVy.out.below hb_)
          replace HVs := hid (HVs.out.below hb_)
          replace HOwn := hid (HOwn.out.below hb_)
          replace HO := hid (HO.out.keep hb_.size fun q _ hq => hb_.block q hq)
          replace HBw := hid (HBw.out.trans (hb_.mono HBw.out.size))
          clear hb_ HB9 HB10 HC HCr y_0 y_1 y_2 y_3 y_4 y_5 y_6 y_l s_0 s_1 s_2 s_3 s_4 s_5 s_6 s_l hbb
          go_wp2_with fail
          go_loopw [16] (fun x wr => ∃ (k : Nat) (f : Nat → TR), k ≤ l.n ∧ x = .int .i64 (k : Int) ∧ OwnL elTr w.heap.size wr (.slice (some ⟨g, 0, none⟩) N c9) N f ∧ But (fun b => b = g) W10 wr) (fun x _ => l.n - (intOf x).toNat)
          case atStart => exact ⟨0, _, Nat.zero_le _, rfl, HO.out, But.refl _ _⟩
          case round =>
            obtain ⟨k, f, hk, rfl, hO, hbt⟩ := hrel
            have HO2 := hid hO
            have HBt := hid hbt
            clear hO hbt
            by_cases hlt : k < l.n
            · have hlt' : (k : Int) < (l.n : Int) := by omega
              obtain ⟨a0, a1, a2, a3, hfr⟩ := HO2.out.trCell (j := k) (by omega)
              have f0 := hfr (k * 4)
              have f1 := hfr (k * 4 + 1)
              have f2 := hfr (k * 4 + 2)
              have f3 := hfr (k * 4 + 3)
              have gl := (HO2.out.own.lt g rfl).2
              clear hfr
              by_cases hm0 : 0 < m.n
              · have hm0' : (0 : Int) < (m.n : Int) := by omega
                have hgB := HGB.out
                obtain ⟨b1, o1, hp1, hS1, hl1, ha1⟩ := ((HM.out.kept HBw.out.size fun b hb _ => HBw.out.block b hb).but HBt.out (fun b hb _ e => by omega)).tr hm0
                obtain ⟨q, hq⟩ : ∃ q, q = k % m.n := ⟨_, rfl⟩
                have hqm : q < m.n := by rw [hq]; exact Nat.mod_lt _ hm0
                have hqm' : (q : Int) < (m.n : Int) := by omega
                have htm : Int.tmod (k : Int) (m.n : Int) = (q : Int) := by rw [hq]; exact (Int.ofNat_tmod _ _).symm
                have hm1 : ¬ m.n = 0 := by omega
                obtain ⟨d0, d1, d2, d3⟩ := ha1 q hqm
                have hgb1 : ¬ g = b1 := by omega
                have hwq : IntKind.i64.wrap (q : Int) = (q : Int) := by rw [IntKind.wrap_i64]; omega
                rw [hp1]
                clear ha1 hp1 hq hgB
                go_wp2
                go_roundw
                case rel => exact ⟨k + 1, _, by omega, by go_num, HO2.out.trSet (m.item q) (by omega), HBt.out.trans (((((But.one wr g).setAt _ _).setAt _ _).setAt _ _).setAt _ _)⟩
                case measure => simp [intOf]; omega
              · have hm0' : ¬ (0 : Int) < (m.n : Int) := by omega
                go_wp2
                go_roundw
                case rel => exact ⟨k + 1, _, by omega, by go_num, HO2.out.trSet ⟨1, 0, 0, 0⟩ (by omega), HBt.out.trans (((((But.one wr g).setAt _ _).setAt _ _).setAt _ _).setAt _ _)⟩
                case measure => simp [intOf]; omega
            · obtain rfl : k = l.n := by omega
              obtain ⟨W11, hW11⟩ : ∃ x, x = wr := ⟨_, rfl⟩
              subst hW11
              have hbt := HBt.out
              have hgB := HGB.out
              have hgW := HGW.out
              have HZW11 : Hid (W10.heap.size ≤ W11.heap.size) := hbt.size
              have z0 := HZW2.out
              have z1 := HZW3.out
              have z2 := HZW4.out
              have z3 := HZW5.out
              have z4 := HZW6.out
              have z5 := HZW7.out
              have z6 := HZW8.out
              have z7 := HZW10.out
              have z8 := HZW11.out
              replace HVx := hid (HVx.out.but hbt (fun q hq e => by (try dsimp only at hq e); omega) (by (try dsimp only); omega))
              replace HVy := hid (HVy.out.but hbt (fun q hq e => by (try dsimp only at hq e); omega) (by (try dsimp only); omega))
              replace HVs := hid (HVs.out.but hbt (fun q hq e => by (try dsimp only at hq e); omega) (by (try dsimp only); omega))
              replace HBw := hid (HBw.out.trans (hbt.below HBw.out.size (fun q hq e => by omega)))
              replace HO := HO2
              replace HOwn := hid (HO.out.front hlnN hNN hnc9)
              clear z0 z1 z2 z3 z4 z5 z6 z7 z8
              clear hbt HBt HO2 hgB hgW
              have HC := hid (asked_any ⟨some ⟨g, 0, none⟩, l.n, c9, f⟩ i n W11 _ HOwn.out H47.out)
              dsimp only at HC
              go_wp2_with fail
              refine HC.out.mono ?_
              rintro e_ W12 ⟨Zz, hP, rfl, hI, hb_⟩
              obtain ⟨zp1, zn1, zc1, zp2, zn2, zc2, zp3, zn3, zc3, zp4, zn4, zc4, ze, zf, zg, hcs⟩ := hI.lit
              obtain ⟨W13, hW_⟩ : ∃ V, V = W12.alloc (.cells #[.slice zp1 zn1 zc1, .slice zp2 zn2 zc2, .slice zp3 zn3 zc3, .slice zp4 zn4 zc4, .int .i64 ze, .int .i64 zf, .int .i64 zg] 51) := ⟨_, rfl⟩
              have HZW12 : Hid (W11.heap.size ≤ W12.heap.size) := hb_.size
              have HZW13 : Hid (W13.heap.size = W12.heap.size + 1) := by show _ = _; rw [hW_]; simp
              have hbn : Below W11.heap.size W11 W13 := by rw [hW_]; exact hb_.trans ((below1 _ _).mono hb_.size)
              replace HVx := hid (HVx.out.below hbn)
              replace HVy := hid (HVy.out.below hbn)
              replace HVs := hid (HVs.out.below hbn)
              replace HOwn := hid (HOwn.out.below hbn)
              replace HO := hid (HO.out.keep hbn.size fun q _ hq => hbn.block q hq)
              replace HBw := hid (HBw.out.trans (hbn.mono HBw.out.size))
              have HVz : Hid (Var W13 (fun b => W11.heap.size ≤ b ∧ b < W12.heap.size) W12.heap.size Zz) := by show Var _ _ _ _; rw [hW_, ← hcs]; exact Var.new hI
              have HPz := hid hP
              have HCsz := hid hcs
              have HWW13 := hid hW_
              unfold An.val
              rw [hcs]
              clear hW_ hb_ hbn hI hP hcs HC
              go_upto_region 24 with fail
              rw [← HWW13.out]
              have HSr := hid HOwn.out.src
              dsimp only at HSr
              go_wp2_with (at_builtin; refine wpList_appS rfl (.const (.slice none 0 0)) (.tmp 134) 22 37 i0 _ 4 32 HKd.out rfl W13.heap.size (.slice none 0 0) 0 [] rfl (World.ownsRow_nil _ _ _ _) (some ⟨g, 0, none⟩) l.n c9 _ rfl HSr.out (oneTr ⟨some ⟨g, 0, none⟩, l.n, c9, f⟩) (by omega) (by have := H47.out; omega) (Nat.le_refl _) ?_)
              intro v_ W14 ho hg _
              obtain ⟨p14, c14, rfl, hin⟩ := copied_in (l := ⟨some ⟨g, 0, none⟩, l.n, c9, f⟩) (by dsimp only; omega) ho
              dsimp only at hin
              have hb_ : Below W13.heap.size W13 W14 := (Below.refl _ _).grown hg (Nat.le_refl _) (fun k hk => by cases hk)
              have HZW14 : Hid (W13.heap.size ≤ W14.heap.size) := hb_.size
              replace HVx := hid (HVx.out.below hb_)
              replace HVy := hid (HVy.out.below hb_)
              replace HVs := hid (HVs.out.below hb_)
              replace HVz := hid (HVz.out.below hb_)
              replace HOwn := hid (HOwn.out.below hb_)
              replace HO := hid (HO.out.keep hb_.size fun q _ hq => hb_.block q hq)
              replace HBw := hid (HBw.out.trans (hb_.mono HBw.out.size))
              have HC := hid (asked_any ⟨p14, l.n, c14, f⟩ i n W14 _ hin H47.out)
              dsimp only at HC
              clear ho hg hb_ hin HSr
              go_wp2_with fail
              refine HC.out.mono ?_
              rintro e_ W15 ⟨Fr, hP, rfl, hI, hb_⟩
              obtain ⟨rp1, rn1, rc1, rp2, rn2, rc2, rp3, rn3, rc3, rp4, rn4, rc4, re, rf, rg, hcs⟩ := hI.lit
              obtain ⟨W16, hW_⟩ : ∃ V, V = W15.alloc (.cells #[.slice rp1 rn1 rc1, .slice rp2 rn2 rc2, .slice rp3 rn3 rc3, .slice rp4 rn4 rc4, .int .i64 re, .int .i64 rf, .int .i64 rg] 51) := ⟨_, rfl⟩
              have HZW15 : Hid (W14.heap.size ≤ W15.heap.size) := hb_.size
              have HZW16 : Hid (W16.heap.size = W15.heap.size + 1) := by show _ = _; rw [hW_]; simp
              have hbn : Below W14.heap.size W14 W16 := by rw [hW_]; exact hb_.trans ((below1 _ _).mono hb_.size)
              replace HVx := hid (HVx.out.below hbn)
              replace HVy := hid (HVy.out.below hbn)
              replace HVs := hid (HVs.out.below hbn)
              replace HVz := hid (HVz.out.below hbn)
              replace HOwn := hid (HOwn.out.below hbn)
              replace HO := hid (HO.out.keep hbn.size fun q _ hq => hbn.block q hq)
              replace HBw := hid (HBw.out.trans (hbn.mono HBw.out.size))
              have HVr : Hid (Var W16 (fun b => W14.heap.size ≤ b ∧ b < W15.heap.size) W15.heap.size Fr) := by show Var _ _ _ _; rw [hW_, ← hcs]; exact Var.new hI
              have HPr := hid hP
              have HCsr := hid hcs
              have HWW16 := hid hW_
              unfold An.val
              rw [hcs]
              clear hW_ hb_ hbn hI hP hcs HC
              go_upto_region 25 with fail
              rw [← HWW16.out]
              have HLzr : Hid (Zz.like Fr) := AskS.uniq (l := ⟨none, l.n, 0, f⟩) HPz.out HPr.out
              clear HO HOwn
              have bxz := HVz.out.box
              rw [HCsz.out] at bxz
              have z_0 := bxz.cell 0
              have z_1 := bxz.cell 1
              have z_2 := bxz.cell 2
              have z_3 := bxz.cell 3
              have z_4 := bxz.cell 4
              have z_5 := bxz.cell 5
              have z_6 := bxz.cell 6
              simp at z_0 z_1 z_2 z_3 z_4 z_5 z_6
              have z_l := bxz.lt
              clear bxz
              have bxr := HVr.out.box
              rw [HCsr.out] at bxr
              have r_0 := bxr.cell 0
              have r_1 := bxr.cell 1
              have r_2 := bxr.cell 2
              have r_3 := bxr.cell 3
              have r_4 := bxr.cell 4
              have r_5 := bxr.cell 5
              have r_6 := bxr.cell 6
              simp at r_0 r_1 r_2 r_3 r_4 r_5 r_6
              have r_l := bxr.lt
              clear bxr
              have HC : Hid (Calls Try.prog 22 #[.agg #[.slice zp1 zn1 zc1, .slice zp2 zn2 zc2, .slice zp3 zn3 zc3, .slice zp4 zn4 zc4, .int .i64 ze, .int .i64 zf, .int .i64 zg], .agg #[.slice rp1 rn1 rc1, .slice rp2 rn2 rc2, .slice rp3 rn3 rc3, .slice rp4 rn4 rc4, .int .i64 re, .int .i64 rf, .int .i64 rg]] W16 (fun e w' => e = .returned (.bool true) ∧ Below (W16).heap.size (W16) w')) := by show Calls _ _ _ _ _; have h := same_any Zz Fr (W16) _ _ (HVz.out.rows) (HVr.out.rows) (HLzr.out); unfold An.val at h; rw [HCsz.out, HCsr.out] at h; exact h
              go_wp2_with fail
              refine HC.out.mono ?_
              rintro e_ W17 ⟨rfl, hb_⟩
              have HZW17 : Hid (W16.heap.size ≤ W17.heap.size) := hb_.size
              replace HVx := hid (HVx.out.below hb_)
              replace HVy := hid (HVy.out.below hb_)
              replace HVs := hid (HVs.out.below hb_)
              replace HVz := hid (HVz.out.below hb_)
              replace HVr := hid (HVr.out.below hb_)
              replace HBw := hid (HBw.out.trans (hb_.mono HBw.out.size))
              clear hb_ HC z_0 z_1 z_2 z_3 z_4 z_5 z_6 z_l r_0 r_1 r_2 r_3 r_4 r_5 r_6 r_l
              have bxx := HVx.out.box
              rw [HCsx.out] at bxx
              have x_0 := bxx.cell 0
              have x_1 := bxx.cell 1
              have x_2 := bxx.cell 2
              have x_3 := bxx.cell 3
              have x_4 := bxx.cell 4
              have x_5 := bxx.cell 5
              have x_6 := bxx.cell 6
              simp at x_0 x_1 x_2 x_3 x_4 x_5 x_6
              have x_l := bxx.lt
              clear bxx
              have bxs := HVs.out.box
              rw [HCss.out] at bxs
              have s_0 := bxs.cell 0
              have s_1 := bxs.cell 1
              have s_2 := bxs.cell 2
              have s_3 := bxs.cell 3
              have s_4 := bxs.cell 4
              have s_5 := bxs.cell 5
              have s_6 := bxs.cell 6
              simp at s_0 s_1 s_2 s_3 s_4 s_5 s_6
              have s_l := bxs.lt
              clear bxs
              have HC : Hid (Calls Try.prog 22 #[.agg #[.slice xp1 xn1 xc1, .slice xp2 xn2 xc2, .slice xp3 xn3 xc3, .slice xp4 xn4 xc4, .int .i64 xe, .int .i64 xf, .int .i64 xg], .agg #[.slice sp1 sn1 sc1, .slice sp2 sn2 sc2, .slice sp3 sn3 sc3, .slice sp4 sn4 sc4, .int .i64 se, .int .i64 sf, .int .i64 sg]] W17 (fun e w' => e = .returned (.bool true) ∧ Below (W17).heap.size (W17) w')) := by show Calls _ _ _ _ _; have h := same_any X Sw (W17) _ _ (HVx.out.rows) (HVs.out.rows) (HLxs.out); unfold An.val at h; rw [HCsx.out, HCss.out] at h; exact h
              go_wp2_with fail
              refine HC.out.mono ?_
              rintro e_ W18 ⟨rfl, hb_⟩
              have HZW18 : Hid (W17.heap.size ≤ W18.heap.size) := hb_.size
              replace HVx := hid (HVx.out.below hb_)
              replace HVy := hid (HVy.out.below hb_)
              replace HVs := hid (HVs.out.below hb_)
              replace HVz := hid (HVz.out.below hb_)
              replace HVr := hid (HVr.out.below hb_)
              replace HBw := hid (HBw.out.trans (hb_.mono HBw.out.size))
              clear hb_ HC x_0 x_1 x_2 x_3 x_4 x_5 x_6 x_l s_0 s_1 s_2 s_3 s_4 s_5 s_6 s_l
              have bxy := HVy.out.box
              rw [HCsy.out] at bxy
              have y_0 := bxy.cell 0
              have y_1 := bxy.cell 1
              have y_2 := bxy.cell 2
              have y_3 := bxy.cell 3
              have y_4 := bxy.cell 4
              have y_5 := bxy.cell 5
              have y_6 := bxy.cell 6
              simp at y_0 y_1 y_2 y_3 y_4 y_5 y_6
              have y_l := bxy.lt
              clear bxy
              have bxs := HVs.out.box
              rw [HCss.out] at bxs
              have s_0 := bxs.cell 0
              have s_1 := bxs.cell 1
              have s_2 := bxs.cell 2
              have s_3 := bxs.cell 3
              have s_4 := bxs.cell 4
              have s_5 := bxs.cell 5
              have s_6 := bxs.cell 6
              simp at s_0 s_1 s_2 s_3 s_4 s_5 s_6
              have s_l := bxs.lt
              clear bxs
              have HC : Hid (Calls Try.prog 22 #[.agg #[.slice yp1 yn1 yc1, .slice yp2 yn2 yc2, .slice yp3 yn3 yc3, .slice yp4 yn4 yc4, .int .i64 ye, .int .i64 yf, .int .i64 yg], .agg #[.slice sp1 sn1 sc1, .slice sp2 sn2 sc2, .slice sp3 sn3 sc3, .slice sp4 sn4 sc4, .int .i64 se, .int .i64 sf, .int .i64 sg]] W18 (fun e w' => e = .returned (.bool true) ∧ Below (W18).heap.size (W18) w')) := by show Calls _ _ _ _ _; have h := same_any Y Sw (W18) _ _ (HVy.out.rows) (HVs.out.rows) (HLys.out); unfold An.val at h; rw [HCsy.out, HCss.out] at h; exact h
              go_wp2_with fail
              refine HC.out.mono ?_
              rintro e_ W19 ⟨rfl, hb_⟩
              have HZW19 : Hid (W18.heap.size ≤ W19.heap.size) := hb_.size
              replace HVx := hid (HVx.out.below hb_)
              replace HVy := hid (HVy.out.below hb_)
              replace HVs := hid (HVs.out.below hb_)
              replace HVz := hid (HVz.out.below hb_)
              replace HVr := hid (HVr.out.below hb_)
              replace HBw := hid (HBw.out.trans (hb_.mono HBw.out.size))
              clear hb_ HC y_0 y_1 y_2 y_3 y_4 y_5 y_6 y_l s_0 s_1 s_2 s_3 s_4 s_5 s_6 s_l
              go_upto_region 27 with fail
              clear HVr HCsr HPr HLzr
              have bxz := HVz.out.box
              rw [HCsz.out] at bxz
              have z_0 := bxz.cell 0
              have z_1 := bxz.cell 1
              have z_2 := bxz.cell 2
              have z_3 := bxz.cell 3
              have z_4 := bxz.cell 4
              have z_5 := bxz.cell 5
              have z_6 := bxz.cell 6
              simp at z_0 z_1 z_2 z_3 z_4 z_5 z_6
              have z_l := bxz.lt
              clear bxz
              have HC : Hid (Calls Try.prog 21 #[.agg #[.slice zp1 zn1 zc1, .slice zp2 zn2 zc2, .slice zp3 zn3 zc3, .slice zp4 zn4 zc4, .int .i64 ze, .int .i64 zf, .int .i64 zg]] W19 (fun e w' => AnsQ (fun Y => Y.like Zz) W19 e w')) := by show Calls _ _ _ _ _; have h := kept_any Zz W19 _ HVz.out.rows; unfold An.val at h; rw [HCsz.out] at h; exact h
              go_wp2_with fail
              refine HC.out.mono ?_
              clear z_0 z_1 z_2 z_3 z_4 z_5 z_6 z_l
              rintro e_ W20 ⟨Nw, hP, rfl, hI, hb_⟩
              obtain ⟨qp1, qn1, qc1, qp2, qn2, qc2, qp3, qn3, qc3, qp4, qn4, qc4, qe, qf, qg, hcs⟩ := hI.lit
              obtain ⟨W21, hW_⟩ : ∃ V, V = W20.alloc (.cells #[.slice qp1 qn1 qc1, .slice qp2 qn2 qc2, .slice qp3 qn3 qc3, .slice qp4 qn4 qc4, .int .i64 qe, .int .i64 qf, .int .i64 qg] 51) := ⟨_, rfl⟩
              have HZW20 : Hid (W19.heap.size ≤ W20.heap.size) := hb_.size
              have HZW21 : Hid (W21.heap.size = W20.heap.size + 1) := by show _ = _; rw [hW_]; simp
              have hbn : Below W19.heap.size W19 W21 := by rw [hW_]; exact hb_.trans ((below1 _ _).mono hb_.size)
              replace HVx := hid (HVx.out.below hbn)
              replace HVy := hid (HVy.out.below hbn)
              replace HVs := hid (HVs.out.below hbn)
              replace HVz := hid (HVz.out.below hbn)
              replace HBw := hid (HBw.out.trans (hbn.mono HBw.out.size))
              have HVq : Hid (Var W21 (fun b => W19.heap.size ≤ b ∧ b < W20.heap.size) W20.heap.size Nw) := by show Var _ _ _ _; rw [hW_, ← hcs]; exact Var.new hI
              have HPq := hid hP
              have HCsq := hid hcs
              have HWW21 := hid hW_
              unfold An.val
              rw [hcs]
              clear hW_ hb_ hbn hI hP hcs HC
              go_upto_region 28 with fail
              rw [← HWW21.out]
              have HLzq : Hid (Zz.like Nw) := HPq.out.symm
              have bxx := HVx.out.box
              rw [HCsx.out] at bxx
              have x_0 := bxx.cell 0
              have x_1 := bxx.cell 1
              have x_2 := bxx.cell 2
              have x_3 := bxx.cell 3
              have x_4 := bxx.cell 4
              have x_5 := bxx.cell 5
              have x_6 := bxx.cell 6
              simp at x_0 x_1 x_2 x_3 x_4 x_5 x_6
              have x_l := bxx.lt
              clear bxx
              have HLex : Hid (X.a.length ≤ 4398046511024 ∧ X.b.length ≤ 4398046511024 ∧ X.c.length ≤ 4398046511024 ∧ X.p.length ≤ 4398046511024) := HPx.out.len H47.out
              have HC : Hid (Calls Try.prog 23 #[.agg #[.slice xp1 xn1 xc1, .slice xp2 xn2 xc2, .slice xp3 xn3 xc3, .slice xp4 xn4 xc4, .int .i64 xe, .int .i64 xf, .int .i64 xg], .int .i64 7000] W21 (fun e w' => e = .returned (.tuple #[]) ∧ ∃ Ya : An, Ya.cs = X.cs ∧ AnI w' (fun b => W1.heap.size ≤ b ∧ b < W2.heap.size) Ya ∧ But (fun b => W1.heap.size ≤ b ∧ b < W2.heap.size) W21 w')) := by show Calls _ _ _ _ _; have h := writes_any X 7000 W21 _ HVx.out.rows; unfold An.val at h; rw [HCsx.out] at h; refine h.mono ?_; rintro e_ w_ ⟨h1, Y_, h2, h3⟩; exact ⟨h1, Y_, h2.trans HCsx.out.symm, h3⟩
              go_wp2_with fail
              refine HC.out.mono ?_
              rintro e_ W22 ⟨rfl, X1, hcs1, hI1, hbt⟩
              have HZW22 : Hid (W21.heap.size ≤ W22.heap.size) := hbt.size
              have hgB := HGB.out
              have hgW := HGW.out
              have z0 := HZW2.out
              have z1 := HZW3.out
              have z2 := HZW4.out
              have z3 := HZW5.out
              have z4 := HZW6.out
              have z5 := HZW7.out
              have z6 := HZW8.out
              have z7 := HZW10.out
              have z8 := HZW11.out
              have z9 := HZW12.out
              have z10 := HZW13.out
              have z11 := HZW14.out
              have z12 := HZW15.out
              have z13 := HZW16.out
              have z14 := HZW17.out
              have z15 := HZW18.out
              have z16 := HZW19.out
              have z17 := HZW20.out
              have z18 := HZW21.out
              have z19 := HZW22.out
              replace HVy := hid (HVy.out.but hbt (fun q hq e => by (try dsimp only at hq e); omega) (by (try dsimp only); omega))
              replace HVs := hid (HVs.out.but hbt (fun q hq e => by (try dsimp only at hq e); omega) (by (try dsimp only); omega))
              replace HVz := hid (HVz.out.but hbt (fun q hq e => by (try dsimp only at hq e); omega) (by (try dsimp only); omega))
              replace HVq := hid (HVq.out.but hbt (fun q hq e => by (try dsimp only at hq e); omega) (by (try dsimp only); omega))
              replace HBw := hid (HBw.out.trans (hbt.below HBw.out.size (fun q hq e => by (try dsimp only at e); omega)))
              have HLe : Hid (X1.a.length ≤ 4398046511024 ∧ X1.b.length ≤ 4398046511024 ∧ X1.c.length ≤ 4398046511024 ∧ X1.p.length ≤ 4398046511024) := by show _ ∧ _; obtain ⟨e1, e2, e3, e4⟩ := cs_len hI1 HVx.out.rows hcs1; rw [e1, e2, e3, e4]; exact HLex.out
              replace HVx : Hid (Var W22 (fun b => W1.heap.size ≤ b ∧ b < W2.heap.size) W2.heap.size X1) := ⟨by rw [hcs1]; exact HVx.out.box.but hbt (fun h => Nat.lt_irrefl _ h.2), hI1⟩
              replace HCsx := hid (hcs1.trans HCsx.out)
              clear z0 z1 z2 z3 z4 z5 z6 z7 z8 z9 z10 z11 z12 z13 z14 z15 z16 z17 z18 z19
              clear hcs1 hI1 hbt HC HLex hgB hgW x_0 x_1 x_2 x_3 x_4 x_5 x_6 x_l
              go_upto_region 29 with fail
              have bxx := HVx.out.box
              rw [HCsx.out] at bxx
              have x_0 := bxx.cell 0
              have x_1 := bxx.cell 1
              have x_2 := bxx.cell 2
              have x_3 := bxx.cell 3
              have x_4 := bxx.cell 4
              have x_5 := bxx.cell 5
              have x_6 := bxx.cell 6
              simp at x_0 x_1 x_2 x_3 x_4 x_5 x_6
              have x_l := bxx.lt
              clear bxx
              have HC : Hid (Calls Try.prog 24 #[.agg #[.slice xp1 xn1 xc1, .slice xp2 xn2 xc2, .slice xp3 xn3 xc3, .slice xp4 xn4 xc4, .int .i64 xe, .int .i64 xf, .int .i64 xg], .int .i64 8000] W22 (fun e w' => ∃ Ya : An, e = .returned Ya.val ∧ AnI w' (fun b => (fun b => W1.heap.size ≤ b ∧ b < W2.heap.size) b ∨ W22.heap.size ≤ b) Ya ∧ But (fun b => W1.heap.size ≤ b ∧ b < W2.heap.size) W22 w')) := by show Calls _ _ _ _ _; have h := grows_any X1 8000 W22 _ HVx.out.rows HLe.out; unfold An.val at h ⊢; rw [HCsx.out] at h; exact h
              go_wp2_with fail
              refine HC.out.mono ?_
              rintro e_ W23 ⟨Gg, rfl, hI, hbt0⟩
              obtain ⟨dp1, dn1, dc1, dp2, dn2, dc2, dp3, dn3, dc3, dp4, dn4, dc4, de, df, dg, hcs⟩ := hI.lit
              obtain ⟨W24, hW_⟩ : ∃ V, V = W23.alloc (.cells #[.slice dp1 dn1 dc1, .slice dp2 dn2 dc2, .slice dp3 dn3 dc3, .slice dp4 dn4 dc4, .int .i64 de, .int .i64 df, .int .i64 dg] 51) := ⟨_, rfl⟩
              have HZW23 : Hid (W22.heap.size ≤ W23.heap.size) := hbt0.size
              have HZW24 : Hid (W24.heap.size = W23.heap.size + 1) := by show _ = _; rw [hW_]; simp
              have hbt : But (fun b => W1.heap.size ≤ b ∧ b < W2.heap.size) W22 W24 := by rw [hW_]; exact hbt0.alloc _
              have hgB := HGB.out
              have hgW := HGW.out
              have z0 := HZW2.out
              have z1 := HZW3.out
              have z2 := HZW4.out
              have z3 := HZW5.out
              have z4 := HZW6.out
              have z5 := HZW7.out
              have z6 := HZW8.out
              have z7 := HZW10.out
              have z8 := HZW11.out
              have z9 := HZW12.out
              have z10 := HZW13.out
              have z11 := HZW14.out
              have z12 := HZW15.out
              have z13 := HZW16.out
              have z14 := HZW17.out
              have z15 := HZW18.out
              have z16 := HZW19.out
              have z17 := HZW20.out
              have z18 := HZW21.out
              have z19 := HZW22.out
              have z20 := HZW23.out
              have z21 := HZW24.out
              replace HVy := hid (HVy.out.but hbt (fun q hq e => by (try dsimp only at hq e); omega) (by (try dsimp only); omega))
              replace HVs := hid (HVs.out.but hbt (fun q hq e => by (try dsimp only at hq e); omega) (by (try dsimp only); omega))
              replace HVz := hid (HVz.out.but hbt (fun q hq e => by (try dsimp only at hq e); omega) (by (try dsimp only); omega))
              replace HVq := hid (HVq.out.but hbt (fun q hq e => by (try dsimp only at hq e); omega) (by (try dsimp only); omega))
              replace HBw := hid (HBw.out.trans (hbt.below HBw.out.size (fun q hq e => by (try dsimp only at e); omega)))
              have HVd : Hid (Var W24 (fun b => (W1.heap.size ≤ b ∧ b < W2.heap.size) ∨ (W22.heap.size ≤ b ∧ b < W23.heap.size)) W23.heap.size Gg) := by show Var _ _ _ _; rw [hW_, ← hcs]; exact ⟨Box.new _ _ _, (hI.mono fun k hk hl => by (try dsimp only at hk ⊢); omega).below (below1 _ _)⟩
              clear z0 z1 z2 z3 z4 z5 z6 z7 z8 z9 z10 z11 z12 z13 z14 z15 z16 z17 z18 z19 z20 z21
              have HCsd := hid hcs
              have HWW24 := hid hW_
              unfold An.val
              rw [hcs]
              clear hW_ hbt0 hbt hI hcs HC HLe HVx HCsx hgB hgW x_0 x_1 x_2 x_3 x_4 x_5 x_6 x_l
              go_upto_region 30 with fail
              rw [← HWW24.out]
              have bxd := HVd.out.box
              rw [HCsd.out] at bxd
              have d_0 := bxd.cell 0
              have d_1 := bxd.cell 1
              have d_2 := bxd.cell 2
              have d_3 := bxd.cell 3
              have d_4 := bxd.cell 4
              have d_5 := bxd.cell 5
              have d_6 := bxd.cell 6
              simp at d_0 d_1 d_2 d_3 d_4 d_5 d_6
              have d_l := bxd.lt
              clear bxd
              have HC : Hid (Calls Try.prog 21 #[.agg #[.slice dp1 dn1 dc1, .slice dp2 dn2 dc2, .slice dp3 dn3 dc3, .slice dp4 dn4 dc4, .int .i64 de, .int .i64 df, .int .i64 dg]] W24 (fun e w' => AnsQ (fun Y => Y.like Gg) W24 e w')) := by show Calls _ _ _ _ _; have h := kept_any Gg W24 _ HVd.out.rows; unfold An.val at h; rw [HCsd.out] at h; exact h
              go_wp2_with fail
              refine HC.out.mono ?_
              clear d_0 d_1 d_2 d_3 d_4 d_5 d_6 d_l
              rintro e_ W25 ⟨Kk, hP, rfl, hI, hb_⟩
              obtain ⟨tp1, tn1, tc1, tp2, tn2, tc2, tp3, tn3, tc3, tp4, tn4, tc4, te, tf, tg, hcs⟩ := hI.lit
              obtain ⟨W26, hW_⟩ : ∃ V, V = W25.alloc (.cells #[.slice tp1 tn1 tc1, .slice tp2 tn2 tc2, .slice tp3 tn3 tc3, .slice tp4 tn4 tc4, .int .i64 te, .int .i64 tf, .int .i64 tg] 51) := ⟨_, rfl⟩
              have HZW25 : Hid (W24.heap.size ≤ W25.heap.size) := hb_.size
              have HZW26 : Hid (W26.heap.size = W25.heap.size + 1) := by show _ = _; rw [hW_]; simp
              have hbn : Below W24.heap.size W24 W26 := by rw [hW_]; exact hb_.trans ((below1 _ _).mono hb_.size)
              replace HVy := hid (HVy.out.below hbn)
              replace HVs := hid (HVs.out.below hbn)
              replace HVz := hid (HVz.out.below hbn)
              replace HVq := hid (HVq.out.below hbn)
              replace HVd := hid (HVd.out.below hbn)
              replace HBw := hid (HBw.out.trans (hbn.mono HBw.out.size))
              have HVt : Hid (Var W26 (fun b => W24.heap.size ≤ b ∧ b < W25.heap.size) W25.heap.size Kk) := by show Var _ _ _ _; rw [hW_, ← hcs]; exact Var.new hI
              have HPt := hid hP
              have HCst := hid hcs
              have HWW26 := hid hW_
              unfold An.val
              rw [hcs]
              clear hW_ hb_ hbn hI hP hcs HC
              go_upto_region 31 with fail
              rw [← HWW26.out]
              have HLdt : Hid (Gg.like Kk) := HPt.out.symm
              have HC := hid (asked_any m i n W26 _ (HM.out.kept HBw.out.size fun b hb _ => HBw.out.block b hb) HM47.out)
              go_wp2_with fail
              refine HC.out.mono ?_
              rintro e_ W27 ⟨Aa, _, rfl, _, hb_⟩
              have HZW27 : Hid (W26.heap.size ≤ W27.heap.size) := hb_.size
              replace HVy := hid (HVy.out.below hb_)
              replace HVs := hid (HVs.out.below hb_)
              replace HVz := hid (HVz.out.below hb_)
              replace HVq := hid (HVq.out.below hb_)
              replace HVd := hid (HVd.out.below hb_)
              replace HVt := hid (HVt.out.below hb_)
              replace HBw := hid (HBw.out.trans (hb_.mono HBw.out.size))
              clear hb_ HC
              go_upto_region 32 with fail
              have bxy := HVy.out.box
              rw [HCsy.out] at bxy
              have y_0 := bxy.cell 0
              have y_1 := bxy.cell 1
              have y_2 := bxy.cell 2
              have y_3 := bxy.cell 3
              have y_4 := bxy.cell 4
              have y_5 := bxy.cell 5
              have y_6 := bxy.cell 6
              simp at y_0 y_1 y_2 y_3 y_4 y_5 y_6
              have y_l := bxy.lt
              clear bxy
              have bxs := HVs.out.box
              rw [HCss.out] at bxs
              have s_0 := bxs.cell 0
              have s_1 := bxs.cell 1
              have s_2 := bxs.cell 2
              have s_3 := bxs.cell 3
              have s_4 := bxs.cell 4
              have s_5 := bxs.cell 5
              have s_6 := bxs.cell 6
              simp at s_0 s_1 s_2 s_3 s_4 s_5 s_6
              have s_l := bxs.lt
              clear bxs
              have HC : Hid (Calls Try.prog 22 #[.agg #[.slice yp1 yn1 yc1, .slice yp2 yn2 yc2, .slice yp3 yn3 yc3, .slice yp4 yn4 yc4, .int .i64 ye, .int .i64 yf, .int .i64 yg], .agg #[.slice sp1 sn1 sc1, .slice sp2 sn2 sc2, .slice sp3 sn3 sc3, .slice sp4 sn4 sc4, .int .i64 se, .int .i64 sf, .int .i64 sg]] W27 (fun e w' => e = .returned (.bool true) ∧ Below (W27).heap.size (W27) w')) := by show Calls _ _ _ _ _; have h := same_any Y Sw (W27) _ _ (HVy.out.rows) (HVs.out.rows) (HLys.out); unfold An.val at h; rw [HCsy.out, HCss.out] at h; exact h
              go_wp2_with fail
              refine HC.out.mono ?_
              rintro e_ W28 ⟨rfl, hb_⟩
              have HZW28 : Hid (W27.heap.size ≤ W28.heap.size) := hb_.size
              replace HVy := hid (HVy.out.below hb_)
              replace HVs := hid (HVs.out.below hb_)
              replace HVz := hid (HVz.out.below hb_)
              replace HVq := hid (HVq.out.below hb_)
              replace HVd := hid (HVd.out.below hb_)
              replace HVt := hid (HVt.out.below hb_)
              replace HBw := hid (HBw.out.trans (hb_.mono HBw.out.size))
              clear hb_ HC y_0 y_1 y_2 y_3 y_4 y_5 y_6 y_l s_0 s_1 s_2 s_3 s_4 s_5 s_6 s_l
              have bxz := HVz.out.box
              rw [HCsz.out] at bxz
              have z_0 := bxz.cell 0
              have z_1 := bxz.cell 1
              have z_2 := bxz.cell 2
              have z_3 := bxz.cell 3
              have z_4 := bxz.cell 4
              have z_5 := bxz.cell 5
              have z_6 := bxz.cell 6
              simp at z_0 z_1 z_2 z_3 z_4 z_5 z_6
              have z_l := bxz.lt
              clear bxz
              have bxq := HVq.out.box
              rw [HCsq.out] at bxq
              have q_0 := bxq.cell 0
              have q_1 := bxq.cell 1
              have q_2 := bxq.cell 2
              have q_3 := bxq.cell 3
              have q_4 := bxq.cell 4
              have q_5 := bxq.cell 5
              have q_6 := bxq.cell 6
              simp at q_0 q_1 q_2 q_3 q_4 q_5 q_6
              have q_l := bxq.lt
              clear bxq
              have HC : Hid (Calls Try.prog 22 #[.agg #[.slice zp1 zn1 zc1, .slice zp2 zn2 zc2, .slice zp3 zn3 zc3, .slice zp4 zn4 zc4, .int .i64 ze, .int .i64 zf, .int .i64 zg], .agg #[.slice qp1 qn1 qc1, .slice qp2 qn2 qc2, .slice qp3 qn3 qc3, .slice qp4 qn4 qc4, .int .i64 qe, .int .i64 qf, .int .i64 qg]] W28 (fun e w' => e = .returned (.bool true) ∧ Below (W28).heap.size (W28) w')) := by show Calls _ _ _ _ _; have h := same_any Zz Nw (W28) _ _ (HVz.out.rows) (HVq.out.rows) (HLzq.out); unfold An.val at h; rw [HCsz.out, HCsq.out] at h; exact h
              go_wp2_with fail
              refine HC.out.mono ?_
              rintro e_ W29 ⟨rfl, hb_⟩
              have HZW29 : Hid (W28.heap.size ≤ W29.heap.size) := hb_.size
              replace HVy := hid (HVy.out.below hb_)
              replace HVs := hid (HVs.out.below hb_)
              replace HVz := hid (HVz.out.below hb_)
              replace HVq := hid (HVq.out.below hb_)
              replace HVd := hid (HVd.out.below hb_)
              replace HVt := hid (HVt.out.below hb_)
              replace HBw := hid (HBw.out.trans (hb_.mono HBw.out.size))
              clear hb_ HC z_0 z_1 z_2 z_3 z_4 z_5 z_6 z_l q_0 q_1 q_2 q_3 q_4 q_5 q_6 q_l
              have bxd := HVd.out.box
              rw [HCsd.out] at bxd
              have d_0 := bxd.cell 0
              have d_1 := bxd.cell 1
              have d_2 := bxd.cell 2
              have d_3 := bxd.cell 3
              have d_4 := bxd.cell 4
              have d_5 := bxd.cell 5
              have d_6 := bxd.cell 6
              simp at d_0 d_1 d_2 d_3 d_4 d_5 d_6
              have d_l := bxd.lt
              clear bxd
              have bxt := HVt.out.box
              rw [HCst.out] at bxt
              have t_0 := bxt.cell 0
              have t_1 := bxt.cell 1
              have t_2 := bxt.cell 2
              have t_3 := bxt.cell 3
              have t_4 := bxt.cell 4
              have t_5 := bxt.cell 5
              have t_6 := bxt.cell 6
              simp at t_0 t_1 t_2 t_3 t_4 t_5 t_6
              have t_l := bxt.lt
              clear bxt
              have HC : Hid (Calls Try.prog 22 #[.agg #[.slice dp1 dn1 dc1, .slice dp2 dn2 dc2, .slice dp3 dn3 dc3, .slice dp4 dn4 dc4, .int .i64 de, .int .i64 df, .int .i64 dg], .agg #[.slice tp1 tn1 tc1, .slice tp2 tn2 tc2, .slice tp3 tn3 tc3, .slice tp4 tn4 tc4, .int .i64 te, .int .i64 tf, .int .i64 tg]] W29 (fun e w' => e = .returned (.bool true) ∧ Below (W29).heap.size (W29) w')) := by show Calls _ _ _ _ _; have h := same_any Gg Kk (W29) _ _ (HVd.out.rows) (HVt.out.rows) (HLdt.out); unfold An.val at h; rw [HCsd.out, HCst.out] at h; exact h
              go_wp2_with fail
              refine HC.out.mono ?_
              rintro e_ W30 ⟨rfl, hb_⟩
              have HZW30 : Hid (W29.heap.size ≤ W30.heap.size) := hb_.size
              replace HVy := hid (HVy.out.below hb_)
              replace HVs := hid (HVs.out.below hb_)
              replace HVz := hid (HVz.out.below hb_)
              replace HVq := hid (HVq.out.below hb_)
              replace HVd := hid (HVd.out.below hb_)
              replace HVt := hid (HVt.out.below hb_)
              replace HBw := hid (HBw.out.trans (hb_.mono HBw.out.size))
              clear hb_ HC d_0 d_1 d_2 d_3 d_4 d_5 d_6 d_l t_0 t_1 t_2 t_3 t_4 t_5 t_6 t_l
              go_upto_region 34 with fail
              have bxy := HVy.out.box
              rw [HCsy.out] at bxy
              have y_0 := bxy.cell 0
              have y_1 := bxy.cell 1
              have y_2 := bxy.cell 2
              have y_3 := bxy.cell 3
              have y_4 := bxy.cell 4
              have y_5 := bxy.cell 5
              have y_6 := bxy.cell 6
              simp at y_0 y_1 y_2 y_3 y_4 y_5 y_6
              have y_l := bxy.lt
              clear bxy
              have HLey : Hid (Y.a.length ≤ 4398046511024 ∧ Y.b.length ≤ 4398046511024 ∧ Y.c.length ≤ 4398046511024 ∧ Y.p.length ≤ 4398046511024) := HPy.out.len H47.out
              have HC : Hid (Calls Try.prog 23 #[.agg #[.slice yp1 yn1 yc1, .slice yp2 yn2 yc2, .slice yp3 yn3 yc3, .slice yp4 yn4 yc4, .int .i64 ye, .int .i64 yf, .int .i64 yg], .int .i64 9000] W30 (fun e w' => e = .returned (.tuple #[]) ∧ ∃ Ya : An, Ya.cs = Y.cs ∧ AnI w' (fun b => W3.heap.size ≤ b ∧ b < W4.heap.size) Ya ∧ But (fun b => W3.heap.size ≤ b ∧ b < W4.heap.size) W30 w')) := by show Calls _ _ _ _ _; have h := writes_any Y 9000 W30 _ HVy.out.rows; unfold An.val at h; rw [HCsy.out] at h; refine h.mono ?_; rintro e_ w_ ⟨h1, Y_, h2, h3⟩; exact ⟨h1, Y_, h2.trans HCsy.out.symm, h3⟩
              go_wp2_with fail
              refine HC.out.mono ?_
              rintro e_ W31 ⟨rfl, Y1, hcs1, hI1, hbt⟩
              have HZW31 : Hid (W30.heap.size ≤ W31.heap.size) := hbt.size
              have hgB := HGB.out
              have hgW := HGW.out
              have z0 := HZW2.out
              have z1 := HZW3.out
              have z2 := HZW4.out
              have z3 := HZW5.out
              have z4 := HZW6.out
              have z5 := HZW7.out
              have z6 := HZW8.out
              have z7 := HZW10.out
              have z8 := HZW11.out
              have z9 := HZW12.out
              have z10 := HZW13.out
              have z11 := HZW14.out
              have z12 := HZW15.out
              have z13 := HZW16.out
              have z14 := HZW17.out
              have z15 := HZW18.out
              have z16 := HZW19.out
              have z17 := HZW20.out
              have z18 := HZW21.out
              have z19 := HZW22.out
              have z20 := HZW23.out
              have z21 := HZW24.out
              have z22 := HZW25.out
              have z23 := HZW26.out
              have z24 := HZW27.out
              have z25 := HZW28.out
              have z26 := HZW29.out
              have z27 := HZW30.out
              have z28 := HZW31.out
              replace HVs := hid (HVs.out.but hbt (fun q hq e => by (try dsimp only at hq e); omega) (by (try dsimp only); omega))
              replace HVz := hid (HVz.out.but hbt (fun q hq e => by (try dsimp only at hq e); omega) (by (try dsimp only); omega))
              replace HVq := hid (HVq.out.but hbt (fun q hq e => by (try dsimp only at hq e); omega) (by (try dsimp only); omega))
              replace HVd := hid (HVd.out.but hbt (fun q hq e => by (try dsimp only at hq e); omega) (by (try dsimp only); omega))
              replace HVt := hid (HVt.out.but hbt (fun q hq e => by (try dsimp only at hq e); omega) (by (try dsimp only); omega))
              replace HBw := hid (HBw.out.trans (hbt.below HBw.out.size (fun q hq e => by (try dsimp only at e); omega)))
              have HLe : Hid (Y1.a.length ≤ 4398046511024 ∧ Y1.b.length ≤ 4398046511024 ∧ Y1.c.length ≤ 4398046511024 ∧ Y1.p.length ≤ 4398046511024) := by show _ ∧ _; obtain ⟨e1, e2, e3, e4⟩ := cs_len hI1 HVy.out.rows hcs1; rw [e1, e2, e3, e4]; exact HLey.out
              replace HVy : Hid (Var W31 (fun b => W3.heap.size ≤ b ∧ b < W4.heap.size) W4.heap.size Y1) := ⟨by rw [hcs1]; exact HVy.out.box.but hbt (fun h => Nat.lt_irrefl _ h.2), hI1⟩
              replace HCsy := hid (hcs1.trans HCsy.out)
              clear z0 z1 z2 z3 z4 z5 z6 z7 z8 z9 z10 z11 z12 z13 z14 z15 z16 z17 z18 z19 z20 z21 z22 z23 z24 z25 z26 z27 z28
              clear hcs1 hI1 hbt HC HLey hgB hgW y_0 y_1 y_2 y_3 y_4 y_5 y_6 y_l
              go_upto_region 35 with fail
              have bxy := HVy.out.box
              rw [HCsy.out] at bxy
              have y_0 := bxy.cell 0
              have y_1 := bxy.cell 1
              have y_2 := bxy.cell 2
              have y_3 := bxy.cell 3
              have y_4 := bxy.cell 4
              have y_5 := bxy.cell 5
              have y_6 := bxy.cell 6
              simp at y_0 y_1 y_2 y_3 y_4 y_5 y_6
              have y_l := bxy.lt
              clear bxy
              have HC : Hid (Calls Try.prog 24 #[.agg #[.slice yp1 yn1 yc1, .slice yp2 yn2 yc2, .slice yp3 yn3 yc3, .slice yp4 yn4 yc4, .int .i64 ye, .int .i64 yf, .int .i64 yg], .int .i64 9500] W31 (fun e w' => ∃ Ya : An, e = .returned Ya.val ∧ AnI w' (fun b => (fun b => W3.heap.size ≤ b ∧ b < W4.heap.size) b ∨ W31.heap.size ≤ b) Ya ∧ But (fun b => W3.heap.size ≤ b ∧ b < W4.heap.size) W31 w')) := by show Calls _ _ _ _ _; have h := grows_any Y1 9500 W31 _ HVy.out.rows HLe.out; unfold An.val at h ⊢; rw [HCsy.out] at h; exact h
              go_wp2_with fail
              refine HC.out.mono ?_
              rintro e_ W32 ⟨Hh, rfl, hI, hbt0⟩
              obtain ⟨jp1, jn1, jc1, jp2, jn2, jc2, jp3, jn3, jc3, jp4, jn4, jc4, je, jf, jg, hcs⟩ := hI.lit
              obtain ⟨W33, hW_⟩ : ∃ V, V = W32.alloc (.cells #[.slice jp1 jn1 jc1, .slice jp2 jn2 jc2, .slice jp3 jn3 jc3, .slice jp4 jn4 jc4, .int .i64 je, .int .i64 jf, .int .i64 jg] 51) := ⟨_, rfl⟩
              have HZW32 : Hid (W31.heap.size ≤ W32.heap.size) := hbt0.size
              have HZW33 : Hid (W33.heap.size = W32.heap.size + 1) := by show _ = _; rw [hW_]; simp
              have hbt : But (fun b => W3.heap.size ≤ b ∧ b < W4.heap.size) W31 W33 := by rw [hW_]; exact hbt0.alloc _
              have hgB := HGB.out
              have hgW := HGW.out
              have z0 := HZW2.out
              have z1 := HZW3.out
              have z2 := HZW4.out
              have z3 := HZW5.out
              have z4 := HZW6.out
              have z5 := HZW7.out
              have z6 := HZW8.out
              have z7 := HZW10.out
              have z8 := HZW11.out
              have z9 := HZW12.out
              have z10 := HZW13.out
              have z11 := HZW14.out
              have z12 := HZW15.out
              have z13 := HZW16.out
              have z14 := HZW17.out
              have z15 := HZW18.out
              have z16 := HZW19.out
              have z17 := HZW20.out
              have z18 := HZW21.out
              have z19 := HZW22.out
              have z20 := HZW23.out
              have z21 := HZW24.out
              have z22 := HZW25.out
              have z23 := HZW26.out
              have z24 := HZW27.out
              have z25 := HZW28.out
              have z26 := HZW29.out
              have z27 := HZW30.out
              have z28 := HZW31.out
              have z29 := HZW32.out
              have z30 := HZW33.out
              replace HVs := hid (HVs.out.but hbt (fun q hq e => by (try dsimp only at hq e); omega) (by (try dsimp only); omega))
              replace HVz := hid (HVz.out.but hbt (fun q hq e => by (try dsimp only at hq e); omega) (by (try dsimp only); omega))
              replace HVq := hid (HVq.out.but hbt (fun q hq e => by (try dsimp only at hq e); omega) (by (try dsimp only); omega))
              replace HVd := hid (HVd.out.but hbt (fun q hq e => by (try dsimp only at hq e); omega) (by (try dsimp only); omega))
              replace HVt := hid (HVt.out.but hbt (fun q hq e => by (try dsimp only at hq e); omega) (by (try dsimp only); omega))
              replace HBw := hid (HBw.out.trans (hbt.below HBw.out.size (fun q hq e => by (try dsimp only at e); omega)))
              have HVj : Hid (Var W33 (fun b => (W3.heap.size ≤ b ∧ b < W4.heap.size) ∨ (W31.heap.size ≤ b ∧ b < W32.heap.size)) W32.heap.size Hh) := by show Var _ _ _ _; rw [hW_, ← hcs]; exact ⟨Box.new _ _ _, (hI.mono fun k hk hl => by (try dsimp only at hk ⊢); omega).below (below1 _ _)⟩
              clear z0 z1 z2 z3 z4 z5 z6 z7 z8 z9 z10 z11 z12 z13 z14 z15 z16 z17 z18 z19 z20 z21 z22 z23 z24 z25 z26 z27 z28 z29 z30
              have HCsj := hid hcs
              have HWW33 := hid hW_
              unfold An.val
              rw [hcs]
              clear hW_ hbt0 hbt hI hcs HC HLe HVy HCsy hgB hgW y_0 y_1 y_2 y_3 y_4 y_5 y_6 y_l
              go_upto_region 36 with fail
              rw [← HWW33.out]
              have bxj := HVj.out.box
              rw [HCsj.out] at bxj
              have j_0 := bxj.cell 0
              have j_1 := bxj.cell 1
              have j_2 := bxj.cell 2
              have j_3 := bxj.cell 3
              have j_4 := bxj.cell 4
              have j_5 := bxj.cell 5
              have j_6 := bxj.cell 6
              simp at j_0 j_1 j_2 j_3 j_4 j_5 j_6
              have j_l := bxj.lt
              clear bxj
              have HC : Hid (Calls Try.prog 21 #[.agg #[.slice jp1 jn1 jc1, .slice jp2 jn2 jc2, .slice jp3 jn3 jc3, .slice jp4 jn4 jc4, .int .i64 je, .int .i64 jf, .int .i64 jg]] W33 (fun e w' => AnsQ (fun Y => Y.like Hh) W33 e w')) := by show Calls _ _ _ _ _; have h := kept_any Hh W33 _ HVj.out.rows; unfold An.val at h; rw [HCsj.out] at h; exact h
              go_wp2_with fail
              refine HC.out.mono ?_
              clear j_0 j_1 j_2 j_3 j_4 j_5 j_6 j_l
              rintro e_ W34 ⟨Oo, hP, rfl, hI, hb_⟩
              obtain ⟨op1, on1, oc1, op2, on2, oc2, op3, on3, oc3, op4, on4, oc4, oe, of, og, hcs⟩ := hI.lit
              obtain ⟨W35, hW_⟩ : ∃ V, V = W34.alloc (.cells #[.slice op1 on1 oc1, .slice op2 on2 oc2, .slice op3 on3 oc3, .slice op4 on4 oc4, .int .i64 oe, .int .i64 of, .int .i64 og] 51) := ⟨_, rfl⟩
              have HZW34 : Hid (W33.heap.size ≤ W34.heap.size) := hb_.size
              have HZW35 : Hid (W35.heap.size = W34.heap.size + 1) := by show _ = _; rw [hW_]; simp
              have hbn : Below W33.heap.size W33 W35 := by rw [hW_]; exact hb_.trans ((below1 _ _).mono hb_.size)
              replace HVs := hid (HVs.out.below hbn)
              replace HVz := hid (HVz.out.below hbn)
              replace HVq := hid (HVq.out.below hbn)
              replace HVd := hid (HVd.out.below hbn)
              replace HVt := hid (HVt.out.below hbn)
              replace HVj := hid (HVj.out.below hbn)
              replace HBw := hid (HBw.out.trans (hbn.mono HBw.out.size))
              have HVo : Hid (Var W35 (fun b => W33.heap.size ≤ b ∧ b < W34.heap.size) W34.heap.size Oo) := by show Var _ _ _ _; rw [hW_, ← hcs]; exact Var.new hI
              have HPo := hid hP
              have HCso := hid hcs
              have HWW35 := hid hW_
              unfold An.val
              rw [hcs]
              clear hW_ hb_ hbn hI hP hcs HC
              go_upto_region 37 with fail
              rw [← HWW35.out]
              have HLjo : Hid (Hh.like Oo) := HPo.out.symm
              have HLw := hid (HL.out.kept HBw.out.size fun b hb _ => HBw.out.block b hb)
              have HSr := hid HLw.out.src
              go_wp2_with (at_builtin; refine wpList_appS rfl (.const (.slice none 0 0)) (.tmp 189) 22 37 i0 _ 4 32 HKd.out rfl W35.heap.size (.slice none 0 0) 0 [] rfl (World.ownsRow_nil _ _ _ _) l.p l.n l.c _ rfl HSr.out (oneTr l) (by omega) (by have := H47.out; omega) (Nat.le_refl _) ?_)
              intro v_ W36 ho hg _
              obtain ⟨p36, c36, rfl, hin⟩ := copied_in hnn ho
              have hb_ : Below W35.heap.size W35 W36 := (Below.refl _ _).grown hg (Nat.le_refl _) (fun k hk => by cases hk)
              have HZW36 : Hid (W35.heap.size ≤ W36.heap.size) := hb_.size
              replace HVs := hid (HVs.out.below hb_)
              replace HVz := hid (HVz.out.below hb_)
              replace HVq := hid (HVq.out.below hb_)
              replace HVd := hid (HVd.out.below hb_)
              replace HVt := hid (HVt.out.below hb_)
              replace HVj := hid (HVj.out.below hb_)
              replace HVo := hid (HVo.out.below hb_)
              replace HBw := hid (HBw.out.trans (hb_.mono HBw.out.size))
              have HC := hid (asked_any ⟨p36, l.n, c36, l.item⟩ i n W36 _ hin H47.out)
              dsimp only at HC
              clear ho hg hb_ hin HSr HLw
              go_wp2_with fail
              refine HC.out.mono ?_
              rintro e_ W37 ⟨Ag, hP, rfl, hI, hb_⟩
              obtain ⟨ap1, an1, ac1, ap2, an2, ac2, ap3, an3, ac3, ap4, an4, ac4, ae, af, ag, hcs⟩ := hI.lit
              obtain ⟨W38, hW_⟩ : ∃ V, V = W37.alloc (.cells #[.slice ap1 an1 ac1, .slice ap2 an2 ac2, .slice ap3 an3 ac3, .slice ap4 an4 ac4, .int .i64 ae, .int .i64 af, .int .i64 ag] 51) := ⟨_, rfl⟩
              have HZW37 : Hid (W36.heap.size ≤ W37.heap.size) := hb_.size
              have HZW38 : Hid (W38.heap.size = W37.heap.size + 1) := by show _ = _; rw [hW_]; simp
              have hbn : Below W36.heap.size W36 W38 := by rw [hW_]; exact hb_.trans ((below1 _ _).mono hb_.size)
              replace HVs := hid (HVs.out.below hbn)
              replace HVz := hid (HVz.out.below hbn)
              replace HVq := hid (HVq.out.below hbn)
              replace HVd := hid (HVd.out.below hbn)
              replace HVt := hid (HVt.out.below hbn)
              replace HVj := hid (HVj.out.below hbn)
              replace HVo := hid (HVo.out.below hbn)
              replace HBw := hid (HBw.out.trans (hbn.mono HBw.out.size))
              have HVa : Hid (Var W38 (fun b => W36.heap.size ≤ b ∧ b < W37.heap.size) W37.heap.size Ag) := by show Var _ _ _ _; rw [hW_, ← hcs]; exact Var.new hI
              have HPa := hid hP
              have HCsa := hid hcs
              have HWW38 := hid hW_
              unfold An.val
              rw [hcs]
              clear hW_ hb_ hbn hI hP hcs HC
              go_upto_region 38 with fail
              rw [← HWW38.out]
              have HLas : Hid (Ag.like Sw) := (AskS.uniq (l := l) HPa.out HPx.out).trans HLxs.out
              have bxa := HVa.out.box
              rw [HCsa.out] at bxa
              have a_0 := bxa.cell 0
              have a_1 := bxa.cell 1
              have a_2 := bxa.cell 2
              have a_3 := bxa.cell 3
              have a_4 := bxa.cell 4
              have a_5 := bxa.cell 5
              have a_6 := bxa.cell 6
              simp at a_0 a_1 a_2 a_3 a_4 a_5 a_6
              have a_l := bxa.lt
              clear bxa
              have bxs := HVs.out.box
              rw [HCss.out] at bxs
              have s_0 := bxs.cell 0
              have s_1 := bxs.cell 1
              have s_2 := bxs.cell 2
              have s_3 := bxs.cell 3
              have s_4 := bxs.cell 4
              have s_5 := bxs.cell 5
              have s_6 := bxs.cell 6
              simp at s_0 s_1 s_2 s_3 s_4 s_5 s_6
              have s_l := bxs.lt
              clear bxs
              have HC : Hid (Calls Try.prog 22 #[.agg #[.slice ap1 an1 ac1, .slice ap2 an2 ac2, .slice ap3 an3 ac3, .slice ap4 an4 ac4, .int .i64 ae, .int .i64 af, .int .i64 ag], .agg #[.slice sp1 sn1 sc1, .slice sp2 sn2 sc2, .slice sp3 sn3 sc3, .slice sp4 sn4 sc4, .int .i64 se, .int .i64 sf, .int .i64 sg]] W38 (fun e w' => e = .returned (.bool true) ∧ Below (W38).heap.size (W38) w')) := by show Calls _ _ _ _ _; have h := same_any Ag Sw (W38) _ _ (HVa.out.rows) (HVs.out.rows) (HLas.out); unfold An.val at h; rw [HCsa.out, HCss.out] at h; exact h
              go_wp2_with fail
              refine HC.out.mono ?_
              rintro e_ W39 ⟨rfl, hb_⟩
              have HZW39 : Hid (W38.heap.size ≤ W39.heap.size) := hb_.size
              replace HVs := hid (HVs.out.below hb_)
              replace HVz := hid (HVz.out.below hb_)
              replace HVq := hid (HVq.out.below hb_)
              replace HVd := hid (HVd.out.below hb_)
              replace HVt := hid (HVt.out.below hb_)
              replace HVj := hid (HVj.out.below hb_)
              replace HVo := hid (HVo.out.below hb_)
              replace HVa := hid (HVa.out.below hb_)
              replace HBw := hid (HBw.out.trans (hb_.mono HBw.out.size))
              clear hb_ HC a_0 a_1 a_2 a_3 a_4 a_5 a_6 a_l s_0 s_1 s_2 s_3 s_4 s_5 s_6 s_l
              have bxd := HVd.out.box
              rw [HCsd.out] at bxd
              have d_0 := bxd.cell 0
              have d_1 := bxd.cell 1
              have d_2 := bxd.cell 2
              have d_3 := bxd.cell 3
              have d_4 := bxd.cell 4
              have d_5 := bxd.cell 5
              have d_6 := bxd.cell 6
              simp at d_0 d_1 d_2 d_3 d_4 d_5 d_6
              have d_l := bxd.lt
              clear bxd
              have bxt := HVt.out.box
              rw [HCst.out] at bxt
              have t_0 := bxt.cell 0
              have t_1 := bxt.cell 1
              have t_2 := bxt.cell 2
              have t_3 := bxt.cell 3
              have t_4 := bxt.cell 4
              have t_5 := bxt.cell 5
              have t_6 := bxt.cell 6
              simp at t_0 t_1 t_2 t_3 t_4 t_5 t_6
              have t_l := bxt.lt
              clear bxt
              have HC : Hid (Calls Try.prog 22 #[.agg #[.slice dp1 dn1 dc1, .slice dp2 dn2 dc2, .slice dp3 dn3 dc3, .slice dp4 dn4 dc4, .int .i64 de, .int .i64 df, .int .i64 dg], .agg #[.slice tp1 tn1 tc1, .slice tp2 tn2 tc2, .slice tp3 tn3 tc3, .slice tp4 tn4 tc4, .int .i64 te, .int .i64 tf, .int .i64 tg]] W39 (fun e w' => e = .returned (.bool true) ∧ Below (W39).heap.size (W39) w')) := by show Calls _ _ _ _ _; have h := same_any Gg Kk (W39) _ _ (HVd.out.rows) (HVt.out.rows) (HLdt.out); unfold An.val at h; rw [HCsd.out, HCst.out] at h; exact h
              go_wp2_with fail
              refine HC.out.mono ?_
              rintro e_ W40 ⟨rfl, hb_⟩
              have HZW40 : Hid (W39.heap.size ≤ W40.heap.size) := hb_.size
              replace HVs := hid (HVs.out.below hb_)
              replace HVz := hid (HVz.out.below hb_)
              replace HVq := hid (HVq.out.below hb_)
              replace HVd := hid (HVd.out.below hb_)
              replace HVt := hid (HVt.out.below hb_)
              replace HVj := hid (HVj.out.below hb_)
              replace HVo := hid (HVo.out.below hb_)
              replace HVa := hid (HVa.out.below hb_)
              replace HBw := hid (HBw.out.trans (hb_.mono HBw.out.size))
              clear hb_ HC d_0 d_1 d_2 d_3 d_4 d_5 d_6 d_l t_0 t_1 t_2 t_3 t_4 t_5 t_6 t_l
              have bxj := HVj.out.box
              rw [HCsj.out] at bxj
              have j_0 := bxj.cell 0
              have j_1 := bxj.cell 1
              have j_2 := bxj.cell 2
              have j_3 := bxj.cell 3
              have j_4 := bxj.cell 4
              have j_5 := bxj.cell 5
              have j_6 := bxj.cell 6
              simp at j_0 j_1 j_2 j_3 j_4 j_5 j_6
              have j_l := bxj.lt
              clear bxj
              have bxo := HVo.out.box
              rw [HCso.out] at bxo
              have o_0 := bxo.cell 0
              have o_1 := bxo.cell 1
              have o_2 := bxo.cell 2
              have o_3 := bxo.cell 3
              have o_4 := bxo.cell 4
              have o_5 := bxo.cell 5
              have o_6 := bxo.cell 6
              simp at o_0 o_1 o_2 o_3 o_4 o_5 o_6
              have o_l := bxo.lt
              clear bxo
              have HC : Hid (Calls Try.prog 22 #[.agg #[.slice jp1 jn1 jc1, .slice jp2 jn2 jc2, .slice jp3 jn3 jc3, .slice jp4 jn4 jc4, .int .i64 je, .int .i64 jf, .int .i64 jg], .agg #[.slice op1 on1 oc1, .slice op2 on2 oc2, .slice op3 on3 oc3, .slice op4 on4 oc4, .int .i64 oe, .int .i64 of, .int .i64 og]] W40 (fun e w' => e = .returned (.bool true) ∧ Below (W40).heap.size (W40) w')) := by show Calls _ _ _ _ _; have h := same_any Hh Oo (W40) _ _ (HVj.out.rows) (HVo.out.rows) (HLjo.out); unfold An.val at h; rw [HCsj.out, HCso.out] at h; exact h
              go_wp2_with fail
              refine HC.out.mono ?_
              rintro e_ W41 ⟨rfl, hb_⟩
              have HZW41 : Hid (W40.heap.size ≤ W41.heap.size) := hb_.size
              replace HVs := hid (HVs.out.below hb_)
              replace HVz := hid (HVz.out.below hb_)
              replace HVq := hid (HVq.out.below hb_)
              replace HVd := hid (HVd.out.below hb_)
              replace HVt := hid (HVt.out.below hb_)
              replace HVj := hid (HVj.out.below hb_)
              replace HVo := hid (HVo.out.below hb_)
              replace HVa := hid (HVa.out.below hb_)
              replace HBw := hid (HBw.out.trans (hb_.mono HBw.out.size))
              clear hb_ HC j_0 j_1 j_2 j_3 j_4 j_5 j_6 j_l o_0 o_1 o_2 o_3 o_4 o_5 o_6 o_l
              have bxz := HVz.out.box
              rw [HCsz.out] at bxz
              have z_0 := bxz.cell 0
              have z_1 := bxz.cell 1
              have z_2 := bxz.cell 2
              have z_3 := bxz.cell 3
              have z_4 := bxz.cell 4
              have z_5 := bxz.cell 5
              have z_6 := bxz.cell 6
              simp at z_0 z_1 z_2 z_3 z_4 z_5 z_6
              have z_l := bxz.lt
              clear bxz
              have bxq := HVq.out.box
              rw [HCsq.out] at bxq
              have q_0 := bxq.cell 0
              have q_1 := bxq.cell 1
              have q_2 := bxq.cell 2
              have q_3 := bxq.cell 3
              have q_4 := bxq.cell 4
              have q_5 := bxq.cell 5
              have q_6 := bxq.cell 6
              simp at q_0 q_1 q_2 q_3 q_4 q_5 q_6
              have q_l := bxq.lt
              clear bxq
              have HC : Hid (Calls Try.prog 22 #[.agg #[.slice zp1 zn1 zc1, .slice zp2 zn2 zc2, .slice zp3 zn3 zc3, .slice zp4 zn4 zc4, .int .i64 ze, .int .i64 zf, .int .i64 zg], .agg #[.slice qp1 qn1 qc1, .slice qp2 qn2 qc2, .slice qp3 qn3 qc3, .slice qp4 qn4 qc4, .int .i64 qe, .int .i64 qf, .int .i64 qg]] W41 (fun e w' => e = .returned (.bool true) ∧ Below (W41).heap.size (W41) w')) := by show Calls _ _ _ _ _; have h := same_any Zz Nw (W41) _ _ (HVz.out.rows) (HVq.out.rows) (HLzq.out); unfold An.val at h; rw [HCsz.out, HCsq.out] at h; exact h
              go_wp2_with fail
              refine HC.out.mono ?_
              rintro e_ W42 ⟨rfl, hb_⟩
              have HZW42 : Hid (W41.heap.size ≤ W42.heap.size) := hb_.size
              replace HVs := hid (HVs.out.below hb_)
              replace HVz := hid (HVz.out.below hb_)
              replace HVq := hid (HVq.out.below hb_)
              replace HVd := hid (HVd.out.below hb_)
              replace HVt := hid (HVt.out.below hb_)
              replace HVj := hid (HVj.out.below hb_)
              replace HVo := hid (HVo.out.below hb_)
              replace HVa := hid (HVa.out.below hb_)
              replace HBw := hid (HBw.out.trans (hb_.mono HBw.out.size))
              clear hb_ HC z_0 z_1 z_2 z_3 z_4 z_5 z_6 z_l q_0 q_1 q_2 q_3 q_4 q_5 q_6 q_l
              go_wp2
              go_ret
              exact ⟨rfl, HBw.out⟩
end Go.Proofs.Ytdpfgflofjiheaa
