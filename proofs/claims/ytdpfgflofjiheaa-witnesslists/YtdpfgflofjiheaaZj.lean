import Derived.Test.YtdpfgflofjiheaaPack35
namespace Go.Proofs.Ytdpfgflofjiheaa
open Go.RowKit
set_option maxRecDepth 8000
/-- a life looked for from the front -/
def FSeek (f : Nat → TR) (i : Int) (k s : Nat) (x y : Int) (free : Bool) : Prop := Cuts f k s ∧ ((x = -1 ∧ y = -1 ∧ free = true ∧ NoLife f k i) ∨ ∃ a b : Nat, x = (a : Int) ∧ y = (b : Int) ∧ LifeAt f k i a b ∧ (free = true → ∀ q, s ≤ q → q < k → ¬ (f q).rd i) ∧ (free = false → a = s))
theorem LifeAt.miss {f : Nat → TR} {k : Nat} {i : Int} {a b : Nat} (h : LifeAt f k i a b) (hn : ¬ (f k).rd i) : LifeAt f (k + 1) i a b := by
  obtain ⟨z, h1, h2, h3, h4, h5⟩ := h.last
  refine ⟨h.ab, by have := h.bn; omega, h.rd, h.no, h.up, z, h1, by omega, h3, fun q g1 g2 => ?_, h5⟩
  by_cases e : q = k
  · subst e; exact hn
  · exact h4 q g1 (by omega)
theorem FSeek.start (f : Nat → TR) (i : Int) : FSeek f i 0 0 (-1) (-1) true := ⟨Cuts.start f, .inl ⟨rfl, rfl, rfl, fun q hq => by omega⟩⟩
theorem FSeek.up {f : Nat → TR} {i : Int} {k s : Nat} {x y : Int} {free : Bool} (h : FSeek f i k s x y free) (hk : (f k).kind = 11) : FSeek f i (k + 1) (k + 1) x y true := by
  have hn : ¬ (f k).rd i := fun e => by have := e.1; omega
  refine ⟨Cuts.hit hk, ?_⟩
  rcases h.2 with ⟨rfl, rfl, _, h1⟩ | ⟨a, b, rfl, rfl, h1, _, _⟩
  · refine .inl ⟨rfl, rfl, rfl, fun q hq => ?_⟩
    by_cases e : q = k
    · subst e; exact hn
    · exact h1 q (by omega)
  · exact .inr ⟨a, b, rfl, rfl, h1.miss hn, fun _ q g1 g2 => by omega, fun e => by cases e⟩
theorem FSeek.miss {f : Nat → TR} {i : Int} {k s : Nat} {x y : Int} {free : Bool} (h : FSeek f i k s x y free) (hk : (f k).kind ≠ 11) (hn : ¬ (f k).rd i) : FSeek f i (k + 1) s x y free := by
  refine ⟨h.1.miss hk, ?_⟩
  rcases h.2 with ⟨rfl, rfl, h0, h1⟩ | ⟨a, b, rfl, rfl, h1, h2, h3⟩
  · refine .inl ⟨rfl, rfl, h0, fun q hq => ?_⟩
    by_cases e : q = k
    · subst e; exact hn
    · exact h1 q (by omega)
  · refine .inr ⟨a, b, rfl, rfl, h1.miss hn, fun e q g1 g2 => ?_, h3⟩
    by_cases e' : q = k
    · subst e'; exact hn
    · exact h2 e q g1 (by omega)
theorem FSeek.hit {f : Nat → TR} {i : Int} {k s : Nat} {x y : Int} (h : FSeek f i k s x y true) (hr : (f k).rd i) : FSeek f i (k + 1) s (s : Int) (k : Int) false := by
  have hk : (f k).kind ≠ 11 := by have := hr.1; omega
  have hs : ∀ q, s ≤ q → q < k → ¬ (f q).rd i := by
    rcases h.2 with ⟨_, _, _, h1⟩ | ⟨a, b, _, _, _, h2, _⟩
    · exact fun q _ g2 => h1 q g2
    · exact h2 rfl
  have hc := h.1.miss hk
  refine ⟨hc, .inr ⟨s, k, rfl, rfl, ⟨h.1.1, by omega, hr, hs, h.1.2.1, k, Nat.le_refl _, by omega, hr, fun q g1 g2 => by omega, fun q g1 g2 => hc.2.2 q g1 (by omega)⟩, fun e => (by cases e), fun _ => rfl⟩⟩
theorem FSeek.more {f : Nat → TR} {i : Int} {k s : Nat} {x y : Int} (h : FSeek f i k s x y false) (hr : (f k).rd i) : FSeek f i (k + 1) s x y false := by
  have hk : (f k).kind ≠ 11 := by have := hr.1; omega
  have hc := h.1.miss hk
  rcases h.2 with ⟨_, _, h0, _⟩ | ⟨a, b, rfl, rfl, h1, h2, h3⟩
  · cases h0
  · have ha := h3 rfl
    have hb := h1.bn
    refine ⟨hc, .inr ⟨a, b, rfl, rfl, ⟨h1.ab, by omega, h1.rd, h1.no, h1.up, k, by omega, by omega, hr, fun q g1 g2 => by omega, fun q g1 g2 => hc.2.2 q (by omega) (by omega)⟩, fun e => (by cases e), h3⟩⟩
theorem FSeek.done {f : Nat → TR} {i : Int} {k s : Nat} {x y : Int} {free : Bool} (h : FSeek f i k s x y free) : RLifeQ f k i (.returned (.tuple #[.int .i64 x, .int .i64 y])) := by
  rcases h.2 with ⟨rfl, rfl, _, h1⟩ | ⟨a, b, rfl, rfl, h1, _, _⟩
  · exact .inl ⟨h1, rfl⟩
  · exact .inr ⟨a, b, h1, rfl⟩
set_option maxHeartbeats 8000000 in
theorem life_any (l : LT TR) (i : Int) (w : World) (S : Nat → Prop) (hl : LT.In elTr w S l) :
    Calls Try.prog 13 #[.slice l.p l.n l.c, .int .i64 i] w fun e w' => RLifeQ l.item l.n i e ∧ w' = w := by
  have hnn := hl.nn
  have H := hid hl
  clear hl
  go_enter Try.func13, Try.ntmps13
  go_wp2_with fail
  go_loopw [6, 7, 8, 9, 10] (fun v6 v7 v8 v9 v10 wr => ∃ (k s : Nat) (x y : Int) (fr : Bool), k ≤ l.n ∧ v6 = .int .i64 (s : Int) ∧ v7 = .int .i64 x ∧ v8 = .int .i64 y ∧ v9 = .bool fr ∧ v10 = .int .i64 (k : Int) ∧ FSeek l.item i k s x y fr ∧ wr = w) (fun _ _ _ _ v10 _ => l.n - (intOf v10).toNat)
  case atStart => exact ⟨0, 0, -1, -1, true, Nat.zero_le _, rfl, rfl, rfl, rfl, rfl, FSeek.start _ _, rfl⟩
  case round =>
    obtain ⟨k, s, x, y, fr, hk, rfl, rfl, rfl, rfl, rfl, hF, hw⟩ := hrel
    rw [hw]
    clear hw
    have HF := hid hF
    clear hF
    by_cases hlt : k < l.n
    · have hlt' : (k : Int) < (l.n : Int) := by omega
      obtain ⟨b1, o1, hp, _, hl1, ha⟩ := H.out.tr (by omega)
      obtain ⟨a0, a1, a2, a3⟩ := ha k hlt
      rw [hp]
      clear ha hp
      by_cases h11 : (l.item k).kind = 11
      · have HK := hid h11
        have h6 : ¬ (l.item k).kind = 6 := by omega
        rw [h11] at a0
        clear h11 h6
        go_wp2
        go_roundw
        case rel => exact ⟨k + 1, k + 1, x, y, true, by omega, by go_num, rfl, rfl, rfl, by go_num, HF.out.up HK.out, by first | rfl | trivial⟩
        case measure => simp [intOf]; omega
      · have HK := hid h11
        by_cases hr : (l.item k).rd i
        · have HR := hid hr
          have h6 := hr.1
          have h7 := hr.2
          rw [h6] at a0
          rw [h7] at a3
          clear h11 hr h6 h7
          cases fr with
          | true =>
            go_wp2
            go_roundw
            case rel => exact ⟨k + 1, s, s, k, false, by omega, rfl, rfl, rfl, rfl, by go_num, HF.out.hit HR.out, by first | rfl | trivial⟩
            case measure => simp [intOf]; omega
          | false =>
            go_wp2
            go_roundw
            case rel => exact ⟨k + 1, s, x, y, false, by omega, rfl, rfl, rfl, rfl, by go_num, HF.out.more HR.out, by first | rfl | trivial⟩
            case measure => simp [intOf]; omega
        · have HR := hid hr
          by_cases h6 : (l.item k).kind = 6
          · have h7 : ¬ (l.item k).id = i := fun e => hr ⟨h6, e⟩
            rw [h6] at a0
            clear h11 hr h6
            go_wp2
            go_roundw
            case rel => exact ⟨k + 1, s, x, y, fr, by omega, rfl, rfl, rfl, rfl, by go_num, HF.out.miss HK.out HR.out, by first | rfl | trivial⟩
            case measure => simp [intOf]; omega
          · clear hr
            go_wp2
            go_roundw
            case rel => exact ⟨k + 1, s, x, y, fr, by omega, rfl, rfl, rfl, rfl, by go_num, HF.out.miss HK.out HR.out, by first | rfl | trivial⟩
            case measure => simp [intOf]; omega
    · obtain rfl : k = l.n := by omega
      go_wp2
      exact bodyPost_ret (v := .tuple #[.int .i64 x, .int .i64 y]) (by simp [results, Try.results13, go_sem]) rfl ⟨HF.out.done, rfl⟩
/-- copies counted: none, one, or more -/
def CSum (f : Nat → TR) (a q : Nat) (i k : Int) (c : Nat) : Prop := c ≤ q - a ∧ ((c = 0 ∧ ∀ x, a ≤ x → x < q → ¬ (f x).cp i k) ∨ (c = 1 ∧ ∃ m, OneCp f a q i k m) ∨ (2 ≤ c ∧ ∃ m m', a ≤ m ∧ m < m' ∧ m' < q ∧ (f m).cp i k ∧ (f m').cp i k))
theorem CSum.start (f : Nat → TR) (a : Nat) (i k : Int) : CSum f a a i k 0 := ⟨Nat.zero_le _, .inl ⟨rfl, fun x h1 h2 => by omega⟩⟩
theorem CSum.miss {f : Nat → TR} {a q : Nat} {i k : Int} {c : Nat} (h : CSum f a q i k c) (_ : a ≤ q) (hn : ¬ (f q).cp i k) : CSum f a (q + 1) i k c := by
  refine ⟨by have := h.1; omega, ?_⟩
  rcases h.2 with ⟨h1, h2⟩ | ⟨h1, m, g1, g2, g3, g4⟩ | ⟨h1, m, m', g1, g2, g3, g4, g5⟩
  · refine .inl ⟨h1, fun x e1 e2 => ?_⟩
    by_cases e : x = q
    · subst e; exact hn
    · exact h2 x e1 (by omega)
  · refine .inr (.inl ⟨h1, m, g1, by omega, g3, fun x e1 e2 e3 => ?_⟩)
    by_cases e : x = q
    · subst e; exact (hn e3).elim
    · exact g4 x e1 (by omega) e3
  · exact .inr (.inr ⟨h1, m, m', g1, g2, by omega, g4, g5⟩)
theorem CSum.hit {f : Nat → TR} {a q : Nat} {i k : Int} {c : Nat} (h : CSum f a q i k c) (ha : a ≤ q) (hn : (f q).cp i k) : CSum f a (q + 1) i k (c + 1) := by
  refine ⟨by have := h.1; omega, ?_⟩
  rcases h.2 with ⟨h1, h2⟩ | ⟨h1, m, g1, g2, g3, g4⟩ | ⟨h1, m, m', g1, g2, g3, g4, g5⟩
  · refine .inr (.inl ⟨by omega, q, ha, by omega, hn, fun x e1 e2 e3 => ?_⟩)
    by_cases e : x = q
    · exact e
    · exact (h2 x e1 (by omega) e3).elim
  · exact .inr (.inr ⟨by omega, m, q, g1, g2, by omega, g3, hn⟩)
  · exact .inr (.inr ⟨by omega, m, m', g1, g2, by omega, g4, g5⟩)
theorem CSum.done {f : Nat → TR} {a q : Nat} {i k : Int} {c : Nat} (h : CSum f a q i k c) : c = 1 ↔ ∃ m, OneCp f a q i k m := by
  rcases h.2 with ⟨h1, h2⟩ | ⟨h1, m, g1, g2, g3, g4⟩ | ⟨h1, m, m', g1, g2, g3, g4, g5⟩
  · exact ⟨fun e => by omega, fun ⟨m, e1, e2, e3, _⟩ => (h2 m e1 e2 e3).elim⟩
  · exact ⟨fun _ => ⟨m, g1, g2, g3, g4⟩, fun _ => h1⟩
  · exact ⟨fun e => by omega, fun ⟨x, e1, e2, e3, e4⟩ => by have := e4 m g1 (by omega) g4; have := e4 m' (by omega) g3 g5; omega⟩
/-- a split is not refused -/
def Fine (l : LT TR) (i n : Int) : Prop := CanL n l ∧ ∃ a b, LifeAt l.item l.n i a b ∧ AllCp l.item a b i n.toNat
set_option maxHeartbeats 100000000 in
theorem refusable_any (l : LT TR) (i n : Int) (w : World) (S : Nat → Prop) (hl : LT.In elTr w S l) :
    Calls Try.prog 12 #[.slice l.p l.n l.c, .int .i64 i, .int .i64 n] w fun e w' => YesQ (¬ Fine l i n) w e w' := by
  have hnn := hl.nn
  have H := hid hl
  clear hl
  by_cases h1 : n < 1
  · have HN : Hid (¬ Fine l i n) := fun h => by have := h.1.1; omega
    go_enter Try.func12, Try.ntmps12
    go_wp2
    go_ret
    exact ⟨true, rfl, ⟨fun _ => HN.out, fun _ => rfl⟩, Below.refl _ _⟩
  by_cases h12 : 12 < n
  · have HN : Hid (¬ Fine l i n) := fun h => by have := h.1.2.1; omega
    go_enter Try.func12, Try.ntmps12
    go_wp2
    go_ret
    exact ⟨true, rfl, ⟨fun _ => HN.out, fun _ => rfl⟩, Below.refl _ _⟩
  obtain ⟨T, rfl⟩ : ∃ T : Nat, n = (T : Int) := ⟨n.toNat, by omega⟩
  go_enter Try.func12, Try.ntmps12
  go_wp2_with fail
  go_loopw [7] (fun x wr => ∃ k : Nat, k ≤ l.n ∧ x = .int .i64 (k : Int) ∧ (∀ q, q < k → Can (T : Int) (l.item q)) ∧ Below w.heap.size w wr) (fun x _ => l.n - (intOf x).toNat)
  case atStart => exact ⟨0, Nat.zero_le _, rfl, fun q hq => by omega, Below.refl _ _⟩
  case round =>
    obtain ⟨k, hk, rfl, hc, hb⟩ := hrel
    have HC := hid hc
    have HB := hid hb
    clear hc hb
    by_cases hlt : k < l.n
    · have hlt' : (k : Int) < (l.n : Int) := by omega
      obtain ⟨b1, o1, hp, _, hl1, ha⟩ := (H.out.below HB.out).tr (by omega)
      obtain ⟨a0, a1, a2, a3⟩ := ha k hlt
      rw [hp]
      clear ha hp
      obtain ⟨X, hX⟩ : ∃ X, X = l.item k := ⟨_, rfl⟩
      rw [← hX] at a0 a1 a2 a3
      obtain ⟨K, t, p, d⟩ := X
      dsimp only at a0 a1 a2 a3
      have HX := hid hX
      have HNo := hid (show ¬ Can (T : Int) ⟨K, t, p, d⟩ → ¬ Fine l i (T : Int) from fun h g => h (by rw [hX]; exact g.1.2.2 k hlt))
      have HYes := hid (show Can (T : Int) ⟨K, t, p, d⟩ → ∀ q, q < k + 1 → Can (T : Int) (l.item q) from fun h q hq => by
        by_cases e : q = k
        · subst e; rw [← hX]; exact h
        · exact HC.out q (by omega))
      clear hX
      obtain ⟨V, hV⟩ : ∃ Y, Y = wr.alloc (.cells #[.int .i64 K, .int .i64 t, .int .i64 p, .int .i64 d] 37) := ⟨_, rfl⟩
      have bx : Box V wr.heap.size #[.int .i64 K, .int .i64 t, .int .i64 p, .int .i64 d] 37 := by rw [hV]; exact Box.new _ _ _
      have hbV : Below wr.heap.size wr V := by rw [hV]; exact below1 _ _
      have q0 := bx.cell 0
      have q1 := bx.cell 1
      have q2 := bx.cell 2
      have q3 := bx.cell 3
      have ql := bx.lt
      simp at q0 q1 q2 q3
      have HV := hid hV
      have HBV : Hid (Below w.heap.size w V) := HB.out.trans (hbV.mono HB.out.size)
      clear hV bx hbV
      go_upto_region 7 with fail
      rw [← HV.out]
      clear a0 a1 a2 a3
      by_cases h1_ : K < 1
      · skip
        have HN := hid (HNo.out (by unfold Can; dsimp only; omega))
        go_wp2
        go_ret
        exact ⟨true, rfl, ⟨fun _ => HN.out, fun _ => rfl⟩, HBV.out⟩
      · skip
        by_cases h2_ : 11 < K
        · skip
          have HN := hid (HNo.out (by unfold Can; dsimp only; omega))
          go_wp2
          go_ret
          exact ⟨true, rfl, ⟨fun _ => HN.out, fun _ => rfl⟩, HBV.out⟩
        · skip
          by_cases h3_ : t < 0
          · skip
            have HN := hid (HNo.out (by unfold Can; dsimp only; omega))
            go_wp2
            go_ret
            exact ⟨true, rfl, ⟨fun _ => HN.out, fun _ => rfl⟩, HBV.out⟩
          · skip
            by_cases h4_ : (T : Int) ≤ t
            · skip
              have HN := hid (HNo.out (by unfold Can; dsimp only; omega))
              go_wp2
              go_ret
              exact ⟨true, rfl, ⟨fun _ => HN.out, fun _ => rfl⟩, HBV.out⟩
            · skip
              by_cases h5_ : p < 0
              · skip
                have HN := hid (HNo.out (by unfold Can; dsimp only; omega))
                go_wp2
                go_ret
                exact ⟨true, rfl, ⟨fun _ => HN.out, fun _ => rfl⟩, HBV.out⟩
              · skip
                by_cases h6_ : 3 < p
                · skip
                  have HN := hid (HNo.out (by unfold Can; dsimp only; omega))
                  go_wp2
                  go_ret
                  exact ⟨true, rfl, ⟨fun _ => HN.out, fun _ => rfl⟩, HBV.out⟩
                · skip
                  by_cases h7_ : d < 0
                  · skip
                    have HN := hid (HNo.out (by unfold Can; dsimp only; omega))
                    go_wp2
                    go_ret
                    exact ⟨true, rfl, ⟨fun _ => HN.out, fun _ => rfl⟩, HBV.out⟩
                  · skip
                    by_cases h99_ : 9999 < d
                    · by_cases hk9_ : K = 9
                      · skip
                        subst hk9_
                        have hd0_ : ¬ d = 0 := by omega
                        go_upto_region 9 with fail
                        by_cases h8_ : p = 0
                        · skip
                          by_cases h9_ : t = 0
                          · skip
                            have HG := hid (HYes.out (by unfold Can; dsimp only; omega))
                            go_wp2
                            go_roundw
                            case rel => exact ⟨k + 1, by omega, by go_num, HG.out, HBV.out⟩
                            case measure => simp [intOf]; omega
                          · skip
                            have HG := hid (HYes.out (by unfold Can; dsimp only; omega))
                            go_wp2
                            go_roundw
                            case rel => exact ⟨k + 1, by omega, by go_num, HG.out, HBV.out⟩
                            case measure => simp [intOf]; omega
                        · skip
                          have HN := hid (HNo.out (by unfold Can; dsimp only; omega))
                          go_wp2
                          go_ret
                          exact ⟨true, rfl, ⟨fun _ => HN.out, fun _ => rfl⟩, HBV.out⟩
                      · skip
                        have HN := hid (HNo.out (by unfold Can; dsimp only; omega))
                        go_wp2
                        go_ret
                        exact ⟨true, rfl, ⟨fun _ => HN.out, fun _ => rfl⟩, HBV.out⟩
                    · skip
                      go_upto_region 9 with fail
                      by_cases h10_ : p = 0
                      · skip
                        by_cases h11_ : d = 0
                        · skip
                          by_cases h12_ : 1 < K
                          · skip
                            by_cases h13_ : K < 9
                            · skip
                              have HN := hid (HNo.out (by unfold Can; dsimp only; omega))
                              go_wp2
                              go_ret
                              exact ⟨true, rfl, ⟨fun _ => HN.out, fun _ => rfl⟩, HBV.out⟩
                            · skip
                              by_cases h14_ : t = 0
                              · skip
                                have HG := hid (HYes.out (by unfold Can; dsimp only; omega))
                                go_wp2
                                go_roundw
                                case rel => exact ⟨k + 1, by omega, by go_num, HG.out, HBV.out⟩
                                case measure => simp [intOf]; omega
                              · skip
                                have h15_ : 4 < K := by omega
                                have h16_ : ¬ K < 9 := by omega
                                by_cases h17_ : 9 < K
                                · skip
                                  have HN := hid (HNo.out (by unfold Can; dsimp only; omega))
                                  go_wp2
                                  go_ret
                                  exact ⟨true, rfl, ⟨fun _ => HN.out, fun _ => rfl⟩, HBV.out⟩
                                · skip
                                  have HG := hid (HYes.out (by unfold Can; dsimp only; omega))
                                  go_wp2
                                  go_roundw
                                  case rel => exact ⟨k + 1, by omega, by go_num, HG.out, HBV.out⟩
                                  case measure => simp [intOf]; omega
                          · skip
                            by_cases h18_ : t = 0
                            · skip
                              have HG := hid (HYes.out (by unfold Can; dsimp only; omega))
                              go_wp2
                              go_roundw
                              case rel => exact ⟨k + 1, by omega, by go_num, HG.out, HBV.out⟩
                              case measure => simp [intOf]; omega
                            · skip
                              have h19_ : ¬ 4 < K := by omega
                              have h20_ : ¬ 9 < K := by omega
                              have HG := hid (HYes.out (by unfold Can; dsimp only; omega))
                              go_wp2
                              go_roundw
                              case rel => exact ⟨k + 1, by omega, by go_num, HG.out, HBV.out⟩
                              case measure => simp [intOf]; omega
                        · skip
                          by_cases h21_ : K = 1
                          · skip
                            have HN := hid (HNo.out (by unfold Can; dsimp only; omega))
                            go_wp2
                            go_ret
                            exact ⟨true, rfl, ⟨fun _ => HN.out, fun _ => rfl⟩, HBV.out⟩
                          · skip
                            have h21_b : (K == 1) = false := by simpa using h21_
                            by_cases h22_ : K = 10
                            · skip
                              have HN := hid (HNo.out (by unfold Can; dsimp only; omega))
                              go_wp2
                              go_ret
                              exact ⟨true, rfl, ⟨fun _ => HN.out, fun _ => rfl⟩, HBV.out⟩
                            · skip
                              have h22_b : (K == 10) = false := by simpa using h22_
                              by_cases h23_ : t = 0
                              · skip
                                have HG := hid (HYes.out (by unfold Can; dsimp only; omega))
                                go_wp2
                                go_roundw
                                case rel => exact ⟨k + 1, by omega, by go_num, HG.out, HBV.out⟩
                                case measure => simp [intOf]; omega
                              · skip
                                by_cases h24_ : 4 < K
                                · skip
                                  by_cases h25_ : K < 9
                                  · skip
                                    have HN := hid (HNo.out (by unfold Can; dsimp only; omega))
                                    go_wp2
                                    go_ret
                                    exact ⟨true, rfl, ⟨fun _ => HN.out, fun _ => rfl⟩, HBV.out⟩
                                  · skip
                                    by_cases h26_ : 9 < K
                                    · skip
                                      have HN := hid (HNo.out (by unfold Can; dsimp only; omega))
                                      go_wp2
                                      go_ret
                                      exact ⟨true, rfl, ⟨fun _ => HN.out, fun _ => rfl⟩, HBV.out⟩
                                    · skip
                                      have HG := hid (HYes.out (by unfold Can; dsimp only; omega))
                                      go_wp2
                                      go_roundw
                                      case rel => exact ⟨k + 1, by omega, by go_num, HG.out, HBV.out⟩
                                      case measure => simp [intOf]; omega
                                · skip
                                  have h27_ : ¬ 9 < K := by omega
                                  have HG := hid (HYes.out (by unfold Can; dsimp only; omega))
                                  go_wp2
                                  go_roundw
                                  case rel => exact ⟨k + 1, by omega, by go_num, HG.out, HBV.out⟩
                                  case measure => simp [intOf]; omega
                      · skip
                        by_cases h28_ : 2 < K
                        · skip
                          have HN := hid (HNo.out (by unfold Can; dsimp only; omega))
                          go_wp2
                          go_ret
                          exact ⟨true, rfl, ⟨fun _ => HN.out, fun _ => rfl⟩, HBV.out⟩
                        · skip
                          by_cases h29_ : d = 0
                          · skip
                            by_cases h30_ : 1 < K
                            · skip
                              have h31_ : K < 9 := by omega
                              have HN := hid (HNo.out (by unfold Can; dsimp only; omega))
                              go_wp2
                              go_ret
                              exact ⟨true, rfl, ⟨fun _ => HN.out, fun _ => rfl⟩, HBV.out⟩
                            · skip
                              by_cases h32_ : t = 0
                              · skip
                                have HG := hid (HYes.out (by unfold Can; dsimp only; omega))
                                go_wp2
                                go_roundw
                                case rel => exact ⟨k + 1, by omega, by go_num, HG.out, HBV.out⟩
                                case measure => simp [intOf]; omega
                              · skip
                                have h33_ : ¬ 4 < K := by omega
                                have h34_ : ¬ 9 < K := by omega
                                have HG := hid (HYes.out (by unfold Can; dsimp only; omega))
                                go_wp2
                                go_roundw
                                case rel => exact ⟨k + 1, by omega, by go_num, HG.out, HBV.out⟩
                                case measure => simp [intOf]; omega
                          · skip
                            by_cases h35_ : K = 1
                            · skip
                              have HN := hid (HNo.out (by unfold Can; dsimp only; omega))
                              go_wp2
                              go_ret
                              exact ⟨true, rfl, ⟨fun _ => HN.out, fun _ => rfl⟩, HBV.out⟩
                            · skip
                              have h35_b : (K == 1) = false := by simpa using h35_
                              have h36_ : ¬ K = 10 := by omega
                              have h36_b : (K == 10) = false := by simpa using h36_
                              by_cases h37_ : t = 0
                              · skip
                                have HG := hid (HYes.out (by unfold Can; dsimp only; omega))
                                go_wp2
                                go_roundw
                                case rel => exact ⟨k + 1, by omega, by go_num, HG.out, HBV.out⟩
                                case measure => simp [intOf]; omega
                              · skip
                                have h38_ : ¬ 4 < K := by omega
                                have h39_ : ¬ 9 < K := by omega
                                have HG := hid (HYes.out (by unfold Can; dsimp only; omega))
                                go_wp2
                                go_roundw
                                case rel => exact ⟨k + 1, by omega, by go_num, HG.out, HBV.out⟩
                                case measure => simp [intOf]; omega
    · obtain rfl : k = l.n := by omega
      have HCL : Hid (CanL (T : Int) l) := ⟨by omega, by omega, HC.out⟩
      have HLf := hid (life_any l i wr S (H.out.below HB.out))
      go_wp2_with fail
      refine HLf.out.mono ?_
      rintro e w2 ⟨hq, rfl⟩
      clear HLf
      rcases hq with ⟨hno, rfl⟩ | ⟨a, b, hlf, rfl⟩
      · have HN : Hid (¬ Fine l i (T : Int)) := fun h => by
          obtain ⟨_, a, b, g1, _⟩ := h
          exact g1.not hno
        clear hno
        go_wp2
        go_ret
        exact ⟨true, rfl, ⟨fun _ => HN.out, fun _ => rfl⟩, HB.out⟩
      · have hab := hlf.ab
        have hbn := hlf.bn
        have ha0 : ¬ (a : Int) < 0 := by omega
        have HLf := hid hlf
        clear hlf
        go_wp2_with fail
        go_loopw [11] (fun x wr => ∃ t : Nat, t ≤ T ∧ x = .int .i64 (t : Int) ∧ (∀ q : Nat, q < t → ∃ m, OneCp l.item a b i (q : Int) m) ∧ wr = w2) (fun x _ => T - (intOf x).toNat)
        case atStart => exact ⟨0, Nat.zero_le _, rfl, fun q hq => by omega, rfl⟩
        case round =>
          obtain ⟨t, ht, rfl, hc, hw⟩ := hrel
          rw [hw]
          clear hw
          have HCt := hid hc
          clear hc
          by_cases htT : t < T
          · have htT' : (t : Int) < (T : Int) := by omega
            go_wp2_with fail
            go_loopw [12, 13] (fun x y wr => ∃ q c : Nat, a ≤ q ∧ q ≤ b ∧ y = .int .i64 (q : Int) ∧ x = .int .i64 (c : Int) ∧ CSum l.item a q i (t : Int) c ∧ wr = w2) (fun _ y _ => b - (intOf y).toNat)
            case atStart => exact ⟨a, 0, Nat.le_refl _, hab, rfl, rfl, CSum.start _ _ _ _, rfl⟩
            case round =>
              obtain ⟨q, c, haq, hqb, rfl, rfl, hs, hw⟩ := hrel
              rw [hw]
              clear hw
              have HS := hid hs
              have hcq := hs.1
              clear hs
              by_cases hqlt : q < b
              · have hqlt' : (q : Int) < (b : Int) := by omega
                have hqn' : (q : Int) < (l.n : Int) := by omega
                obtain ⟨b1, o1, hp, _, hl1, ha⟩ := (H.out.below HB.out).tr (by omega)
                obtain ⟨a0, a1, a2, a3⟩ := ha q (by omega)
                rw [hp]
                clear ha hp
                by_cases h3 : (l.item q).kind = 3
                · by_cases hi : (l.item q).id = i
                  · by_cases hk : (l.item q).task = (t : Int)
                    · have HP : Hid ((l.item q).cp i (t : Int)) := ⟨h3, hi, hk⟩
                      rw [h3] at a0
                      rw [hi] at a3
                      rw [hk] at a1
                      clear h3 hi hk
                      go_wp2
                      go_roundw
                      case rel => exact ⟨q + 1, c + 1, by omega, by omega, by go_num, by go_num, HS.out.hit haq HP.out, by first | rfl | trivial⟩
                      case measure => simp [intOf]; omega
                    · have HP : Hid (¬ (l.item q).cp i (t : Int)) := fun e => hk e.2.2
                      rw [h3] at a0
                      rw [hi] at a3
                      clear h3 hi
                      go_wp2
                      go_roundw
                      case rel => exact ⟨q + 1, c, by omega, by omega, by go_num, rfl, HS.out.miss haq HP.out, by first | rfl | trivial⟩
                      case measure => simp [intOf]; omega
                  · have HP : Hid (¬ (l.item q).cp i (t : Int)) := fun e => hi e.2.1
                    rw [h3] at a0
                    clear h3
                    go_wp2
                    go_roundw
                    case rel => exact ⟨q + 1, c, by omega, by omega, by go_num, rfl, HS.out.miss haq HP.out, by first | rfl | trivial⟩
                    case measure => simp [intOf]; omega
                · have HP : Hid (¬ (l.item q).cp i (t : Int)) := fun e => h3 e.1
                  go_wp2
                  go_roundw
                  case rel => exact ⟨q + 1, c, by omega, by omega, by go_num, rfl, HS.out.miss haq HP.out, by first | rfl | trivial⟩
                  case measure => simp [intOf]; omega
              · obtain rfl : q = b := by omega
                by_cases hc1 : c = 1
                · have HD := hid (HS.out.done.1 hc1)
                  subst hc1
                  go_wp2
                  go_roundw
                  case rel =>
                    refine ⟨t + 1, by omega, by go_num, fun x hx => ?_, by first | rfl | trivial⟩
                    by_cases e : x = t
                    · subst e; exact HD.out
                    · exact HCt.out x (by omega)
                  case measure => simp [intOf]; omega
                · have HN : Hid (¬ Fine l i (T : Int)) := fun h => by
                    obtain ⟨_, a', b', g1, g2⟩ := h
                    obtain ⟨rfl, rfl⟩ := g1.uniq HLf.out
                    exact hc1 (HS.out.done.2 (g2 t (by rw [Int.toNat_natCast]; exact htT)))
                  have hc2 : ¬ (c : Int) = 1 := by omega
                  clear hc1
                  go_wp2
                  go_ret
                  exact ⟨true, rfl, ⟨fun _ => HN.out, fun _ => rfl⟩, HB.out⟩
          · obtain rfl : t = T := by omega
            have HY : Hid (Fine l i (t : Int)) := ⟨HCL.out, a, b, HLf.out, fun q hq => HCt.out q (by rw [Int.toNat_natCast] at hq; exact hq)⟩
            go_wp2
            go_ret
            exact ⟨false, rfl, ⟨fun e => (by cases e), fun h => (h HY.out).elim⟩, HB.out⟩
end Go.Proofs.Ytdpfgflofjiheaa
