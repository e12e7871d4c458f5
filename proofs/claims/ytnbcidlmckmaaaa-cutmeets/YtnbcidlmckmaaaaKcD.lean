import Derived.Test.YtnbcidlmckmaaaaKcC
namespace Go.Proofs.Ytnbcidlmckmaaaa
open Go.RowKit
set_option maxRecDepth 8000
def bytP : ByteArray := ⟨#[112]⟩
def rtP : RT := ⟨bytP, .mk 0 0 ⟨#[]⟩ 0 none 0 (fun _ => .nil), none, 0, 0, fun _ => 0⟩
def lP (b : Nat) : LT RT := ⟨some ⟨b, 0, none⟩, 1, 1, fun _ => rtP⟩
def arrP : Array Value := #[.string bytP, .int .i64 0, .int .i64 0, .string ⟨#[]⟩, .slice none 0 0, .slice none 0 0]
theorem lP_in (w : World) (b : Nat) (h : Box w b arrP 36) : LT.In elRec w (fun k => k = b) (lP b) := by
  refine ⟨fun _ => ⟨b, 0, rfl, rfl, h.lt, fun j hj r u hu => ?_⟩, fun j _ => ?_, Nat.le_refl _, by show (1 : Nat) ≤ _; omega, by show (1 : Nat) ≤ _; unfold maxLen; omega, fun e => by cases e⟩
  · obtain rfl : j = 0 := by have : j < 1 := hj; omega
    rw [h.cell, show 0 + 0 * elRec.size + r = r by omega]
    simpa [arrP, elRec, RT.cells, lP, rtP, VT.kind, VT.int, VT.text, VT.p, VT.n, VT.c] using hu
  · refine ⟨⟨⟨by decide, by decide, by decide, by decide, by show (0 : Nat) ≤ _; omega, Nat.le_refl _, by show (0 : Nat) ≤ _; omega, by show (0 : Nat) ≤ _; omega, fun _ => ⟨rfl, rfl⟩⟩, fun h => absurd h (Nat.lt_irrefl _), fun j hj => absurd hj (Nat.not_lt_zero _)⟩, ⟨fun h => absurd h (Nat.lt_irrefl _), Nat.le_refl _, by show (0 : Nat) ≤ _; omega, by show (0 : Nat) ≤ _; omega, fun j hj => absurd hj (Nat.not_lt_zero _), fun _ => ⟨rfl, rfl⟩⟩, by show (1 : Nat) ≤ _; omega⟩
theorem lP_sz (b : Nat) : SzR (lP b) := ⟨by show (1 : Nat) ≤ _; omega, fun j _ => by show 0 + _ ≤ _; simp [lP, rtP, VT.total]⟩
theorem nilR_in (w : World) (S : Nat → Prop) (f : Nat → RT) : LT.In elRec w S (nilL f) := LT.In.none_ _ _ _ _ _ _ (Nat.zero_le _) (fun _ => rfl)
theorem nilC_in (w : World) (S : Nat → Prop) (f : Nat → VT) : LT.In elCell w S (nilL f) := LT.In.none_ _ _ _ _ _ _ (Nat.zero_le _) (fun _ => rfl)
theorem nilR_sz (f : Nat → RT) : SzR (nilL f) := ⟨Nat.zero_le _, fun _ hj => absurd hj (Nat.not_lt_zero _)⟩
theorem nilC_sz (f : Nat → VT) : SzC (nilL f) := ⟨Nat.zero_le _, fun _ hj => absurd hj (Nat.not_lt_zero _)⟩
/-- a book of one port, told its first marker -/
structure OneK (K : Bk) : Prop where
  now : K.now = 3
  ports : K.ports = 1
  cp : K.cp = true
  opn : K.opn = false
  num : K.num = 8
  pd : K.pd.n = 1
theorem known_pure {mode : Int} {w w' : World} {b g : Nat} {K' : Bk} {r : Bool} (hM : MarkQ 0 3 (nilL fun _ => rt0) 8 (nilL fun _ => .nil) (lP g) w b (Bk.fresh mode 1 (-1)) w' K' r) : r = true ∧ OneK K' := by
  have hmk : (Bk.fresh mode 1 (-1)).marks 0 3 = true := by simp [Bk.marks, Bk.refE, Bk.has, Bk.held, Bk.fresh]
  have hbs : (Bk.fresh mode 1 (-1)).base 3 = (Bk.fresh mode 1 (-1)).begin 3 := by rw [Bk.base, if_pos (by show (0 : Int) < 3; omega)]
  obtain ⟨w1, _, hr, hQ⟩ := hM.y hmk
  rw [hbs] at hr hQ
  have hal : (((Bk.fresh mode 1 (-1)).begin 3).setSt 0 2).alig = true := by
    simp [Bk.alig, Bk.setSt, Bk.begin, Bk.fresh, Bk.okP]
  have hR : ((Bk.fresh mode 1 (-1)).begin 3).shutR 0 = true := by
    unfold Bk.shutR
    rw [hal]
    split <;> rfl
  have hS : ((Bk.fresh mode 1 (-1)).begin 3).shutS 0 0 = 1 := by
    unfold Bk.shutS
    rw [hal]
    split
    · simp [Bk.rel, Bk.setSt]
    · simp [Bk.setSt]
  have hr2 : (0 : Int).toNat = 0 := rfl
  rw [hr2] at hr hQ
  have hst : K'.st 0 = 1 := by rw [hQ.st]; exact hS
  have hpp : K'.ports = 1 := hQ.b.ports
  obtain ⟨h8, _, hpd, _⟩ := hQ.b.cpd hR
  refine ⟨hr.trans hR, ⟨hQ.b.now, hpp, by rw [hQ.b.cp, hR]; simp, ?_, h8, hpd.n⟩⟩
  unfold Bk.opn
  rw [hpp]
  simp [hst]
/-- a book in the memory of a call that began at w0 -/
structure Bok (w0 w : World) (b : Nat) (K : Bk) : Prop where
  i : BkI w b K
  bel : Below w0.heap.size w0 w
  c : ∀ k, K.C b k → w0.heap.size ≤ k
theorem Bok.step {w0 w w' : World} {b : Nat} {K K' : Bk} (h : Bok w0 w b K) (g : SetLog w b K w' K') : Bok w0 w' b K' :=
  ⟨g.inv, h.bel.trans (g.but.below h.bel.size fun k hk e => by have := h.c k e; omega), fun k hk => by
    rcases g.cs k hk with e | e
    · exact h.c k e
    · exact Nat.le_trans h.bel.size e⟩
theorem Bok.below {w0 w w' : World} {b : Nat} {K : Bk} (h : Bok w0 w b K) (g : Below w.heap.size w w') : Bok w0 w' b K := h.step (SetLog.same h.i g)
theorem Bok.fresh (mode ports back : Int) (w : World) (h : legalB mode ports back = true) : Bok w (w.alloc (.cells (Bk.fresh mode ports back).arr 78)) w.heap.size (Bk.fresh mode ports back) := by
  refine ⟨new_inv mode ports back w h, (Below.refl _ _).alloc (Nat.le_refl _) _, fun k hk => ?_⟩
  rcases hk with rfl | ⟨i, _, e⟩
  · exact Nat.le_refl _
  · cases e
set_option maxHeartbeats 8000000 in
theorem known_any (mode : Int) (h1 : 1 ≤ mode) (h2 : mode ≤ 3) (w : World) : Calls Try.prog 12 #[.int .i64 mode] w fun e w' => e = .returned (.bool true) ∧ Below w.heap.size w w' := by
  have hlg : legalB mode 1 (-1) = true := decide_eq_true (by omega)
  have HNw := hid (new_any mode 1 (-1) w)
  have HLg := hid hlg
  have HKi := hid (Bok.fresh mode 1 (-1) w hlg)
  clear hlg
  go_enter Try.func12, Try.ntmps12
  go_wp2_with fail
  refine HNw.out.mono ?_
  rintro e w1 hnew
  obtain ⟨rfl, hw1⟩ := hnew.1 HLg.out
  have hI1 : Bok w w1 w.heap.size (Bk.fresh mode 1 (-1)) := by rw [hw1]; exact HKi.out
  have H1 := hid hI1
  have hl1 := hI1.i.box.lt
  clear hnew hw1 hI1 HNw HKi
  go_wp2_with (go_at_call 11; refine (num_any _ _).mono ?_; rintro e w2 ⟨rfl, rfl⟩)
  have hal : Below w2.heap.size w2 (w2.alloc (.cells arrP 36)) := (Below.refl _ _).alloc (Nat.le_refl _) _
  have H2 := hid (H1.out.below hal)
  have hMk := mark_any 0 3 (nilL fun _ => rt0) 8 (nilL fun _ => .nil) (lP w2.heap.size) (w2.alloc (.cells arrP 36)) (fun k => k = w2.heap.size) w.heap.size (Bk.fresh mode 1 (-1)) H2.out.i (fun k hk e => by have := H1.out.i.lt e; omega) (nilC_in _ _ _) (lP_in _ _ (Box.new _ _ _)) (nilC_sz _) (lP_sz _) (nilR_in _ _ _) (nilR_sz _) (fun i _ => by show 0 ≤ _; omega)
  have HMk := hid hMk
  have hre : (Bk.fresh mode 1 (-1)).refE 0 3 = 0 := by simp [Bk.refE, Bk.has, Bk.held, Bk.fresh]
  have HRe := hid hre
  clear hMk hre hal
  refine HMk.out.mono ?_
  rintro e w4 ⟨K4, r4, rfl, hM⟩
  obtain ⟨rfl, hK⟩ := known_pure hM
  have H4 := hid (H2.out.step hM.s)
  have HK := hid hK
  rw [HRe.out]
  clear hM hK HMk HRe
  go_wp2_with fail
  refine (part_any w4 w.heap.size K4 H4.out.i).mono ?_
  rintro e w5 ⟨K5, hP⟩
  obtain ⟨hK5, pL, cL, rfl, _⟩ := hP.y (by rw [HK.out.cp, HK.out.opn]; rfl)
  have H5 := hid (H4.out.step hP.s)
  have HK5 := hid hK5
  rw [HK.out.now, HK.out.num, HK.out.pd, HK.out.ports]
  clear hP hK5
  go_wp2_with (go_at_call 11; refine (num_any _ _).mono ?_; rintro e w6 ⟨rfl, rfl⟩)
  have H6 := hid (H5.out.below ((Below.refl w5.heap.size w5).alloc (Nat.le_refl _) (.cells #[.int .i64 8, .slice K4.cl.p K4.cl.n K4.cl.c, .slice pL 1 cL, .slice K4.pd.p 1 K4.pd.c] 49)))
  refine (part_any _ w.heap.size K5 H6.out.i).mono ?_
  rintro e w6 ⟨K6, hP⟩
  obtain ⟨hK6, rfl⟩ := hP.n (by rw [HK5.out]; rfl)
  have H7 := hid (H6.out.step hP.s)
  have HK6 : Hid (K6.now = 3) := by unfold Hid; rw [hK6, HK5.out]; exact HK.out.now
  clear hP hK6
  have H8 := hid (H7.out.below ((Below.refl w6.heap.size w6).alloc (Nat.le_refl _) (.cells #[.int .i64 0, .slice none 0 0, .slice none 0 0, .slice none 0 0] 49)))
  have HN := hid (now_any _ w.heap.size K6 H8.out.i)
  go_wp2_with fail
  refine HN.out.mono ?_
  rintro e w8 ⟨rfl, hw8⟩
  rw [HK6.out]
  have HB8 : Hid (Below w.heap.size w w8) := by unfold Hid; rw [hw8]; exact H8.out.bel
  clear hw8
  go_wp2
  exact bodyPost_ret (v := .bool true) (by simp [results, Try.results12, go_sem]) rfl ⟨rfl, HB8.out⟩
end Go.Proofs.Ytnbcidlmckmaaaa
