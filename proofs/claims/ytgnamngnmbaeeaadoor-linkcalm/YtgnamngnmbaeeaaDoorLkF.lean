import Derived.Test.YtgnamngnmbaeeaaDoorLkE
namespace Go.Proofs.YtgnamngnmbaeeaaDoor
open Go.RowKit
set_option maxRecDepth 8000
theorem packet_data (ln nu : Nat) (c3 : Int) (ms : BS) (w : World) (h1 : ln < 34359738368) (h2 : nu < 34359738368) (hm : ms.In w (fun k => k < w.heap.size)) (hmz : ms.zs.length ≤ 4096) (hT : Tab w) :
    Calls Tryd.prog 50 #[.agg #[.int .u8 68, .int .i64 (ln : Int), .int .i64 (nu : Int), .int .i64 c3, ms.val]] w fun e w' => PktQ (bodyB 68 [ln, nu] ms.zs) w e w' := by
  obtain ⟨V, hV⟩ : ∃ V, V = w.alloc (.cells #[.int .u8 68, .int .i64 (ln : Int), .int .i64 (nu : Int), .int .i64 c3, ms.val] 100) := ⟨_, rfl⟩
  have hX : Box V w.heap.size #[.int .u8 68, .int .i64 (ln : Int), .int .i64 (nu : Int), .int .i64 c3, ms.val] 100 := by rw [hV]; exact Box.new _ _ _
  refine packet_core 68 ln nu c3 [ln, nu] ms w V w.heap.size (pcs0 w.heap.size) (by omega) rfl hV (fun W hW => pieces_data W w.heap.size (by rw [(hX.below hW).cell]; rfl)) (fun i hi => ?_) ⟨rfl, 0, 4096, rfl, rfl⟩ (fun i u hu => ?_) (by simp) hm hmz hT
  · match i, hi with
    | 0, _ => exact ⟨rfl, 0, 23, rfl, rfl⟩
    | 1, _ => exact ⟨rfl, 1, 1073741824, rfl, rfl⟩
  · match i with
    | 0 => simp at hu; subst hu; exact ⟨h1, rfl⟩
    | 1 => simp at hu; subst hu; exact ⟨h2, rfl⟩
    | n + 2 => simp at hu
theorem packet_ans (ln nu wd : Nat) (ms : BS) (w : World) (h1 : ln < 34359738368) (h2 : nu < 34359738368) (h3 : wd < 34359738368) (hm : ms.In w (fun k => k < w.heap.size)) (hmz : ms.zs.length ≤ 4096) (hT : Tab w) :
    Calls Tryd.prog 50 #[.agg #[.int .u8 65, .int .i64 (ln : Int), .int .i64 (nu : Int), .int .i64 (wd : Int), ms.val]] w fun e w' => PktQ (bodyB 65 [ln, nu, wd] ms.zs) w e w' := by
  obtain ⟨V, hV⟩ : ∃ V, V = w.alloc (.cells #[.int .u8 65, .int .i64 (ln : Int), .int .i64 (nu : Int), .int .i64 (wd : Int), ms.val] 100) := ⟨_, rfl⟩
  have hX : Box V w.heap.size #[.int .u8 65, .int .i64 (ln : Int), .int .i64 (nu : Int), .int .i64 (wd : Int), ms.val] 100 := by rw [hV]; exact Box.new _ _ _
  refine packet_core 65 ln nu wd [ln, nu, wd] ms w V w.heap.size (pcs1 w.heap.size) (by omega) rfl hV (fun W hW => pieces_ans W w.heap.size (by rw [(hX.below hW).cell]; rfl)) (fun i hi => ?_) ⟨rfl, 0, 0, rfl, rfl⟩ (fun i u hu => ?_) (by simp) hm hmz hT
  · match i, hi with
    | 0, _ => exact ⟨rfl, 0, 23, rfl, rfl⟩
    | 1, _ => exact ⟨rfl, 0, 1073741825, rfl, rfl⟩
    | 2, _ => exact ⟨rfl, 0, 1073741824, rfl, rfl⟩
  · match i with
    | 0 => simp at hu; subst hu; exact ⟨h1, rfl⟩
    | 1 => simp at hu; subst hu; exact ⟨h2, rfl⟩
    | 2 => simp at hu; subst hu; exact ⟨h3, rfl⟩
    | n + 3 => simp at hu
theorem Box.set5 {w : World} {b : Nat} {a0 a1 a2 a3 a4 : Value} {e : TypeId} (h : Box w b #[a0, a1, a2, a3, a4] e) (x0 x1 x2 x3 x4 : Value) : Box (((((w.setCell ⟨b, 0, none⟩ x0).setCell ⟨b, 1, none⟩ x1).setCell ⟨b, 2, none⟩ x2).setCell ⟨b, 3, none⟩ x3).setCell ⟨b, 4, none⟩ x4) b #[x0, x1, x2, x3, x4] e := by
  have h1 := ((((h.set 0 x0).set 1 x1).set 2 x2).set 3 x3).set 4 x4
  simpa using h1
theorem but5 (w : World) (b : Nat) (x0 x1 x2 x3 x4 : Value) : But (fun k => k = b) w (((((w.setCell ⟨b, 0, none⟩ x0).setCell ⟨b, 1, none⟩ x1).setCell ⟨b, 2, none⟩ x2).setCell ⟨b, 3, none⟩ x3).setCell ⟨b, 4, none⟩ x4) :=
  (((((But.one _ _).setAt 0 x0).setAt 1 x1).setAt 2 x2).setAt 3 x3).setAt 4 x4
/-- what a packet's body says, piece by piece -/
def restS : List (Nat × Nat) → Nat → List Nat → List Int → Option (List Nat × List Int)
  | [], mm, acc, R => if mm < R.length then none else some (acc, R)
  | p :: ps, mm, acc, R => match numS p.2 R with
    | .ok (n, R1) => if n < p.1 then none else restS ps mm (acc ++ [n]) R1
    | .error _ => none
def ps0 : List (Nat × Nat) := [(0, 23), (1, 1073741824)]
def ps1 : List (Nat × Nat) := [(0, 23), (0, 1073741825), (0, 1073741824)]
def letOf (k : Int) (x : Option (List Nat × List Int)) : Option Let := x.map fun y => ⟨k, y.1.getD 0 0, y.1.getD 1 0, y.1.getD 2 0, y.2⟩
def readS : List Int → Option Let
  | [] => none
  | k :: R => if k = 68 then letOf 68 (restS ps0 4096 [] R) else if k = 65 then letOf 65 (restS ps1 0 [] R) else none
/-- what bytes say -/
def readP (zs : List Int) : Option Let := readS (exa zs).2
def letZ : Value := .agg #[.int .u8 0, .int .i64 0, .int .i64 0, .int .i64 0, .slice none 0 0]
def letC (kd : Int) (acc : List Nat) (v : Value) : Array Value := #[.int .u8 kd, .int .i64 ((acc.getD 0 0 : Nat) : Int), .int .i64 ((acc.getD 1 0 : Nat) : Int), .int .i64 ((acc.getD 2 0 : Nat) : Int), v]
theorem letC_set (kd : Int) (acc : List Nat) (v : Value) (a : Nat) (h : acc.length < 3) : (letC kd acc v).setIfInBounds (acc.length + 1) (.int .i64 (a : Int)) = letC kd (acc ++ [a]) v := by
  match acc, h with
  | [], _ => rfl
  | [_], _ => rfl
  | [_, _], _ => rfl
def ReadQ (zs : List Int) (w : World) (e : Ending) (w' : World) : Prop :=
  (readP zs = none → e = .returned (.tuple #[letZ, .bool false])) ∧
  (∀ l, readP zs = some l → ∃ y : BS, y.zs = l.ms ∧ y.In w' (fun k => w.heap.size ≤ k) ∧ e = .returned (.tuple #[.agg #[.int .u8 l.kd, .int .i64 (l.ln : Int), .int .i64 (l.nu : Int), .int .i64 (l.wd : Int), y.val], .bool true])) ∧ Below w.heap.size w w'
theorem exa_err (zs : List Int) (h : (exa zs).1 ≠ 0) : (exa zs).2 = [] := by
  unfold exa at h ⊢
  by_cases h1 : (unw zs).1 = 0
  · rw [if_pos h1] at h ⊢
    by_cases h2 : (unw zs).2.length + 8 < zs.length
    · rw [if_pos h2]
    · rw [if_neg h2] at h; exact absurd rfl h
  · rw [if_neg h1]
theorem exa_len (zs : List Int) : (exa zs).2.length ≤ 32768 := by
  unfold exa
  by_cases h1 : (unw zs).1 = 0
  · rw [if_pos h1]
    by_cases h2 : (unw zs).2.length + 8 < zs.length
    · rw [if_pos h2]; simp
    · rw [if_neg h2]; exact (unw_fit zs h1).2
  · rw [if_neg h1]; simp
theorem BS.In.cut {w : World} {S : Nat → Prop} {b o c : Nat} {L : List Int} (h : BS.In w S ⟨some ⟨b, o, none⟩, c, L⟩) {n : Nat} (hn : n ≤ L.length) {o' : Nat} (ho : o' = o + n ∨ (o' = o ∧ c - n = 0)) : BS.In w S ⟨some ⟨b, o', none⟩, c - n, L.drop n⟩ := by
  have hc : L.length ≤ c := h.nc
  have hl : (L.drop n).length = L.length - n := List.length_drop
  refine ⟨fun hz => ?_, by show (L.drop n).length ≤ c - n; omega, ?_, ?_, fun j hj => ?_, fun hp => by cases hp⟩
  · have hz' : 0 < (L.drop n).length := hz
    have ho' : o' = o + n := by
      rcases ho with ho | ho
      · exact ho
      · omega
    obtain ⟨b', o2, he, hS, hbl, hat⟩ := h.at_ (show 0 < L.length by omega)
    simp only [Option.some.injEq, Addr.mk.injEq, and_true] at he
    obtain ⟨rfl, rfl⟩ := he
    refine ⟨b, o', rfl, hS, hbl, fun j hj => ?_⟩
    have hj' : j < (L.drop n).length := hj
    have h1 := hat (n + j) (show n + j < L.length by omega)
    rw [ho', show o + n + j = o + (n + j) by omega, h1]
    simp [List.getD_eq_getElem?_getD, List.getElem?_drop]
  · have := h.nn
    show (L.drop n).length ≤ _
    have h2 : L.length ≤ 140737488355328 := this
    omega
  · have h2 : c ≤ maxLen := h.cc
    show c - n ≤ maxLen
    omega
  · have hj' : j < (L.drop n).length := hj
    have h1 := h.fit (n + j) (show n + j < L.length by omega)
    simp only [List.getD_eq_getElem?_getD, List.getElem?_drop] at h1 ⊢
    exact h1
set_option maxHeartbeats 16000000 in
theorem read_any (x : BS) (w : World) (S : Nat → Prop) (hx : x.In w S) (hT : Tab w) :
    Calls Tryd.prog 62 #[x.val] w fun e w' => ReadQ x.zs w e w' := by
  obtain ⟨xp, xc, xz⟩ := x
  have hE := exact_any xp xz.length xc xz w rfl hx.bytes hx.nc hx.nn hT
  obtain ⟨V, hV⟩ : ∃ V, V = w.alloc (.cells #[.int .u8 0, .int .i64 0, .int .i64 0, .int .i64 0, .slice none 0 0] 100) := ⟨_, rfl⟩
  have hB : Below w.heap.size w V := by rw [hV]; exact (Below.refl _ _).alloc (Nat.le_refl _) _
  have hX : Box V w.heap.size #[.int .u8 0, .int .i64 0, .int .i64 0, .int .i64 0, .slice none 0 0] 100 := by rw [hV]; exact Box.new _ _ _
  have hxV := hx.below hB
  have HEx := hid (exact_any xp xz.length xc xz V rfl hxV.bytes hx.nc hx.nn (hT.later hB))
  obtain ⟨rb, hrb⟩ : ∃ rb, rb = w.heap.size := ⟨_, rfl⟩
  rw [← hrb] at hX
  have HV := hid hV
  have HB := hid hB
  have HX := hid hX
  have HRb := hid hrb
  simp only [BS.val]
  clear hE hV hB hX hxV hx hT hrb
  go_enter Tryd.func62, Tryd.ntmps62
  go_wp2_with fail
  go_step3
  rw [← HV.out, ← HRb.out]
  go_wp2_with fail
  refine HEx.out.mono ?_
  rintro e w1 ⟨p1, c1, rfl, hO1, hb1⟩
  obtain ⟨B, hBe⟩ : ∃ B, B = (exa xz).2 := ⟨_, rfl⟩
  obtain ⟨k, hke⟩ : ∃ k, k = (exa xz).1 := ⟨_, rfl⟩
  rw [← hBe] at hO1 ⊢
  rw [← hke]
  have hk0 : k ≠ 0 → B = [] := fun h => by rw [hBe]; exact exa_err _ (hke ▸ h)
  have hB32 : B.length ≤ 32768 := by rw [hBe]; exact exa_len _
  have HRd : Hid (readP xz = readS B) := by show readP xz = readS B; unfold readP; rw [hBe]
  have HO1 := hid (own_in hO1 (by omega) hO1.cap.2)
  have HB1 : Hid (Below w.heap.size w w1) := HB.out.trans (hb1.mono HB.out.size)
  have HX1 := hid (HX.out.below hb1)
  have x0 := HX1.out.cell 0
  have x1 := HX1.out.cell 1
  have x2 := HX1.out.cell 2
  have x3 := HX1.out.cell 3
  have x4 := HX1.out.cell 4
  have xl := HX1.out.lt
  have xf := HX1.out.frozen
  simp at x0 x1 x2 x3 x4
  clear hBe hke hO1 hb1 HEx
  cases B with
  | nil =>
    as_aux_lemma =>
    have HN : Hid (∀ w2, Below w.heap.size w w2 → ReadQ xz w (.returned (.tuple #[letZ, .bool false])) w2) := fun w2 h2 => ⟨fun _ => rfl, fun l hl => (by rw [HRd.out] at hl; cases hl), h2⟩
    by_cases hkz : k = 0
    · subst hkz
      clear hk0
      go_wp2
      obtain ⟨V5, hV5⟩ : ∃ V, V = ((((w1.setCell ⟨rb, 0, none⟩ (.int .u8 0)).setCell ⟨rb, 1, none⟩ (.int .i64 0)).setCell ⟨rb, 2, none⟩ (.int .i64 0)).setCell ⟨rb, 3, none⟩ (.int .i64 0)).setCell ⟨rb, 4, none⟩ (.slice none 0 0) := ⟨_, rfl⟩
      have hX5 : Box V5 rb #[.int .u8 0, .int .i64 0, .int .i64 0, .int .i64 0, .slice none 0 0] 100 := by rw [hV5]; exact HX1.out.set5 _ _ _ _ _
      have hb5 : Below w.heap.size w1 V5 := by rw [hV5]; exact But.below (but5 w1 rb _ _ _ _ _) HB1.out.size fun q hq e => by have e' : q = rb := e; have := HRb.out; omega
      have HQ := hid (HN.out V5 (HB1.out.trans hb5))
      have q0 := hX5.cell 0
      have q1 := hX5.cell 1
      have q2 := hX5.cell 2
      have q3 := hX5.cell 3
      have q4 := hX5.cell 4
      simp at q0 q1 q2 q3 q4
      rw [← hV5]
      clear hV5 hX5 hb5
      refine bodyPost_ret (v := .tuple #[letZ, .bool false]) (by simp [results, Tryd.results62, go_sem, q0, q1, q2, q3, q4, letZ]) rfl HQ.out
    · have hkz' : ((k : Int) != 0) = true := by rw [bne_iff_ne]; omega
      clear hk0 hkz
      go_wp2
      obtain ⟨V5, hV5⟩ : ∃ V, V = ((((w1.setCell ⟨rb, 0, none⟩ (.int .u8 0)).setCell ⟨rb, 1, none⟩ (.int .i64 0)).setCell ⟨rb, 2, none⟩ (.int .i64 0)).setCell ⟨rb, 3, none⟩ (.int .i64 0)).setCell ⟨rb, 4, none⟩ (.slice none 0 0) := ⟨_, rfl⟩
      have hX5 : Box V5 rb #[.int .u8 0, .int .i64 0, .int .i64 0, .int .i64 0, .slice none 0 0] 100 := by rw [hV5]; exact HX1.out.set5 _ _ _ _ _
      have hb5 : Below w.heap.size w1 V5 := by rw [hV5]; exact But.below (but5 w1 rb _ _ _ _ _) HB1.out.size fun q hq e => by have e' : q = rb := e; have := HRb.out; omega
      have HQ := hid (HN.out V5 (HB1.out.trans hb5))
      have q0 := hX5.cell 0
      have q1 := hX5.cell 1
      have q2 := hX5.cell 2
      have q3 := hX5.cell 3
      have q4 := hX5.cell 4
      simp at q0 q1 q2 q3 q4
      rw [← hV5]
      clear hV5 hX5 hb5
      refine bodyPost_ret (v := .tuple #[letZ, .bool false]) (by simp [results, Tryd.results62, go_sem, q0, q1, q2, q3, q4, letZ]) rfl HQ.out
  | cons kd R0 =>
    obtain rfl : k = 0 := by
      by_cases h : k = 0
      · exact h
      · exact absurd (hk0 h) (by simp)
    obtain ⟨m, hm⟩ : ∃ m, m = R0.length := ⟨_, rfl⟩
    obtain ⟨b1, o1, hp1, hS1, hbl, hat⟩ := HO1.out.at_ (show 0 < (kd :: R0).length by simp)
    have hp1' : p1 = some ⟨b1, o1, none⟩ := hp1
    subst hp1'
    have y0 : w1.cell? ⟨b1, o1, none⟩ = some (.int .u8 kd) := hat 0 (by simp)
    have hcc : m + 1 ≤ c1 := by have h : (kd :: R0).length ≤ c1 := HO1.out.nc; rw [List.length_cons] at h; omega
    obtain ⟨V2, hV2⟩ : ∃ V, V = w1.alloc (.cells #[.int .u8 kd, .int .i64 0, .int .i64 0, .int .i64 0, .slice none 0 0] 100) := ⟨_, rfl⟩
    have HV2 := hid hV2
    have hlen : (kd :: R0).length = m + 1 := by rw [hm]; rfl
    rw [hlen]
    have HMl := hid hm
    have hS2 := hS1.1
    clear hk0 hat hV2 hp1 hlen hm hS1
    go_upto_region 5 with fail
    rw [← HV2.out]
    go_cut [4] (fun v wx => ∃ p2 c2, v = .slice p2 m c2 ∧ BS.In w1 (fun k => V.heap.size ≤ k ∧ k < w1.heap.size) ⟨p2, c2, R0⟩ ∧ wx = V2)
    case first =>
      as_aux_lemma =>
      have hIn : BS.In w1 (fun k => V.heap.size ≤ k ∧ k < w1.heap.size) ⟨some ⟨b1, o1, none⟩, c1, kd :: R0⟩ := HO1.out.mono fun k hk hl => ⟨hk.1, hl⟩
      have HI := hid (fun o' ho => hIn.cut (n := 1) (o' := o') (show 1 ≤ (kd :: R0).length by simp) ho)
      clear hIn
      go_wp2
      all_goals go_meet
      · exact ⟨_, _, rfl, by have h := HI.out o1 (.inr ⟨rfl, by omega⟩); rw [show c1 - 1 = 0 by omega] at h; exact h, rfl⟩
      · exact ⟨_, _, rfl, HI.out _ (.inl rfl), rfl⟩
    case rest =>
      obtain ⟨p2, c2, rfl, hI2, hwx⟩ := hcut
      rw [hwx]
      clear hwx
      obtain ⟨lb, hlb⟩ : ∃ lb, lb = w1.heap.size := ⟨_, rfl⟩
      have hb2 : Below w1.heap.size w1 V2 := by rw [HV2.out]; exact (Below.refl _ _).alloc (Nat.le_refl _) _
      have hX2 : Box V2 lb (letC kd [] (.slice none 0 0)) 100 := by rw [HV2.out, hlb]; exact Box.new _ _ _
      rw [← hlb]
      have HLb := hid hlb
      have HI2 := hid (hI2.below hb2)
      have HX2 := hid hX2
      have HR2 := hid (HX1.out.below hb2)
      have HB2 : Hid (Below w.heap.size w V2) := HB1.out.trans (hb2.mono HB1.out.size)
      have HkB : Hid (0 ≤ kd ∧ kd < 256) := HO1.out.byte kd List.mem_cons_self
      have hkc : V2.cell? ⟨lb, 0, none⟩ = some (.int .u8 kd) := hX2.cell 0
      have hcc2 : m ≤ c2 := by have h : R0.length ≤ c2 := hI2.nc; rw [← HMl.out] at h; exact h
      clear hI2 hb2 hX2 hlb x0 x1 x2 x3 x4 xl xf y0 hcc
      go_wp2_with fail
      go_step3
      by_cases hk68 : kd = 68
      · as_aux_lemma =>
        subst hk68
        have HN : Hid (restS ps0 4096 [] R0 = none → ∀ w2, Below w.heap.size w w2 → ReadQ xz w (.returned (.tuple #[letZ, .bool false])) w2) := fun h0 w2 h2 => ⟨fun _ => rfl, fun l hl => (by rw [HRd.out] at hl; simp [readS, h0, letOf] at hl), h2⟩
        have HY : Hid (∀ acc R, restS ps0 4096 [] R0 = some (acc, R) → readP xz = some ⟨68, acc.getD 0 0, acc.getD 1 0, acc.getD 2 0, R⟩) := fun acc R h => by rw [HRd.out]; simp [readS, h, letOf]
        have HP := hid (pieces_data V2 lb hkc)
        clear hkc
        go_wp2_with fail
        refine HP.out.mono ?_
        rintro e w3 ⟨g, rfl, hg, hXg, hb3⟩
        have HB3 : Hid (Below w.heap.size w w3) := HB2.out.trans (hb3.mono HB2.out.size)
        have HR3 := hid (HR2.out.below hb3)
        have HX3 := hid (HX2.out.below hb3)
        have HI3 := hid (HI2.out.below hb3)
        have HXg := hid hXg
        clear hb3 HP hXg hg
        go_wp2_with fail
        go_loopw [4, 33] (fun v x wr => ∃ (i : Nat) (acc : List Nat) (y : BS), i ≤ 2 ∧ x = .int .i64 (i : Int) ∧ v = .slice y.p y.zs.length y.c ∧ acc.length = i ∧ y.In wr (fun k => V.heap.size ≤ k ∧ k < w1.heap.size) ∧ restS ps0 4096 [] R0 = restS (ps0.drop i) 4096 acc y.zs ∧ Box wr lb (letC 68 acc (.slice none 0 0)) 100 ∧ Box wr g (pcs0 lb) 129 ∧ Box wr rb #[.int .u8 0, .int .i64 0, .int .i64 0, .int .i64 0, .slice none 0 0] 100 ∧ Below w.heap.size w wr) (fun _ x _ => 2 + 1 - (intOf x).toNat)
        case atStart => exact ⟨0, [], ⟨p2, c2, R0⟩, by omega, rfl, by rw [HMl.out], rfl, HI3.out, rfl, HX3.out, HXg.out, HR3.out, HB3.out⟩
        case round =>
          obtain ⟨i, acc, y, hi, rfl, rfl, hac, hIy, hrs, hXl, hXp, hXr, hbw⟩ := hrel
          have HIy := hid hIy
          have HRs := hid hrs
          have HXl := hid hXl
          have HXp := hid hXp
          have HXr := hid hXr
          have HBw := hid hbw
          have HAc := hid hac
          clear hIy hrs hXl hXp hXr hbw HB3 HR3 HX3 HI3 HXg hac
          obtain ⟨p3, c3, L⟩ := y
          simp only at HIy HRs ⊢
          obtain ⟨n, hn⟩ : ∃ n, n = L.length := ⟨_, rfl⟩
          have hnc : n ≤ c3 := by rw [hn]; exact HIy.out.nc
          have hn32 : n ≤ 140737488355328 := by rw [hn]; exact HIy.out.nn
          rw [← hn]
          have HNn := hid hn
          clear hn
          have hgl := HXp.out.lt
          by_cases hi0 : i = 0
          · as_aux_lemma =>
            subst hi0
            have y0 : wr.cell? ⟨g, 0, none⟩ = some (.pointer (some ⟨lb, 1, none⟩)) := HXp.out.cell 0
            have y1 : wr.cell? ⟨g, 0 + 1, none⟩ = some (.int .i64 0) := HXp.out.cell (0 + 1)
            have y2 : wr.cell? ⟨g, 0 + 2, none⟩ = some (.int .i64 23) := HXp.out.cell (0 + 2)
            obtain ⟨V4, hV4⟩ : ∃ W, W = wr.alloc (.cells #[.pointer (some ⟨lb, 1, none⟩), .int .i64 0, .int .i64 23] 129) := ⟨_, rfl⟩
            have hb4 : Below wr.heap.size wr V4 := by rw [hV4]; exact (Below.refl _ _).alloc (Nat.le_refl _) _
            obtain ⟨fb, hfb⟩ : ∃ fb, fb = wr.heap.size := ⟨_, rfl⟩
            have hX4 : Box V4 fb #[.pointer (some ⟨lb, 1, none⟩), .int .i64 0, .int .i64 23] 129 := by rw [hV4, hfb]; exact Box.new _ _ _
            have HV4 := hid hV4
            have HFb := hid hfb
            have HI4 := hid (HIy.out.below hb4)
            have HXl4 := hid (HXl.out.below hb4)
            have HXp4 := hid (HXp.out.below hb4)
            have HXr4 := hid (HXr.out.below hb4)
            have HBw4 : Hid (Below w.heap.size w V4) := HBw.out.trans (hb4.mono HBw.out.size)
            have HLd := hid (numLead_any V4 _ p3 L c3 23 (by decide) HI4.out)
            have z0 := hX4.cell 0
            have z1 := hX4.cell 1
            have z2 := hX4.cell 2
            have zl := hX4.lt
            simp at z0 z1 z2
            rw [← HNn.out] at HLd
            clear hV4 hfb hX4 hb4
            go_upto_region 11 with fail
            rw [← HV4.out, ← HFb.out]
            go_wp2_with fail
            refine HLd.out.mono ?_
            rintro e w5 ⟨⟨a, sz, k, rfl, hlead⟩, hw5⟩
            subst hw5
            rcases hlead with ⟨rfl, hsz, hnS, hale⟩ | ⟨hk0, rfl, rfl, hnS⟩
            case inr =>
              have hk0' : ((k : Int) != 0) = true := by rw [bne_iff_ne]; omega
              have HN2 := hid (HN.out (by rw [HRs.out]; simp [ps0, restS, hnS]))
              clear HN
              have HN := HN2
              clear hk0 hnS HLd
              have r0 := HXr4.out.cell 0
              have r1 := HXr4.out.cell 1
              have r2 := HXr4.out.cell 2
              have r3 := HXr4.out.cell 3
              have r4 := HXr4.out.cell 4
              have rl := HXr4.out.lt
              have rf := HXr4.out.frozen
              simp at r0 r1 r2 r3 r4
              go_wp2
              obtain ⟨V5, hV5⟩ : ∃ V, V = ((((w5.setCell ⟨rb, 0, none⟩ (.int .u8 0)).setCell ⟨rb, 1, none⟩ (.int .i64 0)).setCell ⟨rb, 2, none⟩ (.int .i64 0)).setCell ⟨rb, 3, none⟩ (.int .i64 0)).setCell ⟨rb, 4, none⟩ (.slice none 0 0) := ⟨_, rfl⟩
              have hX5 : Box V5 rb #[.int .u8 0, .int .i64 0, .int .i64 0, .int .i64 0, .slice none 0 0] 100 := by rw [hV5]; exact HXr4.out.set5 _ _ _ _ _
              have hb5 : Below w.heap.size w5 V5 := by rw [hV5]; exact But.below (but5 w5 rb _ _ _ _ _) HBw4.out.size fun q hq e => by have e' : q = rb := e; have := HRb.out; omega
              have HQ := hid (HN.out V5 (HBw4.out.trans hb5))
              have q0 := hX5.cell 0
              have q1 := hX5.cell 1
              have q2 := hX5.cell 2
              have q3 := hX5.cell 3
              have q4 := hX5.cell 4
              simp at q0 q1 q2 q3 q4
              rw [← hV5]
              clear hV5 hX5 hb5
              refine bodyPost_ret (v := .tuple #[letZ, .bool false]) (by simp [results, Tryd.results62, go_sem, q0, q1, q2, q3, q4, letZ]) rfl HQ.out
            case inl =>
              by_cases hlo : a < 0
              · exact absurd hlo (by omega)
              · have hlo' : (0 : Int) ≤ (a : Int) := by omega
                have HRs2 : Hid (restS ps0 4096 [] R0 = restS (ps0.drop 1) 4096 (acc ++ [a]) (L.drop sz)) := by
                  show _ = _
                  rw [HRs.out]
                  simp [ps0, restS, hnS]
                  try omega
                have hL0 : 0 < n := by
                  rw [HNn.out]
                  cases L with
                  | nil => simp [numS, numG, bindS, takeS] at hnS
                  | cons _ _ => simp
                obtain ⟨b3, o3, hp3, hS3, hbl3, _⟩ := HI4.out.at_ (by show 0 < L.length; rw [← HNn.out]; exact hL0)
                have hp3' : p3 = some ⟨b3, o3, none⟩ := hp3
                subst hp3'
                have hszn : sz ≤ n := by rw [HNn.out]; exact hsz
                have cw1 : w5.cell? ⟨lb, 1, none⟩ = some (.int .i64 ((acc.getD 0 0 : Nat) : Int)) := HXl4.out.cell 1
                have cf := HXl4.out.frozen
                have cl := HXl4.out.lt
                have hsz' : (sz : Int) ≤ (n : Int) := by omega
                clear hnS HLd hlo hp3 hsz
                go_upto_region 14 with fail
                refine wp_region_calmE 30 (fun wx => Below w5.heap.size w5 wx) [(0, true), (1, false), (2, true), (3, true), (4, true), (5, true), (6, true)] (.one 7 false [(8, true)] .done) (by kernel_rfl) (by kernel_rfl) (Below.refl _ _).drew ?_
                refine wpPre_e rfl rfl (fun K1 hK1 => ?_)
                apply Exists.intro
                refine And.intro (fun wx hx => ?_) ?_
                · go_simp
                  try rfl
                go_simp
                refine hK1 _ ?_
                clear hK1 K1
                refine wpPre_e rfl rfl (fun K1 hK1 => ?_)
                apply Exists.intro
                refine And.intro (fun wx hx => ?_) ?_
                · have e0 := below_fact hx rfl z0
                  go_simp
                  try rfl
                go_simp
                refine hK1 _ ?_
                clear hK1 K1
                refine wpPre_e rfl rfl (fun K1 hK1 => ?_)
                apply Exists.intro
                refine And.intro (fun wx hx => ?_) ?_
                · go_simp
                  try rfl
                go_simp
                refine hK1 _ ?_
                clear hK1 K1
                refine wpPre_e rfl rfl (fun K1 hK1 => ?_)
                apply Exists.intro
                refine And.intro (fun wx hx => ?_) ?_
                · go_simp
                  try rfl
                go_simp
                refine hK1 _ ?_
                clear hK1 K1
                refine wpPre_e rfl rfl (fun K1 hK1 => ?_)
                apply Exists.intro
                refine And.intro (fun wx hx => ?_) ?_
                · go_simp
                  try rfl
                go_simp
                refine hK1 _ ?_
                clear hK1 K1
                refine wpPre_e rfl rfl (fun K1 hK1 => ?_)
                apply Exists.intro
                refine And.intro (fun wx hx => ?_) ?_
                · go_simp
                  try rfl
                go_simp
                refine hK1 _ ?_
                clear hK1 K1
                refine wpPre_e rfl rfl (fun K1 hK1 => ?_)
                apply Exists.intro
                refine And.intro (fun wx hx => ?_) ?_
                · go_simp
                  try rfl
                go_simp
                refine hK1 _ ?_
                clear hK1 K1
                refine wpPre_nil ?_
                refine wpTr_e rfl (fun K1 hK1 => ?_)
                go_simp
                refine hK1 _ _ (fun h => by cases h) ?_
                clear hK1 K1
                refine wpPre_e rfl rfl (fun K1 hK1 => ?_)
                apply Exists.intro
                refine And.intro (fun wx hx => ?_) ?_
                · go_simp
                  try rfl
                go_simp
                refine hK1 _ ?_
                clear hK1 K1
                refine wpPre_nil ?_
                refine wpTr_done ?_
                obtain ⟨W6, hW6⟩ : ∃ V, V = (w5.setCell ⟨lb, 1, none⟩ (.int .i64 (a : Int))).drew := ⟨_, rfl⟩
                have hbt : But (fun k => k = lb) w5 W6 := by rw [hW6]; exact ((But.one _ _).setAt _ _).trans (But.ofBelow (Below.refl _ _).drew)
                have hX6 : Box W6 lb (letC 68 (acc ++ [a]) (.slice none 0 0)) 100 := by
                  have h := HXl4.out.set 1 (.int .i64 (a : Int))
                  have h2 := letC_set 68 acc (.slice none 0 0) a (by rw [HAc.out]; decide)
                  rw [HAc.out] at h2
                  rw [h2] at h
                  rw [hW6]
                  exact h
                have hlg : lb ≠ g := fun e => by
                  have h1 := HXl4.out
                  have h2 := HXp4.out
                  rw [e] at h1
                  unfold Box at h1 h2
                  rw [h1] at h2
                  simp at h2
                have hlr : lb ≠ rb := fun e => by
                  have h1 := HLb.out
                  have h2 := HX1.out.lt
                  omega
                have hIn : BS.In W6 (fun k => V.heap.size ≤ k ∧ k < w1.heap.size) ⟨if c3 = sz then some ⟨b3, o3, none⟩ else some ⟨b3, o3 + sz, none⟩, c3 - sz, L.drop sz⟩ := by
                  have h0 : BS.In W6 (fun k => V.heap.size ≤ k ∧ k < w1.heap.size) ⟨some ⟨b3, o3, none⟩, c3, L⟩ := HI4.out.kept hbt.size fun b hS hl => hbt.block b hl fun e => by
                    have e' : b = lb := e
                    have h1 := HLb.out
                    have h2 := hS.2
                    omega
                  by_cases hcs : c3 = sz
                  · rw [if_pos hcs]
                    exact h0.cut (by rw [← HNn.out]; exact hszn) (.inr ⟨rfl, by omega⟩)
                  · rw [if_neg hcs]
                    exact h0.cut (by rw [← HNn.out]; exact hszn) (.inl rfl)
                have HF := hid (And.intro hIn (And.intro hX6 (And.intro (HXp4.out.kept (hbt.block g HXp4.out.lt fun e => hlg e.symm)) (And.intro (HXr4.out.kept (hbt.block rb HXr4.out.lt fun e => hlr e.symm)) (HBw4.out.trans (But.below (B := w.heap.size) hbt HBw4.out.size fun q hq e => by have e' : q = lb := e; have h1 := HLb.out; have h2 := HB1.out.size; omega))))))
                have HW6 := hid hW6
                clear hW6 hbt hX6 hlg hlr hIn cw1 cf cl z0 z1 z2 zl
                go_wp2_with fail
                rw [← HW6.out]
                exact ⟨⟨1, acc ++ [a], ⟨if c3 = sz then some ⟨b3, o3, none⟩ else some ⟨b3, o3 + sz, none⟩, c3 - sz, L.drop sz⟩, by decide, rfl, by rw [List.length_drop, ← HNn.out], by simp [HAc.out], HF.out.1, HRs2.out, HF.out.2.1, HF.out.2.2.1, HF.out.2.2.2.1, HF.out.2.2.2.2⟩, by decide⟩
          by_cases hi1 : i = 1
          · as_aux_lemma =>
            subst hi1
            have y0 : wr.cell? ⟨g, 3, none⟩ = some (.pointer (some ⟨lb, 2, none⟩)) := HXp.out.cell 3
            have y1 : wr.cell? ⟨g, 3 + 1, none⟩ = some (.int .i64 1) := HXp.out.cell (3 + 1)
            have y2 : wr.cell? ⟨g, 3 + 2, none⟩ = some (.int .i64 1073741824) := HXp.out.cell (3 + 2)
            obtain ⟨V4, hV4⟩ : ∃ W, W = wr.alloc (.cells #[.pointer (some ⟨lb, 2, none⟩), .int .i64 1, .int .i64 1073741824] 129) := ⟨_, rfl⟩
            have hb4 : Below wr.heap.size wr V4 := by rw [hV4]; exact (Below.refl _ _).alloc (Nat.le_refl _) _
            obtain ⟨fb, hfb⟩ : ∃ fb, fb = wr.heap.size := ⟨_, rfl⟩
            have hX4 : Box V4 fb #[.pointer (some ⟨lb, 2, none⟩), .int .i64 1, .int .i64 1073741824] 129 := by rw [hV4, hfb]; exact Box.new _ _ _
            have HV4 := hid hV4
            have HFb := hid hfb
            have HI4 := hid (HIy.out.below hb4)
            have HXl4 := hid (HXl.out.below hb4)
            have HXp4 := hid (HXp.out.below hb4)
            have HXr4 := hid (HXr.out.below hb4)
            have HBw4 : Hid (Below w.heap.size w V4) := HBw.out.trans (hb4.mono HBw.out.size)
            have HLd := hid (numLead_any V4 _ p3 L c3 1073741824 (by decide) HI4.out)
            have z0 := hX4.cell 0
            have z1 := hX4.cell 1
            have z2 := hX4.cell 2
            have zl := hX4.lt
            simp at z0 z1 z2
            rw [← HNn.out] at HLd
            clear hV4 hfb hX4 hb4
            go_upto_region 11 with fail
            rw [← HV4.out, ← HFb.out]
            go_wp2_with fail
            refine HLd.out.mono ?_
            rintro e w5 ⟨⟨a, sz, k, rfl, hlead⟩, hw5⟩
            subst hw5
            rcases hlead with ⟨rfl, hsz, hnS, hale⟩ | ⟨hk0, rfl, rfl, hnS⟩
            case inr =>
              have hk0' : ((k : Int) != 0) = true := by rw [bne_iff_ne]; omega
              have HN2 := hid (HN.out (by rw [HRs.out]; simp [ps0, restS, hnS]))
              clear HN
              have HN := HN2
              clear hk0 hnS HLd
              have r0 := HXr4.out.cell 0
              have r1 := HXr4.out.cell 1
              have r2 := HXr4.out.cell 2
              have r3 := HXr4.out.cell 3
              have r4 := HXr4.out.cell 4
              have rl := HXr4.out.lt
              have rf := HXr4.out.frozen
              simp at r0 r1 r2 r3 r4
              go_wp2
              obtain ⟨V5, hV5⟩ : ∃ V, V = ((((w5.setCell ⟨rb, 0, none⟩ (.int .u8 0)).setCell ⟨rb, 1, none⟩ (.int .i64 0)).setCell ⟨rb, 2, none⟩ (.int .i64 0)).setCell ⟨rb, 3, none⟩ (.int .i64 0)).setCell ⟨rb, 4, none⟩ (.slice none 0 0) := ⟨_, rfl⟩
              have hX5 : Box V5 rb #[.int .u8 0, .int .i64 0, .int .i64 0, .int .i64 0, .slice none 0 0] 100 := by rw [hV5]; exact HXr4.out.set5 _ _ _ _ _
              have hb5 : Below w.heap.size w5 V5 := by rw [hV5]; exact But.below (but5 w5 rb _ _ _ _ _) HBw4.out.size fun q hq e => by have e' : q = rb := e; have := HRb.out; omega
              have HQ := hid (HN.out V5 (HBw4.out.trans hb5))
              have q0 := hX5.cell 0
              have q1 := hX5.cell 1
              have q2 := hX5.cell 2
              have q3 := hX5.cell 3
              have q4 := hX5.cell 4
              simp at q0 q1 q2 q3 q4
              rw [← hV5]
              clear hV5 hX5 hb5
              refine bodyPost_ret (v := .tuple #[letZ, .bool false]) (by simp [results, Tryd.results62, go_sem, q0, q1, q2, q3, q4, letZ]) rfl HQ.out
            case inl =>
              by_cases hlo : a < 1
              · have hlo' : (a : Int) < 1 := by omega
                have HN2 := hid (HN.out (by rw [HRs.out]; simp [ps0, restS, hnS]; try omega))
                clear HN
                have HN := HN2
                clear hnS HLd hlo
                have r0 := HXr4.out.cell 0
                have r1 := HXr4.out.cell 1
                have r2 := HXr4.out.cell 2
                have r3 := HXr4.out.cell 3
                have r4 := HXr4.out.cell 4
                have rl := HXr4.out.lt
                have rf := HXr4.out.frozen
                simp at r0 r1 r2 r3 r4
                go_wp2
                obtain ⟨V5, hV5⟩ : ∃ V, V = ((((w5.setCell ⟨rb, 0, none⟩ (.int .u8 0)).setCell ⟨rb, 1, none⟩ (.int .i64 0)).setCell ⟨rb, 2, none⟩ (.int .i64 0)).setCell ⟨rb, 3, none⟩ (.int .i64 0)).setCell ⟨rb, 4, none⟩ (.slice none 0 0) := ⟨_, rfl⟩
                have hX5 : Box V5 rb #[.int .u8 0, .int .i64 0, .int .i64 0, .int .i64 0, .slice none 0 0] 100 := by rw [hV5]; exact HXr4.out.set5 _ _ _ _ _
                have hb5 : Below w.heap.size w5 V5 := by rw [hV5]; exact But.below (but5 w5 rb _ _ _ _ _) HBw4.out.size fun q hq e => by have e' : q = rb := e; have := HRb.out; omega
                have HQ := hid (HN.out V5 (HBw4.out.trans hb5))
                have q0 := hX5.cell 0
                have q1 := hX5.cell 1
                have q2 := hX5.cell 2
                have q3 := hX5.cell 3
                have q4 := hX5.cell 4
                simp at q0 q1 q2 q3 q4
                rw [← hV5]
                clear hV5 hX5 hb5
                refine bodyPost_ret (v := .tuple #[letZ, .bool false]) (by simp [results, Tryd.results62, go_sem, q0, q1, q2, q3, q4, letZ]) rfl HQ.out
              · have hlo' : ¬ (a : Int) < 1 := by omega
                have HRs2 : Hid (restS ps0 4096 [] R0 = restS (ps0.drop 2) 4096 (acc ++ [a]) (L.drop sz)) := by
                  show _ = _
                  rw [HRs.out]
                  simp [ps0, restS, hnS]
                  try omega
                have hL0 : 0 < n := by
                  rw [HNn.out]
                  cases L with
                  | nil => simp [numS, numG, bindS, takeS] at hnS
                  | cons _ _ => simp
                obtain ⟨b3, o3, hp3, hS3, hbl3, _⟩ := HI4.out.at_ (by show 0 < L.length; rw [← HNn.out]; exact hL0)
                have hp3' : p3 = some ⟨b3, o3, none⟩ := hp3
                subst hp3'
                have hszn : sz ≤ n := by rw [HNn.out]; exact hsz
                have cw2 : w5.cell? ⟨lb, 2, none⟩ = some (.int .i64 ((acc.getD 1 0 : Nat) : Int)) := HXl4.out.cell 2
                have cf := HXl4.out.frozen
                have cl := HXl4.out.lt
                have hsz' : (sz : Int) ≤ (n : Int) := by omega
                clear hnS HLd hlo hp3 hsz
                go_upto_region 14 with fail
                refine wp_region_calmE 30 (fun wx => Below w5.heap.size w5 wx) [(0, true), (1, false), (2, true), (3, true), (4, true), (5, true), (6, true)] (.one 7 false [(8, true)] .done) (by kernel_rfl) (by kernel_rfl) (Below.refl _ _).drew ?_
                refine wpPre_e rfl rfl (fun K1 hK1 => ?_)
                apply Exists.intro
                refine And.intro (fun wx hx => ?_) ?_
                · go_simp
                  try rfl
                go_simp
                refine hK1 _ ?_
                clear hK1 K1
                refine wpPre_e rfl rfl (fun K1 hK1 => ?_)
                apply Exists.intro
                refine And.intro (fun wx hx => ?_) ?_
                · have e0 := below_fact hx rfl z0
                  go_simp
                  try rfl
                go_simp
                refine hK1 _ ?_
                clear hK1 K1
                refine wpPre_e rfl rfl (fun K1 hK1 => ?_)
                apply Exists.intro
                refine And.intro (fun wx hx => ?_) ?_
                · go_simp
                  try rfl
                go_simp
                refine hK1 _ ?_
                clear hK1 K1
                refine wpPre_e rfl rfl (fun K1 hK1 => ?_)
                apply Exists.intro
                refine And.intro (fun wx hx => ?_) ?_
                · go_simp
                  try rfl
                go_simp
                refine hK1 _ ?_
                clear hK1 K1
                refine wpPre_e rfl rfl (fun K1 hK1 => ?_)
                apply Exists.intro
                refine And.intro (fun wx hx => ?_) ?_
                · go_simp
                  try rfl
                go_simp
                refine hK1 _ ?_
                clear hK1 K1
                refine wpPre_e rfl rfl (fun K1 hK1 => ?_)
                apply Exists.intro
                refine And.intro (fun wx hx => ?_) ?_
                · go_simp
                  try rfl
                go_simp
                refine hK1 _ ?_
                clear hK1 K1
                refine wpPre_e rfl rfl (fun K1 hK1 => ?_)
                apply Exists.intro
                refine And.intro (fun wx hx => ?_) ?_
                · go_simp
                  try rfl
                go_simp
                refine hK1 _ ?_
                clear hK1 K1
                refine wpPre_nil ?_
                refine wpTr_e rfl (fun K1 hK1 => ?_)
                go_simp
                refine hK1 _ _ (fun h => by cases h) ?_
                clear hK1 K1
                refine wpPre_e rfl rfl (fun K1 hK1 => ?_)
                apply Exists.intro
                refine And.intro (fun wx hx => ?_) ?_
                · go_simp
                  try rfl
                go_simp
                refine hK1 _ ?_
                clear hK1 K1
                refine wpPre_nil ?_
                refine wpTr_done ?_
                obtain ⟨W6, hW6⟩ : ∃ V, V = (w5.setCell ⟨lb, 2, none⟩ (.int .i64 (a : Int))).drew := ⟨_, rfl⟩
                have hbt : But (fun k => k = lb) w5 W6 := by rw [hW6]; exact ((But.one _ _).setAt _ _).trans (But.ofBelow (Below.refl _ _).drew)
                have hX6 : Box W6 lb (letC 68 (acc ++ [a]) (.slice none 0 0)) 100 := by
                  have h := HXl4.out.set 2 (.int .i64 (a : Int))
                  have h2 := letC_set 68 acc (.slice none 0 0) a (by rw [HAc.out]; decide)
                  rw [HAc.out] at h2
                  rw [h2] at h
                  rw [hW6]
                  exact h
                have hlg : lb ≠ g := fun e => by
                  have h1 := HXl4.out
                  have h2 := HXp4.out
                  rw [e] at h1
                  unfold Box at h1 h2
                  rw [h1] at h2
                  simp at h2
                have hlr : lb ≠ rb := fun e => by
                  have h1 := HLb.out
                  have h2 := HX1.out.lt
                  omega
                have hIn : BS.In W6 (fun k => V.heap.size ≤ k ∧ k < w1.heap.size) ⟨if c3 = sz then some ⟨b3, o3, none⟩ else some ⟨b3, o3 + sz, none⟩, c3 - sz, L.drop sz⟩ := by
                  have h0 : BS.In W6 (fun k => V.heap.size ≤ k ∧ k < w1.heap.size) ⟨some ⟨b3, o3, none⟩, c3, L⟩ := HI4.out.kept hbt.size fun b hS hl => hbt.block b hl fun e => by
                    have e' : b = lb := e
                    have h1 := HLb.out
                    have h2 := hS.2
                    omega
                  by_cases hcs : c3 = sz
                  · rw [if_pos hcs]
                    exact h0.cut (by rw [← HNn.out]; exact hszn) (.inr ⟨rfl, by omega⟩)
                  · rw [if_neg hcs]
                    exact h0.cut (by rw [← HNn.out]; exact hszn) (.inl rfl)
                have HF := hid (And.intro hIn (And.intro hX6 (And.intro (HXp4.out.kept (hbt.block g HXp4.out.lt fun e => hlg e.symm)) (And.intro (HXr4.out.kept (hbt.block rb HXr4.out.lt fun e => hlr e.symm)) (HBw4.out.trans (But.below (B := w.heap.size) hbt HBw4.out.size fun q hq e => by have e' : q = lb := e; have h1 := HLb.out; have h2 := HB1.out.size; omega))))))
                have HW6 := hid hW6
                clear hW6 hbt hX6 hlg hlr hIn cw2 cf cl z0 z1 z2 zl
                go_wp2_with fail
                rw [← HW6.out]
                exact ⟨⟨2, acc ++ [a], ⟨if c3 = sz then some ⟨b3, o3, none⟩ else some ⟨b3, o3 + sz, none⟩, c3 - sz, L.drop sz⟩, by decide, rfl, by rw [List.length_drop, ← HNn.out], by simp [HAc.out], HF.out.1, HRs2.out, HF.out.2.1, HF.out.2.2.1, HF.out.2.2.2.1, HF.out.2.2.2.2⟩, by decide⟩
          · as_aux_lemma =>
            obtain rfl : i = 2 := by omega
            have y0 : wr.cell? ⟨g, 6, none⟩ = some (.pointer none) := HXp.out.cell 6
            have y1 : wr.cell? ⟨g, 6 + 1, none⟩ = some (.int .i64 0) := HXp.out.cell (6 + 1)
            have y2 : wr.cell? ⟨g, 6 + 2, none⟩ = some (.int .i64 4096) := HXp.out.cell (6 + 2)
            obtain ⟨V4, hV4⟩ : ∃ W, W = wr.alloc (.cells #[.pointer none, .int .i64 0, .int .i64 4096] 129) := ⟨_, rfl⟩
            have hb4 : Below wr.heap.size wr V4 := by rw [hV4]; exact (Below.refl _ _).alloc (Nat.le_refl _) _
            obtain ⟨fb, hfb⟩ : ∃ fb, fb = wr.heap.size := ⟨_, rfl⟩
            have hX4 : Box V4 fb #[.pointer none, .int .i64 0, .int .i64 4096] 129 := by rw [hV4, hfb]; exact Box.new _ _ _
            have HV4 := hid hV4
            have HFb := hid hfb
            have HI4 := hid (HIy.out.below hb4)
            have HXl4 := hid (HXl.out.below hb4)
            have HXr4 := hid (HXr.out.below hb4)
            have HBw4 : Hid (Below w.heap.size w V4) := HBw.out.trans (hb4.mono HBw.out.size)
            have z0 := hX4.cell 0
            have z1 := hX4.cell 1
            have z2 := hX4.cell 2
            have zl := hX4.lt
            simp at z0 z1 z2
            clear hV4 hfb hX4 hb4
            go_upto_region 11 with fail
            rw [← HV4.out, ← HFb.out]
            by_cases hmm : 4096 < n
            · have hmm' : (4096 : Int) < (n : Int) := by omega
              have HN2 := hid (HN.out (by rw [HRs.out]; simp [ps0, restS, ← HNn.out]; omega))
              clear HN
              have HN := HN2
              clear hmm
              have r0 := HXr4.out.cell 0
              have r1 := HXr4.out.cell 1
              have r2 := HXr4.out.cell 2
              have r3 := HXr4.out.cell 3
              have r4 := HXr4.out.cell 4
              have rl := HXr4.out.lt
              have rf := HXr4.out.frozen
              simp at r0 r1 r2 r3 r4
              go_wp2
              obtain ⟨V5, hV5⟩ : ∃ V, V = ((((V4.setCell ⟨rb, 0, none⟩ (.int .u8 0)).setCell ⟨rb, 1, none⟩ (.int .i64 0)).setCell ⟨rb, 2, none⟩ (.int .i64 0)).setCell ⟨rb, 3, none⟩ (.int .i64 0)).setCell ⟨rb, 4, none⟩ (.slice none 0 0) := ⟨_, rfl⟩
              have hX5 : Box V5 rb #[.int .u8 0, .int .i64 0, .int .i64 0, .int .i64 0, .slice none 0 0] 100 := by rw [hV5]; exact HXr4.out.set5 _ _ _ _ _
              have hb5 : Below w.heap.size V4 V5 := by rw [hV5]; exact But.below (but5 V4 rb _ _ _ _ _) HBw4.out.size fun q hq e => by have e' : q = rb := e; have := HRb.out; omega
              have HQ := hid (HN.out V5 (HBw4.out.trans hb5))
              have q0 := hX5.cell 0
              have q1 := hX5.cell 1
              have q2 := hX5.cell 2
              have q3 := hX5.cell 3
              have q4 := hX5.cell 4
              simp at q0 q1 q2 q3 q4
              rw [← hV5]
              clear hV5 hX5 hb5
              refine bodyPost_ret (v := .tuple #[letZ, .bool false]) (by simp [results, Tryd.results62, go_sem, q0, q1, q2, q3, q4, letZ]) rfl HQ.out
            · have hmm' : ¬ (4096 : Int) < (n : Int) := by omega
              have HYs := hid (HY.out acc L (by rw [HRs.out]; simp [ps0, restS, ← HNn.out]; omega))
              have c0 : V4.cell? ⟨lb, 0, none⟩ = some (.int .u8 68) := HXl4.out.cell 0
              have c1 : V4.cell? ⟨lb, 1, none⟩ = some (.int .i64 ((acc.getD 0 0 : Nat) : Int)) := HXl4.out.cell 1
              have c2 : V4.cell? ⟨lb, 2, none⟩ = some (.int .i64 ((acc.getD 1 0 : Nat) : Int)) := HXl4.out.cell 2
              have c3_ : V4.cell? ⟨lb, 3, none⟩ = some (.int .i64 ((acc.getD 2 0 : Nat) : Int)) := HXl4.out.cell 3
              have c4 : V4.cell? ⟨lb, 4, none⟩ = some (.slice none 0 0) := HXl4.out.cell 4
              have cf := HXl4.out.frozen
              have cl := HXl4.out.lt
              have hlr : lb ≠ rb := fun e => by
                have h1 := HLb.out
                have h2 := HX1.out.lt
                omega
              obtain ⟨W6, hW6⟩ : ∃ V, V = V4.setCell ⟨lb, 4, none⟩ (.slice p3 n c3) := ⟨_, rfl⟩
              have hbt : But (fun k => k = lb) V4 W6 := by rw [hW6]; exact (But.one _ _).setAt _ _
              have hX6 : Box W6 lb (letC 68 acc (.slice p3 n c3)) 100 := by
                have h := HXl4.out.set 4 (.slice p3 n c3)
                rw [hW6]
                exact h
              have HXr6 := hid (HXr4.out.kept (hbt.block rb HXr4.out.lt fun e => hlr e.symm))
              have HI6 : Hid (BS.In W6 (fun k => V.heap.size ≤ k ∧ k < w1.heap.size) ⟨p3, c3, L⟩) := HI4.out.kept hbt.size fun b hS hl => hbt.block b hl fun e => by
                have e' : b = lb := e
                have h1 := HLb.out
                have h2 := hS.2
                omega
              have HB6 : Hid (Below w.heap.size w W6) := HBw4.out.trans (But.below (B := w.heap.size) hbt HBw4.out.size fun q hq e => by have e' : q = lb := e; have h1 := HLb.out; have h2 := HB1.out.size; omega)
              have HX6 := hid hX6
              have HW6 := hid hW6
              have HLr := hid hlr
              clear hW6 hbt hX6 hmm hlr
              go_upto_region 10 with fail
              rw [← HW6.out]
              clear c0 c1 c2 c3_ c4 cf cl z0 z1 z2 zl
              have d0 : W6.cell? ⟨lb, 0, none⟩ = some (.int .u8 68) := HX6.out.cell 0
              have d1 : W6.cell? ⟨lb, 1, none⟩ = some (.int .i64 ((acc.getD 0 0 : Nat) : Int)) := HX6.out.cell 1
              have d2 : W6.cell? ⟨lb, 2, none⟩ = some (.int .i64 ((acc.getD 1 0 : Nat) : Int)) := HX6.out.cell 2
              have d3 : W6.cell? ⟨lb, 3, none⟩ = some (.int .i64 ((acc.getD 2 0 : Nat) : Int)) := HX6.out.cell 3
              have d4 : W6.cell? ⟨lb, 4, none⟩ = some (.slice p3 n c3) := HX6.out.cell 4
              have dl := HX6.out.lt
              obtain ⟨a0, ha0⟩ : ∃ a0, a0 = acc.getD 0 0 := ⟨_, rfl⟩
              obtain ⟨a1, ha1⟩ : ∃ a1, a1 = acc.getD 1 0 := ⟨_, rfl⟩
              obtain ⟨a2, ha2⟩ : ∃ a2, a2 = acc.getD 2 0 := ⟨_, rfl⟩
              rw [← ha0, ← ha1, ← ha2] at HYs
              rw [← ha0] at d1
              rw [← ha1] at d2
              rw [← ha2] at d3
              clear ha0 ha1 ha2
              have r0 := HXr6.out.cell 0
              have r1 := HXr6.out.cell 1
              have r2 := HXr6.out.cell 2
              have r3 := HXr6.out.cell 3
              have r4 := HXr6.out.cell 4
              have rl := HXr6.out.lt
              have rf := HXr6.out.frozen
              simp at r0 r1 r2 r3 r4
              go_wp2
              obtain ⟨V5, hV5⟩ : ∃ V, V = ((((W6.setCell ⟨rb, 0, none⟩ (.int .u8 68)).setCell ⟨rb, 1, none⟩ (.int .i64 (a0 : Int))).setCell ⟨rb, 2, none⟩ (.int .i64 (a1 : Int))).setCell ⟨rb, 3, none⟩ (.int .i64 (a2 : Int))).setCell ⟨rb, 4, none⟩ (.slice p3 n c3) := ⟨_, rfl⟩
              have hX5 : Box V5 rb #[.int .u8 68, .int .i64 (a0 : Int), .int .i64 (a1 : Int), .int .i64 (a2 : Int), .slice p3 n c3] 100 := by rw [hV5]; exact HXr6.out.set5 _ _ _ _ _
              have hbt5 : But (fun k => k = rb) W6 V5 := by rw [hV5]; exact but5 W6 rb _ _ _ _ _
              have hb5 : Below w.heap.size W6 V5 := But.below hbt5 HB6.out.size fun q hq e => by have e' : q = rb := e; have := HRb.out; omega
              have HQ : Hid (ReadQ xz w (.returned (.tuple #[.agg #[.int .u8 68, .int .i64 (a0 : Int), .int .i64 (a1 : Int), .int .i64 (a2 : Int), .slice p3 n c3], .bool true])) V5) := by
                refine ⟨fun h => (by rw [HYs.out] at h; cases h), fun l hl => ?_, HB6.out.trans hb5⟩
                rw [HYs.out] at hl
                cases hl
                refine ⟨⟨p3, c3, L⟩, rfl, ?_, by rw [HNn.out]; rfl⟩
                have h1 : BS.In V5 (fun k => V.heap.size ≤ k ∧ k < w1.heap.size) ⟨p3, c3, L⟩ := HI6.out.kept hbt5.size fun b hS hl => hbt5.block b hl fun e => by
                  have e' : b = rb := e
                  have h1 := hS.1
                  have h2 := HX.out.lt
                  omega
                exact h1.mono fun k hk _ => Nat.le_trans HB.out.size hk.1
              have q0 := hX5.cell 0
              have q1 := hX5.cell 1
              have q2 := hX5.cell 2
              have q3 := hX5.cell 3
              have q4 := hX5.cell 4
              simp at q0 q1 q2 q3 q4
              rw [← hV5]
              clear hV5 hX5 hb5 hbt5
              refine bodyPost_ret (v := .tuple #[.agg #[.int .u8 68, .int .i64 (a0 : Int), .int .i64 (a1 : Int), .int .i64 (a2 : Int), .slice p3 n c3], .bool true]) (by simp [results, Tryd.results62, go_sem, q0, q1, q2, q3, q4]) rfl HQ.out
      by_cases hk65 : kd = 65
      · as_aux_lemma =>
        subst hk65
        have HN : Hid (restS ps1 0 [] R0 = none → ∀ w2, Below w.heap.size w w2 → ReadQ xz w (.returned (.tuple #[letZ, .bool false])) w2) := fun h0 w2 h2 => ⟨fun _ => rfl, fun l hl => (by rw [HRd.out] at hl; simp [readS, h0, letOf] at hl), h2⟩
        have HY : Hid (∀ acc R, restS ps1 0 [] R0 = some (acc, R) → readP xz = some ⟨65, acc.getD 0 0, acc.getD 1 0, acc.getD 2 0, R⟩) := fun acc R h => by rw [HRd.out]; simp [readS, h, letOf]
        have HP := hid (pieces_ans V2 lb hkc)
        clear hkc
        go_wp2_with fail
        refine HP.out.mono ?_
        rintro e w3 ⟨g, rfl, hg, hXg, hb3⟩
        have HB3 : Hid (Below w.heap.size w w3) := HB2.out.trans (hb3.mono HB2.out.size)
        have HR3 := hid (HR2.out.below hb3)
        have HX3 := hid (HX2.out.below hb3)
        have HI3 := hid (HI2.out.below hb3)
        have HXg := hid hXg
        clear hb3 HP hXg hg
        go_wp2_with fail
        go_loopw [4, 33] (fun v x wr => ∃ (i : Nat) (acc : List Nat) (y : BS), i ≤ 3 ∧ x = .int .i64 (i : Int) ∧ v = .slice y.p y.zs.length y.c ∧ acc.length = i ∧ y.In wr (fun k => V.heap.size ≤ k ∧ k < w1.heap.size) ∧ restS ps1 0 [] R0 = restS (ps1.drop i) 0 acc y.zs ∧ Box wr lb (letC 65 acc (.slice none 0 0)) 100 ∧ Box wr g (pcs1 lb) 129 ∧ Box wr rb #[.int .u8 0, .int .i64 0, .int .i64 0, .int .i64 0, .slice none 0 0] 100 ∧ Below w.heap.size w wr) (fun _ x _ => 3 + 1 - (intOf x).toNat)
        case atStart => exact ⟨0, [], ⟨p2, c2, R0⟩, by omega, rfl, by rw [HMl.out], rfl, HI3.out, rfl, HX3.out, HXg.out, HR3.out, HB3.out⟩
        case round =>
          obtain ⟨i, acc, y, hi, rfl, rfl, hac, hIy, hrs, hXl, hXp, hXr, hbw⟩ := hrel
          have HIy := hid hIy
          have HRs := hid hrs
          have HXl := hid hXl
          have HXp := hid hXp
          have HXr := hid hXr
          have HBw := hid hbw
          have HAc := hid hac
          clear hIy hrs hXl hXp hXr hbw HB3 HR3 HX3 HI3 HXg hac
          obtain ⟨p3, c3, L⟩ := y
          simp only at HIy HRs ⊢
          obtain ⟨n, hn⟩ : ∃ n, n = L.length := ⟨_, rfl⟩
          have hnc : n ≤ c3 := by rw [hn]; exact HIy.out.nc
          have hn32 : n ≤ 140737488355328 := by rw [hn]; exact HIy.out.nn
          rw [← hn]
          have HNn := hid hn
          clear hn
          have hgl := HXp.out.lt
          by_cases hi0 : i = 0
          · as_aux_lemma =>
            subst hi0
            have y0 : wr.cell? ⟨g, 0, none⟩ = some (.pointer (some ⟨lb, 1, none⟩)) := HXp.out.cell 0
            have y1 : wr.cell? ⟨g, 0 + 1, none⟩ = some (.int .i64 0) := HXp.out.cell (0 + 1)
            have y2 : wr.cell? ⟨g, 0 + 2, none⟩ = some (.int .i64 23) := HXp.out.cell (0 + 2)
            obtain ⟨V4, hV4⟩ : ∃ W, W = wr.alloc (.cells #[.pointer (some ⟨lb, 1, none⟩), .int .i64 0, .int .i64 23] 129) := ⟨_, rfl⟩
            have hb4 : Below wr.heap.size wr V4 := by rw [hV4]; exact (Below.refl _ _).alloc (Nat.le_refl _) _
            obtain ⟨fb, hfb⟩ : ∃ fb, fb = wr.heap.size := ⟨_, rfl⟩
            have hX4 : Box V4 fb #[.pointer (some ⟨lb, 1, none⟩), .int .i64 0, .int .i64 23] 129 := by rw [hV4, hfb]; exact Box.new _ _ _
            have HV4 := hid hV4
            have HFb := hid hfb
            have HI4 := hid (HIy.out.below hb4)
            have HXl4 := hid (HXl.out.below hb4)
            have HXp4 := hid (HXp.out.below hb4)
            have HXr4 := hid (HXr.out.below hb4)
            have HBw4 : Hid (Below w.heap.size w V4) := HBw.out.trans (hb4.mono HBw.out.size)
            have HLd := hid (numLead_any V4 _ p3 L c3 23 (by decide) HI4.out)
            have z0 := hX4.cell 0
            have z1 := hX4.cell 1
            have z2 := hX4.cell 2
            have zl := hX4.lt
            simp at z0 z1 z2
            rw [← HNn.out] at HLd
            clear hV4 hfb hX4 hb4
            go_upto_region 11 with fail
            rw [← HV4.out, ← HFb.out]
            go_wp2_with fail
            refine HLd.out.mono ?_
            rintro e w5 ⟨⟨a, sz, k, rfl, hlead⟩, hw5⟩
            subst hw5
            rcases hlead with ⟨rfl, hsz, hnS, hale⟩ | ⟨hk0, rfl, rfl, hnS⟩
            case inr =>
              have hk0' : ((k : Int) != 0) = true := by rw [bne_iff_ne]; omega
              have HN2 := hid (HN.out (by rw [HRs.out]; simp [ps1, restS, hnS]))
              clear HN
              have HN := HN2
              clear hk0 hnS HLd
              have r0 := HXr4.out.cell 0
              have r1 := HXr4.out.cell 1
              have r2 := HXr4.out.cell 2
              have r3 := HXr4.out.cell 3
              have r4 := HXr4.out.cell 4
              have rl := HXr4.out.lt
              have rf := HXr4.out.frozen
              simp at r0 r1 r2 r3 r4
              go_wp2
              obtain ⟨V5, hV5⟩ : ∃ V, V = ((((w5.setCell ⟨rb, 0, none⟩ (.int .u8 0)).setCell ⟨rb, 1, none⟩ (.int .i64 0)).setCell ⟨rb, 2, none⟩ (.int .i64 0)).setCell ⟨rb, 3, none⟩ (.int .i64 0)).setCell ⟨rb, 4, none⟩ (.slice none 0 0) := ⟨_, rfl⟩
              have hX5 : Box V5 rb #[.int .u8 0, .int .i64 0, .int .i64 0, .int .i64 0, .slice none 0 0] 100 := by rw [hV5]; exact HXr4.out.set5 _ _ _ _ _
              have hb5 : Below w.heap.size w5 V5 := by rw [hV5]; exact But.below (but5 w5 rb _ _ _ _ _) HBw4.out.size fun q hq e => by have e' : q = rb := e; have := HRb.out; omega
              have HQ := hid (HN.out V5 (HBw4.out.trans hb5))
              have q0 := hX5.cell 0
              have q1 := hX5.cell 1
              have q2 := hX5.cell 2
              have q3 := hX5.cell 3
              have q4 := hX5.cell 4
              simp at q0 q1 q2 q3 q4
              rw [← hV5]
              clear hV5 hX5 hb5
              refine bodyPost_ret (v := .tuple #[letZ, .bool false]) (by simp [results, Tryd.results62, go_sem, q0, q1, q2, q3, q4, letZ]) rfl HQ.out
            case inl =>
              by_cases hlo : a < 0
              · exact absurd hlo (by omega)
              · have hlo' : (0 : Int) ≤ (a : Int) := by omega
                have HRs2 : Hid (restS ps1 0 [] R0 = restS (ps1.drop 1) 0 (acc ++ [a]) (L.drop sz)) := by
                  show _ = _
                  rw [HRs.out]
                  simp [ps1, restS, hnS]
                  try omega
                have hL0 : 0 < n := by
                  rw [HNn.out]
                  cases L with
                  | nil => simp [numS, numG, bindS, takeS] at hnS
                  | cons _ _ => simp
                obtain ⟨b3, o3, hp3, hS3, hbl3, _⟩ := HI4.out.at_ (by show 0 < L.length; rw [← HNn.out]; exact hL0)
                have hp3' : p3 = some ⟨b3, o3, none⟩ := hp3
                subst hp3'
                have hszn : sz ≤ n := by rw [HNn.out]; exact hsz
                have cw1 : w5.cell? ⟨lb, 1, none⟩ = some (.int .i64 ((acc.getD 0 0 : Nat) : Int)) := HXl4.out.cell 1
                have cf := HXl4.out.frozen
                have cl := HXl4.out.lt
                have hsz' : (sz : Int) ≤ (n : Int) := by omega
                clear hnS HLd hlo hp3 hsz
                go_upto_region 14 with fail
                refine wp_region_calmE 30 (fun wx => Below w5.heap.size w5 wx) [(0, true), (1, false), (2, true), (3, true), (4, true), (5, true), (6, true)] (.one 7 false [(8, true)] .done) (by kernel_rfl) (by kernel_rfl) (Below.refl _ _).drew ?_
                refine wpPre_e rfl rfl (fun K1 hK1 => ?_)
                apply Exists.intro
                refine And.intro (fun wx hx => ?_) ?_
                · go_simp
                  try rfl
                go_simp
                refine hK1 _ ?_
                clear hK1 K1
                refine wpPre_e rfl rfl (fun K1 hK1 => ?_)
                apply Exists.intro
                refine And.intro (fun wx hx => ?_) ?_
                · have e0 := below_fact hx rfl z0
                  go_simp
                  try rfl
                go_simp
                refine hK1 _ ?_
                clear hK1 K1
                refine wpPre_e rfl rfl (fun K1 hK1 => ?_)
                apply Exists.intro
                refine And.intro (fun wx hx => ?_) ?_
                · go_simp
                  try rfl
                go_simp
                refine hK1 _ ?_
                clear hK1 K1
                refine wpPre_e rfl rfl (fun K1 hK1 => ?_)
                apply Exists.intro
                refine And.intro (fun wx hx => ?_) ?_
                · go_simp
                  try rfl
                go_simp
                refine hK1 _ ?_
                clear hK1 K1
                refine wpPre_e rfl rfl (fun K1 hK1 => ?_)
                apply Exists.intro
                refine And.intro (fun wx hx => ?_) ?_
                · go_simp
                  try rfl
                go_simp
                refine hK1 _ ?_
                clear hK1 K1
                refine wpPre_e rfl rfl (fun K1 hK1 => ?_)
                apply Exists.intro
                refine And.intro (fun wx hx => ?_) ?_
                · go_simp
                  try rfl
                go_simp
                refine hK1 _ ?_
                clear hK1 K1
                refine wpPre_e rfl rfl (fun K1 hK1 => ?_)
                apply Exists.intro
                refine And.intro (fun wx hx => ?_) ?_
                · go_simp
                  try rfl
                go_simp
                refine hK1 _ ?_
                clear hK1 K1
                refine wpPre_nil ?_
                refine wpTr_e rfl (fun K1 hK1 => ?_)
                go_simp
                refine hK1 _ _ (fun h => by cases h) ?_
                clear hK1 K1
                refine wpPre_e rfl rfl (fun K1 hK1 => ?_)
                apply Exists.intro
                refine And.intro (fun wx hx => ?_) ?_
                · go_simp
                  try rfl
                go_simp
                refine hK1 _ ?_
                clear hK1 K1
                refine wpPre_nil ?_
                refine wpTr_done ?_
                obtain ⟨W6, hW6⟩ : ∃ V, V = (w5.setCell ⟨lb, 1, none⟩ (.int .i64 (a : Int))).drew := ⟨_, rfl⟩
                have hbt : But (fun k => k = lb) w5 W6 := by rw [hW6]; exact ((But.one _ _).setAt _ _).trans (But.ofBelow (Below.refl _ _).drew)
                have hX6 : Box W6 lb (letC 65 (acc ++ [a]) (.slice none 0 0)) 100 := by
                  have h := HXl4.out.set 1 (.int .i64 (a : Int))
                  have h2 := letC_set 65 acc (.slice none 0 0) a (by rw [HAc.out]; decide)
                  rw [HAc.out] at h2
                  rw [h2] at h
                  rw [hW6]
                  exact h
                have hlg : lb ≠ g := fun e => by
                  have h1 := HXl4.out
                  have h2 := HXp4.out
                  rw [e] at h1
                  unfold Box at h1 h2
                  rw [h1] at h2
                  simp at h2
                have hlr : lb ≠ rb := fun e => by
                  have h1 := HLb.out
                  have h2 := HX1.out.lt
                  omega
                have hIn : BS.In W6 (fun k => V.heap.size ≤ k ∧ k < w1.heap.size) ⟨if c3 = sz then some ⟨b3, o3, none⟩ else some ⟨b3, o3 + sz, none⟩, c3 - sz, L.drop sz⟩ := by
                  have h0 : BS.In W6 (fun k => V.heap.size ≤ k ∧ k < w1.heap.size) ⟨some ⟨b3, o3, none⟩, c3, L⟩ := HI4.out.kept hbt.size fun b hS hl => hbt.block b hl fun e => by
                    have e' : b = lb := e
                    have h1 := HLb.out
                    have h2 := hS.2
                    omega
                  by_cases hcs : c3 = sz
                  · rw [if_pos hcs]
                    exact h0.cut (by rw [← HNn.out]; exact hszn) (.inr ⟨rfl, by omega⟩)
                  · rw [if_neg hcs]
                    exact h0.cut (by rw [← HNn.out]; exact hszn) (.inl rfl)
                have HF := hid (And.intro hIn (And.intro hX6 (And.intro (HXp4.out.kept (hbt.block g HXp4.out.lt fun e => hlg e.symm)) (And.intro (HXr4.out.kept (hbt.block rb HXr4.out.lt fun e => hlr e.symm)) (HBw4.out.trans (But.below (B := w.heap.size) hbt HBw4.out.size fun q hq e => by have e' : q = lb := e; have h1 := HLb.out; have h2 := HB1.out.size; omega))))))
                have HW6 := hid hW6
                clear hW6 hbt hX6 hlg hlr hIn cw1 cf cl z0 z1 z2 zl
                go_wp2_with fail
                rw [← HW6.out]
                exact ⟨⟨1, acc ++ [a], ⟨if c3 = sz then some ⟨b3, o3, none⟩ else some ⟨b3, o3 + sz, none⟩, c3 - sz, L.drop sz⟩, by decide, rfl, by rw [List.length_drop, ← HNn.out], by simp [HAc.out], HF.out.1, HRs2.out, HF.out.2.1, HF.out.2.2.1, HF.out.2.2.2.1, HF.out.2.2.2.2⟩, by decide⟩
          by_cases hi1 : i = 1
          · as_aux_lemma =>
            subst hi1
            have y0 : wr.cell? ⟨g, 3, none⟩ = some (.pointer (some ⟨lb, 2, none⟩)) := HXp.out.cell 3
            have y1 : wr.cell? ⟨g, 3 + 1, none⟩ = some (.int .i64 0) := HXp.out.cell (3 + 1)
            have y2 : wr.cell? ⟨g, 3 + 2, none⟩ = some (.int .i64 1073741825) := HXp.out.cell (3 + 2)
            obtain ⟨V4, hV4⟩ : ∃ W, W = wr.alloc (.cells #[.pointer (some ⟨lb, 2, none⟩), .int .i64 0, .int .i64 1073741825] 129) := ⟨_, rfl⟩
            have hb4 : Below wr.heap.size wr V4 := by rw [hV4]; exact (Below.refl _ _).alloc (Nat.le_refl _) _
            obtain ⟨fb, hfb⟩ : ∃ fb, fb = wr.heap.size := ⟨_, rfl⟩
            have hX4 : Box V4 fb #[.pointer (some ⟨lb, 2, none⟩), .int .i64 0, .int .i64 1073741825] 129 := by rw [hV4, hfb]; exact Box.new _ _ _
            have HV4 := hid hV4
            have HFb := hid hfb
            have HI4 := hid (HIy.out.below hb4)
            have HXl4 := hid (HXl.out.below hb4)
            have HXp4 := hid (HXp.out.below hb4)
            have HXr4 := hid (HXr.out.below hb4)
            have HBw4 : Hid (Below w.heap.size w V4) := HBw.out.trans (hb4.mono HBw.out.size)
            have HLd := hid (numLead_any V4 _ p3 L c3 1073741825 (by decide) HI4.out)
            have z0 := hX4.cell 0
            have z1 := hX4.cell 1
            have z2 := hX4.cell 2
            have zl := hX4.lt
            simp at z0 z1 z2
            rw [← HNn.out] at HLd
            clear hV4 hfb hX4 hb4
            go_upto_region 11 with fail
            rw [← HV4.out, ← HFb.out]
            go_wp2_with fail
            refine HLd.out.mono ?_
            rintro e w5 ⟨⟨a, sz, k, rfl, hlead⟩, hw5⟩
            subst hw5
            rcases hlead with ⟨rfl, hsz, hnS, hale⟩ | ⟨hk0, rfl, rfl, hnS⟩
            case inr =>
              have hk0' : ((k : Int) != 0) = true := by rw [bne_iff_ne]; omega
              have HN2 := hid (HN.out (by rw [HRs.out]; simp [ps1, restS, hnS]))
              clear HN
              have HN := HN2
              clear hk0 hnS HLd
              have r0 := HXr4.out.cell 0
              have r1 := HXr4.out.cell 1
              have r2 := HXr4.out.cell 2
              have r3 := HXr4.out.cell 3
              have r4 := HXr4.out.cell 4
              have rl := HXr4.out.lt
              have rf := HXr4.out.frozen
              simp at r0 r1 r2 r3 r4
              go_wp2
              obtain ⟨V5, hV5⟩ : ∃ V, V = ((((w5.setCell ⟨rb, 0, none⟩ (.int .u8 0)).setCell ⟨rb, 1, none⟩ (.int .i64 0)).setCell ⟨rb, 2, none⟩ (.int .i64 0)).setCell ⟨rb, 3, none⟩ (.int .i64 0)).setCell ⟨rb, 4, none⟩ (.slice none 0 0) := ⟨_, rfl⟩
              have hX5 : Box V5 rb #[.int .u8 0, .int .i64 0, .int .i64 0, .int .i64 0, .slice none 0 0] 100 := by rw [hV5]; exact HXr4.out.set5 _ _ _ _ _
              have hb5 : Below w.heap.size w5 V5 := by rw [hV5]; exact But.below (but5 w5 rb _ _ _ _ _) HBw4.out.size fun q hq e => by have e' : q = rb := e; have := HRb.out; omega
              have HQ := hid (HN.out V5 (HBw4.out.trans hb5))
              have q0 := hX5.cell 0
              have q1 := hX5.cell 1
              have q2 := hX5.cell 2
              have q3 := hX5.cell 3
              have q4 := hX5.cell 4
              simp at q0 q1 q2 q3 q4
              rw [← hV5]
              clear hV5 hX5 hb5
              refine bodyPost_ret (v := .tuple #[letZ, .bool false]) (by simp [results, Tryd.results62, go_sem, q0, q1, q2, q3, q4, letZ]) rfl HQ.out
            case inl =>
              by_cases hlo : a < 0
              · exact absurd hlo (by omega)
              · have hlo' : (0 : Int) ≤ (a : Int) := by omega
                have HRs2 : Hid (restS ps1 0 [] R0 = restS (ps1.drop 2) 0 (acc ++ [a]) (L.drop sz)) := by
                  show _ = _
                  rw [HRs.out]
                  simp [ps1, restS, hnS]
                  try omega
                have hL0 : 0 < n := by
                  rw [HNn.out]
                  cases L with
                  | nil => simp [numS, numG, bindS, takeS] at hnS
                  | cons _ _ => simp
                obtain ⟨b3, o3, hp3, hS3, hbl3, _⟩ := HI4.out.at_ (by show 0 < L.length; rw [← HNn.out]; exact hL0)
                have hp3' : p3 = some ⟨b3, o3, none⟩ := hp3
                subst hp3'
                have hszn : sz ≤ n := by rw [HNn.out]; exact hsz
                have cw2 : w5.cell? ⟨lb, 2, none⟩ = some (.int .i64 ((acc.getD 1 0 : Nat) : Int)) := HXl4.out.cell 2
                have cf := HXl4.out.frozen
                have cl := HXl4.out.lt
                have hsz' : (sz : Int) ≤ (n : Int) := by omega
                clear hnS HLd hlo hp3 hsz
                go_upto_region 14 with fail
                refine wp_region_calmE 30 (fun wx => Below w5.heap.size w5 wx) [(0, true), (1, false), (2, true), (3, true), (4, true), (5, true), (6, true)] (.one 7 false [(8, true)] .done) (by kernel_rfl) (by kernel_rfl) (Below.refl _ _).drew ?_
                refine wpPre_e rfl rfl (fun K1 hK1 => ?_)
                apply Exists.intro
                refine And.intro (fun wx hx => ?_) ?_
                · go_simp
                  try rfl
                go_simp
                refine hK1 _ ?_
                clear hK1 K1
                refine wpPre_e rfl rfl (fun K1 hK1 => ?_)
                apply Exists.intro
                refine And.intro (fun wx hx => ?_) ?_
                · have e0 := below_fact hx rfl z0
                  go_simp
                  try rfl
                go_simp
                refine hK1 _ ?_
                clear hK1 K1
                refine wpPre_e rfl rfl (fun K1 hK1 => ?_)
                apply Exists.intro
                refine And.intro (fun wx hx => ?_) ?_
                · go_simp
                  try rfl
                go_simp
                refine hK1 _ ?_
                clear hK1 K1
                refine wpPre_e rfl rfl (fun K1 hK1 => ?_)
                apply Exists.intro
                refine And.intro (fun wx hx => ?_) ?_
                · go_simp
                  try rfl
                go_simp
                refine hK1 _ ?_
                clear hK1 K1
                refine wpPre_e rfl rfl (fun K1 hK1 => ?_)
                apply Exists.intro
                refine And.intro (fun wx hx => ?_) ?_
                · go_simp
                  try rfl
                go_simp
                refine hK1 _ ?_
                clear hK1 K1
                refine wpPre_e rfl rfl (fun K1 hK1 => ?_)
                apply Exists.intro
                refine And.intro (fun wx hx => ?_) ?_
                · go_simp
                  try rfl
                go_simp
                refine hK1 _ ?_
                clear hK1 K1
                refine wpPre_e rfl rfl (fun K1 hK1 => ?_)
                apply Exists.intro
                refine And.intro (fun wx hx => ?_) ?_
                · go_simp
                  try rfl
                go_simp
                refine hK1 _ ?_
                clear hK1 K1
                refine wpPre_nil ?_
                refine wpTr_e rfl (fun K1 hK1 => ?_)
                go_simp
                refine hK1 _ _ (fun h => by cases h) ?_
                clear hK1 K1
                refine wpPre_e rfl rfl (fun K1 hK1 => ?_)
                apply Exists.intro
                refine And.intro (fun wx hx => ?_) ?_
                · go_simp
                  try rfl
                go_simp
                refine hK1 _ ?_
                clear hK1 K1
                refine wpPre_nil ?_
                refine wpTr_done ?_
                obtain ⟨W6, hW6⟩ : ∃ V, V = (w5.setCell ⟨lb, 2, none⟩ (.int .i64 (a : Int))).drew := ⟨_, rfl⟩
                have hbt : But (fun k => k = lb) w5 W6 := by rw [hW6]; exact ((But.one _ _).setAt _ _).trans (But.ofBelow (Below.refl _ _).drew)
                have hX6 : Box W6 lb (letC 65 (acc ++ [a]) (.slice none 0 0)) 100 := by
                  have h := HXl4.out.set 2 (.int .i64 (a : Int))
                  have h2 := letC_set 65 acc (.slice none 0 0) a (by rw [HAc.out]; decide)
                  rw [HAc.out] at h2
                  rw [h2] at h
                  rw [hW6]
                  exact h
                have hlg : lb ≠ g := fun e => by
                  have h1 := HXl4.out
                  have h2 := HXp4.out
                  rw [e] at h1
                  unfold Box at h1 h2
                  rw [h1] at h2
                  simp at h2
                have hlr : lb ≠ rb := fun e => by
                  have h1 := HLb.out
                  have h2 := HX1.out.lt
                  omega
                have hIn : BS.In W6 (fun k => V.heap.size ≤ k ∧ k < w1.heap.size) ⟨if c3 = sz then some ⟨b3, o3, none⟩ else some ⟨b3, o3 + sz, none⟩, c3 - sz, L.drop sz⟩ := by
                  have h0 : BS.In W6 (fun k => V.heap.size ≤ k ∧ k < w1.heap.size) ⟨some ⟨b3, o3, none⟩, c3, L⟩ := HI4.out.kept hbt.size fun b hS hl => hbt.block b hl fun e => by
                    have e' : b = lb := e
                    have h1 := HLb.out
                    have h2 := hS.2
                    omega
                  by_cases hcs : c3 = sz
                  · rw [if_pos hcs]
                    exact h0.cut (by rw [← HNn.out]; exact hszn) (.inr ⟨rfl, by omega⟩)
                  · rw [if_neg hcs]
                    exact h0.cut (by rw [← HNn.out]; exact hszn) (.inl rfl)
                have HF := hid (And.intro hIn (And.intro hX6 (And.intro (HXp4.out.kept (hbt.block g HXp4.out.lt fun e => hlg e.symm)) (And.intro (HXr4.out.kept (hbt.block rb HXr4.out.lt fun e => hlr e.symm)) (HBw4.out.trans (But.below (B := w.heap.size) hbt HBw4.out.size fun q hq e => by have e' : q = lb := e; have h1 := HLb.out; have h2 := HB1.out.size; omega))))))
                have HW6 := hid hW6
                clear hW6 hbt hX6 hlg hlr hIn cw2 cf cl z0 z1 z2 zl
                go_wp2_with fail
                rw [← HW6.out]
                exact ⟨⟨2, acc ++ [a], ⟨if c3 = sz then some ⟨b3, o3, none⟩ else some ⟨b3, o3 + sz, none⟩, c3 - sz, L.drop sz⟩, by decide, rfl, by rw [List.length_drop, ← HNn.out], by simp [HAc.out], HF.out.1, HRs2.out, HF.out.2.1, HF.out.2.2.1, HF.out.2.2.2.1, HF.out.2.2.2.2⟩, by decide⟩
          by_cases hi2 : i = 2
          · as_aux_lemma =>
            subst hi2
            have y0 : wr.cell? ⟨g, 6, none⟩ = some (.pointer (some ⟨lb, 3, none⟩)) := HXp.out.cell 6
            have y1 : wr.cell? ⟨g, 6 + 1, none⟩ = some (.int .i64 0) := HXp.out.cell (6 + 1)
            have y2 : wr.cell? ⟨g, 6 + 2, none⟩ = some (.int .i64 1073741824) := HXp.out.cell (6 + 2)
            obtain ⟨V4, hV4⟩ : ∃ W, W = wr.alloc (.cells #[.pointer (some ⟨lb, 3, none⟩), .int .i64 0, .int .i64 1073741824] 129) := ⟨_, rfl⟩
            have hb4 : Below wr.heap.size wr V4 := by rw [hV4]; exact (Below.refl _ _).alloc (Nat.le_refl _) _
            obtain ⟨fb, hfb⟩ : ∃ fb, fb = wr.heap.size := ⟨_, rfl⟩
            have hX4 : Box V4 fb #[.pointer (some ⟨lb, 3, none⟩), .int .i64 0, .int .i64 1073741824] 129 := by rw [hV4, hfb]; exact Box.new _ _ _
            have HV4 := hid hV4
            have HFb := hid hfb
            have HI4 := hid (HIy.out.below hb4)
            have HXl4 := hid (HXl.out.below hb4)
            have HXp4 := hid (HXp.out.below hb4)
            have HXr4 := hid (HXr.out.below hb4)
            have HBw4 : Hid (Below w.heap.size w V4) := HBw.out.trans (hb4.mono HBw.out.size)
            have HLd := hid (numLead_any V4 _ p3 L c3 1073741824 (by decide) HI4.out)
            have z0 := hX4.cell 0
            have z1 := hX4.cell 1
            have z2 := hX4.cell 2
            have zl := hX4.lt
            simp at z0 z1 z2
            rw [← HNn.out] at HLd
            clear hV4 hfb hX4 hb4
            go_upto_region 11 with fail
            rw [← HV4.out, ← HFb.out]
            go_wp2_with fail
            refine HLd.out.mono ?_
            rintro e w5 ⟨⟨a, sz, k, rfl, hlead⟩, hw5⟩
            subst hw5
            rcases hlead with ⟨rfl, hsz, hnS, hale⟩ | ⟨hk0, rfl, rfl, hnS⟩
            case inr =>
              have hk0' : ((k : Int) != 0) = true := by rw [bne_iff_ne]; omega
              have HN2 := hid (HN.out (by rw [HRs.out]; simp [ps1, restS, hnS]))
              clear HN
              have HN := HN2
              clear hk0 hnS HLd
              have r0 := HXr4.out.cell 0
              have r1 := HXr4.out.cell 1
              have r2 := HXr4.out.cell 2
              have r3 := HXr4.out.cell 3
              have r4 := HXr4.out.cell 4
              have rl := HXr4.out.lt
              have rf := HXr4.out.frozen
              simp at r0 r1 r2 r3 r4
              go_wp2
              obtain ⟨V5, hV5⟩ : ∃ V, V = ((((w5.setCell ⟨rb, 0, none⟩ (.int .u8 0)).setCell ⟨rb, 1, none⟩ (.int .i64 0)).setCell ⟨rb, 2, none⟩ (.int .i64 0)).setCell ⟨rb, 3, none⟩ (.int .i64 0)).setCell ⟨rb, 4, none⟩ (.slice none 0 0) := ⟨_, rfl⟩
              have hX5 : Box V5 rb #[.int .u8 0, .int .i64 0, .int .i64 0, .int .i64 0, .slice none 0 0] 100 := by rw [hV5]; exact HXr4.out.set5 _ _ _ _ _
              have hb5 : Below w.heap.size w5 V5 := by rw [hV5]; exact But.below (but5 w5 rb _ _ _ _ _) HBw4.out.size fun q hq e => by have e' : q = rb := e; have := HRb.out; omega
              have HQ := hid (HN.out V5 (HBw4.out.trans hb5))
              have q0 := hX5.cell 0
              have q1 := hX5.cell 1
              have q2 := hX5.cell 2
              have q3 := hX5.cell 3
              have q4 := hX5.cell 4
              simp at q0 q1 q2 q3 q4
              rw [← hV5]
              clear hV5 hX5 hb5
              refine bodyPost_ret (v := .tuple #[letZ, .bool false]) (by simp [results, Tryd.results62, go_sem, q0, q1, q2, q3, q4, letZ]) rfl HQ.out
            case inl =>
              by_cases hlo : a < 0
              · exact absurd hlo (by omega)
              · have hlo' : (0 : Int) ≤ (a : Int) := by omega
                have HRs2 : Hid (restS ps1 0 [] R0 = restS (ps1.drop 3) 0 (acc ++ [a]) (L.drop sz)) := by
                  show _ = _
                  rw [HRs.out]
                  simp [ps1, restS, hnS]
                  try omega
                have hL0 : 0 < n := by
                  rw [HNn.out]
                  cases L with
                  | nil => simp [numS, numG, bindS, takeS] at hnS
                  | cons _ _ => simp
                obtain ⟨b3, o3, hp3, hS3, hbl3, _⟩ := HI4.out.at_ (by show 0 < L.length; rw [← HNn.out]; exact hL0)
                have hp3' : p3 = some ⟨b3, o3, none⟩ := hp3
                subst hp3'
                have hszn : sz ≤ n := by rw [HNn.out]; exact hsz
                have cw3 : w5.cell? ⟨lb, 3, none⟩ = some (.int .i64 ((acc.getD 2 0 : Nat) : Int)) := HXl4.out.cell 3
                have cf := HXl4.out.frozen
                have cl := HXl4.out.lt
                have hsz' : (sz : Int) ≤ (n : Int) := by omega
                clear hnS HLd hlo hp3 hsz
                go_upto_region 14 with fail
                refine wp_region_calmE 30 (fun wx => Below w5.heap.size w5 wx) [(0, true), (1, false), (2, true), (3, true), (4, true), (5, true), (6, true)] (.one 7 false [(8, true)] .done) (by kernel_rfl) (by kernel_rfl) (Below.refl _ _).drew ?_
                refine wpPre_e rfl rfl (fun K1 hK1 => ?_)
                apply Exists.intro
                refine And.intro (fun wx hx => ?_) ?_
                · go_simp
                  try rfl
                go_simp
                refine hK1 _ ?_
                clear hK1 K1
                refine wpPre_e rfl rfl (fun K1 hK1 => ?_)
                apply Exists.intro
                refine And.intro (fun wx hx => ?_) ?_
                · have e0 := below_fact hx rfl z0
                  go_simp
                  try rfl
                go_simp
                refine hK1 _ ?_
                clear hK1 K1
                refine wpPre_e rfl rfl (fun K1 hK1 => ?_)
                apply Exists.intro
                refine And.intro (fun wx hx => ?_) ?_
                · go_simp
                  try rfl
                go_simp
                refine hK1 _ ?_
                clear hK1 K1
                refine wpPre_e rfl rfl (fun K1 hK1 => ?_)
                apply Exists.intro
                refine And.intro (fun wx hx => ?_) ?_
                · go_simp
                  try rfl
                go_simp
                refine hK1 _ ?_
                clear hK1 K1
                refine wpPre_e rfl rfl (fun K1 hK1 => ?_)
                apply Exists.intro
                refine And.intro (fun wx hx => ?_) ?_
                · go_simp
                  try rfl
                go_simp
                refine hK1 _ ?_
                clear hK1 K1
                refine wpPre_e rfl rfl (fun K1 hK1 => ?_)
                apply Exists.intro
                refine And.intro (fun wx hx => ?_) ?_
                · go_simp
                  try rfl
                go_simp
                refine hK1 _ ?_
                clear hK1 K1
                refine wpPre_e rfl rfl (fun K1 hK1 => ?_)
                apply Exists.intro
                refine And.intro (fun wx hx => ?_) ?_
                · go_simp
                  try rfl
                go_simp
                refine hK1 _ ?_
                clear hK1 K1
                refine wpPre_nil ?_
                refine wpTr_e rfl (fun K1 hK1 => ?_)
                go_simp
                refine hK1 _ _ (fun h => by cases h) ?_
                clear hK1 K1
                refine wpPre_e rfl rfl (fun K1 hK1 => ?_)
                apply Exists.intro
                refine And.intro (fun wx hx => ?_) ?_
                · go_simp
                  try rfl
                go_simp
                refine hK1 _ ?_
                clear hK1 K1
                refine wpPre_nil ?_
                refine wpTr_done ?_
                obtain ⟨W6, hW6⟩ : ∃ V, V = (w5.setCell ⟨lb, 3, none⟩ (.int .i64 (a : Int))).drew := ⟨_, rfl⟩
                have hbt : But (fun k => k = lb) w5 W6 := by rw [hW6]; exact ((But.one _ _).setAt _ _).trans (But.ofBelow (Below.refl _ _).drew)
                have hX6 : Box W6 lb (letC 65 (acc ++ [a]) (.slice none 0 0)) 100 := by
                  have h := HXl4.out.set 3 (.int .i64 (a : Int))
                  have h2 := letC_set 65 acc (.slice none 0 0) a (by rw [HAc.out]; decide)
                  rw [HAc.out] at h2
                  rw [h2] at h
                  rw [hW6]
                  exact h
                have hlg : lb ≠ g := fun e => by
                  have h1 := HXl4.out
                  have h2 := HXp4.out
                  rw [e] at h1
                  unfold Box at h1 h2
                  rw [h1] at h2
                  simp at h2
                have hlr : lb ≠ rb := fun e => by
                  have h1 := HLb.out
                  have h2 := HX1.out.lt
                  omega
                have hIn : BS.In W6 (fun k => V.heap.size ≤ k ∧ k < w1.heap.size) ⟨if c3 = sz then some ⟨b3, o3, none⟩ else some ⟨b3, o3 + sz, none⟩, c3 - sz, L.drop sz⟩ := by
                  have h0 : BS.In W6 (fun k => V.heap.size ≤ k ∧ k < w1.heap.size) ⟨some ⟨b3, o3, none⟩, c3, L⟩ := HI4.out.kept hbt.size fun b hS hl => hbt.block b hl fun e => by
                    have e' : b = lb := e
                    have h1 := HLb.out
                    have h2 := hS.2
                    omega
                  by_cases hcs : c3 = sz
                  · rw [if_pos hcs]
                    exact h0.cut (by rw [← HNn.out]; exact hszn) (.inr ⟨rfl, by omega⟩)
                  · rw [if_neg hcs]
                    exact h0.cut (by rw [← HNn.out]; exact hszn) (.inl rfl)
                have HF := hid (And.intro hIn (And.intro hX6 (And.intro (HXp4.out.kept (hbt.block g HXp4.out.lt fun e => hlg e.symm)) (And.intro (HXr4.out.kept (hbt.block rb HXr4.out.lt fun e => hlr e.symm)) (HBw4.out.trans (But.below (B := w.heap.size) hbt HBw4.out.size fun q hq e => by have e' : q = lb := e; have h1 := HLb.out; have h2 := HB1.out.size; omega))))))
                have HW6 := hid hW6
                clear hW6 hbt hX6 hlg hlr hIn cw3 cf cl z0 z1 z2 zl
                go_wp2_with fail
                rw [← HW6.out]
                exact ⟨⟨3, acc ++ [a], ⟨if c3 = sz then some ⟨b3, o3, none⟩ else some ⟨b3, o3 + sz, none⟩, c3 - sz, L.drop sz⟩, by decide, rfl, by rw [List.length_drop, ← HNn.out], by simp [HAc.out], HF.out.1, HRs2.out, HF.out.2.1, HF.out.2.2.1, HF.out.2.2.2.1, HF.out.2.2.2.2⟩, by decide⟩
          · as_aux_lemma =>
            obtain rfl : i = 3 := by omega
            have y0 : wr.cell? ⟨g, 9, none⟩ = some (.pointer none) := HXp.out.cell 9
            have y1 : wr.cell? ⟨g, 9 + 1, none⟩ = some (.int .i64 0) := HXp.out.cell (9 + 1)
            have y2 : wr.cell? ⟨g, 9 + 2, none⟩ = some (.int .i64 0) := HXp.out.cell (9 + 2)
            obtain ⟨V4, hV4⟩ : ∃ W, W = wr.alloc (.cells #[.pointer none, .int .i64 0, .int .i64 0] 129) := ⟨_, rfl⟩
            have hb4 : Below wr.heap.size wr V4 := by rw [hV4]; exact (Below.refl _ _).alloc (Nat.le_refl _) _
            obtain ⟨fb, hfb⟩ : ∃ fb, fb = wr.heap.size := ⟨_, rfl⟩
            have hX4 : Box V4 fb #[.pointer none, .int .i64 0, .int .i64 0] 129 := by rw [hV4, hfb]; exact Box.new _ _ _
            have HV4 := hid hV4
            have HFb := hid hfb
            have HI4 := hid (HIy.out.below hb4)
            have HXl4 := hid (HXl.out.below hb4)
            have HXr4 := hid (HXr.out.below hb4)
            have HBw4 : Hid (Below w.heap.size w V4) := HBw.out.trans (hb4.mono HBw.out.size)
            have z0 := hX4.cell 0
            have z1 := hX4.cell 1
            have z2 := hX4.cell 2
            have zl := hX4.lt
            simp at z0 z1 z2
            clear hV4 hfb hX4 hb4
            go_upto_region 11 with fail
            rw [← HV4.out, ← HFb.out]
            by_cases hmm : 0 < n
            · have hmm' : (0 : Int) < (n : Int) := by omega
              have HN2 := hid (HN.out (by rw [HRs.out]; simp [ps1, restS, ← HNn.out]; omega))
              clear HN
              have HN := HN2
              clear hmm
              have r0 := HXr4.out.cell 0
              have r1 := HXr4.out.cell 1
              have r2 := HXr4.out.cell 2
              have r3 := HXr4.out.cell 3
              have r4 := HXr4.out.cell 4
              have rl := HXr4.out.lt
              have rf := HXr4.out.frozen
              simp at r0 r1 r2 r3 r4
              go_wp2
              obtain ⟨V5, hV5⟩ : ∃ V, V = ((((V4.setCell ⟨rb, 0, none⟩ (.int .u8 0)).setCell ⟨rb, 1, none⟩ (.int .i64 0)).setCell ⟨rb, 2, none⟩ (.int .i64 0)).setCell ⟨rb, 3, none⟩ (.int .i64 0)).setCell ⟨rb, 4, none⟩ (.slice none 0 0) := ⟨_, rfl⟩
              have hX5 : Box V5 rb #[.int .u8 0, .int .i64 0, .int .i64 0, .int .i64 0, .slice none 0 0] 100 := by rw [hV5]; exact HXr4.out.set5 _ _ _ _ _
              have hb5 : Below w.heap.size V4 V5 := by rw [hV5]; exact But.below (but5 V4 rb _ _ _ _ _) HBw4.out.size fun q hq e => by have e' : q = rb := e; have := HRb.out; omega
              have HQ := hid (HN.out V5 (HBw4.out.trans hb5))
              have q0 := hX5.cell 0
              have q1 := hX5.cell 1
              have q2 := hX5.cell 2
              have q3 := hX5.cell 3
              have q4 := hX5.cell 4
              simp at q0 q1 q2 q3 q4
              rw [← hV5]
              clear hV5 hX5 hb5
              refine bodyPost_ret (v := .tuple #[letZ, .bool false]) (by simp [results, Tryd.results62, go_sem, q0, q1, q2, q3, q4, letZ]) rfl HQ.out
            · have hmm' : ¬ (0 : Int) < (n : Int) := by omega
              have HYs := hid (HY.out acc L (by rw [HRs.out]; simp [ps1, restS, ← HNn.out]; omega))
              have c0 : V4.cell? ⟨lb, 0, none⟩ = some (.int .u8 65) := HXl4.out.cell 0
              have c1 : V4.cell? ⟨lb, 1, none⟩ = some (.int .i64 ((acc.getD 0 0 : Nat) : Int)) := HXl4.out.cell 1
              have c2 : V4.cell? ⟨lb, 2, none⟩ = some (.int .i64 ((acc.getD 1 0 : Nat) : Int)) := HXl4.out.cell 2
              have c3_ : V4.cell? ⟨lb, 3, none⟩ = some (.int .i64 ((acc.getD 2 0 : Nat) : Int)) := HXl4.out.cell 3
              have c4 : V4.cell? ⟨lb, 4, none⟩ = some (.slice none 0 0) := HXl4.out.cell 4
              have cf := HXl4.out.frozen
              have cl := HXl4.out.lt
              have hlr : lb ≠ rb := fun e => by
                have h1 := HLb.out
                have h2 := HX1.out.lt
                omega
              obtain ⟨W6, hW6⟩ : ∃ V, V = V4.setCell ⟨lb, 4, none⟩ (.slice p3 n c3) := ⟨_, rfl⟩
              have hbt : But (fun k => k = lb) V4 W6 := by rw [hW6]; exact (But.one _ _).setAt _ _
              have hX6 : Box W6 lb (letC 65 acc (.slice p3 n c3)) 100 := by
                have h := HXl4.out.set 4 (.slice p3 n c3)
                rw [hW6]
                exact h
              have HXr6 := hid (HXr4.out.kept (hbt.block rb HXr4.out.lt fun e => hlr e.symm))
              have HI6 : Hid (BS.In W6 (fun k => V.heap.size ≤ k ∧ k < w1.heap.size) ⟨p3, c3, L⟩) := HI4.out.kept hbt.size fun b hS hl => hbt.block b hl fun e => by
                have e' : b = lb := e
                have h1 := HLb.out
                have h2 := hS.2
                omega
              have HB6 : Hid (Below w.heap.size w W6) := HBw4.out.trans (But.below (B := w.heap.size) hbt HBw4.out.size fun q hq e => by have e' : q = lb := e; have h1 := HLb.out; have h2 := HB1.out.size; omega)
              have HX6 := hid hX6
              have HW6 := hid hW6
              have HLr := hid hlr
              clear hW6 hbt hX6 hmm hlr
              go_upto_region 10 with fail
              rw [← HW6.out]
              clear c0 c1 c2 c3_ c4 cf cl z0 z1 z2 zl
              have d0 : W6.cell? ⟨lb, 0, none⟩ = some (.int .u8 65) := HX6.out.cell 0
              have d1 : W6.cell? ⟨lb, 1, none⟩ = some (.int .i64 ((acc.getD 0 0 : Nat) : Int)) := HX6.out.cell 1
              have d2 : W6.cell? ⟨lb, 2, none⟩ = some (.int .i64 ((acc.getD 1 0 : Nat) : Int)) := HX6.out.cell 2
              have d3 : W6.cell? ⟨lb, 3, none⟩ = some (.int .i64 ((acc.getD 2 0 : Nat) : Int)) := HX6.out.cell 3
              have d4 : W6.cell? ⟨lb, 4, none⟩ = some (.slice p3 n c3) := HX6.out.cell 4
              have dl := HX6.out.lt
              obtain ⟨a0, ha0⟩ : ∃ a0, a0 = acc.getD 0 0 := ⟨_, rfl⟩
              obtain ⟨a1, ha1⟩ : ∃ a1, a1 = acc.getD 1 0 := ⟨_, rfl⟩
              obtain ⟨a2, ha2⟩ : ∃ a2, a2 = acc.getD 2 0 := ⟨_, rfl⟩
              rw [← ha0, ← ha1, ← ha2] at HYs
              rw [← ha0] at d1
              rw [← ha1] at d2
              rw [← ha2] at d3
              clear ha0 ha1 ha2
              have r0 := HXr6.out.cell 0
              have r1 := HXr6.out.cell 1
              have r2 := HXr6.out.cell 2
              have r3 := HXr6.out.cell 3
              have r4 := HXr6.out.cell 4
              have rl := HXr6.out.lt
              have rf := HXr6.out.frozen
              simp at r0 r1 r2 r3 r4
              go_wp2
              obtain ⟨V5, hV5⟩ : ∃ V, V = ((((W6.setCell ⟨rb, 0, none⟩ (.int .u8 65)).setCell ⟨rb, 1, none⟩ (.int .i64 (a0 : Int))).setCell ⟨rb, 2, none⟩ (.int .i64 (a1 : Int))).setCell ⟨rb, 3, none⟩ (.int .i64 (a2 : Int))).setCell ⟨rb, 4, none⟩ (.slice p3 n c3) := ⟨_, rfl⟩
              have hX5 : Box V5 rb #[.int .u8 65, .int .i64 (a0 : Int), .int .i64 (a1 : Int), .int .i64 (a2 : Int), .slice p3 n c3] 100 := by rw [hV5]; exact HXr6.out.set5 _ _ _ _ _
              have hbt5 : But (fun k => k = rb) W6 V5 := by rw [hV5]; exact but5 W6 rb _ _ _ _ _
              have hb5 : Below w.heap.size W6 V5 := But.below hbt5 HB6.out.size fun q hq e => by have e' : q = rb := e; have := HRb.out; omega
              have HQ : Hid (ReadQ xz w (.returned (.tuple #[.agg #[.int .u8 65, .int .i64 (a0 : Int), .int .i64 (a1 : Int), .int .i64 (a2 : Int), .slice p3 n c3], .bool true])) V5) := by
                refine ⟨fun h => (by rw [HYs.out] at h; cases h), fun l hl => ?_, HB6.out.trans hb5⟩
                rw [HYs.out] at hl
                cases hl
                refine ⟨⟨p3, c3, L⟩, rfl, ?_, by rw [HNn.out]; rfl⟩
                have h1 : BS.In V5 (fun k => V.heap.size ≤ k ∧ k < w1.heap.size) ⟨p3, c3, L⟩ := HI6.out.kept hbt5.size fun b hS hl => hbt5.block b hl fun e => by
                  have e' : b = rb := e
                  have h1 := hS.1
                  have h2 := HX.out.lt
                  omega
                exact h1.mono fun k hk _ => Nat.le_trans HB.out.size hk.1
              have q0 := hX5.cell 0
              have q1 := hX5.cell 1
              have q2 := hX5.cell 2
              have q3 := hX5.cell 3
              have q4 := hX5.cell 4
              simp at q0 q1 q2 q3 q4
              rw [← hV5]
              clear hV5 hX5 hb5 hbt5
              refine bodyPost_ret (v := .tuple #[.agg #[.int .u8 65, .int .i64 (a0 : Int), .int .i64 (a1 : Int), .int .i64 (a2 : Int), .slice p3 n c3], .bool true]) (by simp [results, Tryd.results62, go_sem, q0, q1, q2, q3, q4]) rfl HQ.out
      as_aux_lemma =>
      have HN : Hid (∀ w2, Below w.heap.size w w2 → ReadQ xz w (.returned (.tuple #[letZ, .bool false])) w2) := fun w2 h2 => ⟨fun _ => rfl, fun l hl => (by rw [HRd.out] at hl; simp [readS, hk68, hk65] at hl), h2⟩
      have HP := hid (pieces_none V2 lb kd hkc hk68 hk65)
      clear hkc hk68 hk65
      go_wp2_with fail
      refine HP.out.mono ?_
      rintro e w3 ⟨rfl, hb3⟩
      have HB3 : Hid (Below w.heap.size w w3) := HB2.out.trans (hb3.mono HB2.out.size)
      have HR3 := hid (HR2.out.below hb3)
      clear hb3 HP
      go_wp2_with fail
      go_loopw [33] (fun x wr => x = .int .i64 0 ∧ wr = w3) (fun _ _ => 0)
      case atStart => exact ⟨rfl, rfl⟩
      case round =>
        obtain ⟨rfl, hwr⟩ := hrel
        subst hwr
        have r0 := HR3.out.cell 0
        have r1 := HR3.out.cell 1
        have r2 := HR3.out.cell 2
        have r3 := HR3.out.cell 3
        have r4 := HR3.out.cell 4
        have rl := HR3.out.lt
        have rf := HR3.out.frozen
        simp at r0 r1 r2 r3 r4
        go_wp2
        obtain ⟨V5, hV5⟩ : ∃ V, V = ((((wr.setCell ⟨rb, 0, none⟩ (.int .u8 0)).setCell ⟨rb, 1, none⟩ (.int .i64 0)).setCell ⟨rb, 2, none⟩ (.int .i64 0)).setCell ⟨rb, 3, none⟩ (.int .i64 0)).setCell ⟨rb, 4, none⟩ (.slice none 0 0) := ⟨_, rfl⟩
        have hX5 : Box V5 rb #[.int .u8 0, .int .i64 0, .int .i64 0, .int .i64 0, .slice none 0 0] 100 := by rw [hV5]; exact HR3.out.set5 _ _ _ _ _
        have hb5 : Below w.heap.size wr V5 := by rw [hV5]; exact But.below (but5 wr rb _ _ _ _ _) HB3.out.size fun q hq e => by have e' : q = rb := e; have := HRb.out; omega
        have HQ := hid (HN.out V5 (HB3.out.trans hb5))
        have q0 := hX5.cell 0
        have q1 := hX5.cell 1
        have q2 := hX5.cell 2
        have q3 := hX5.cell 3
        have q4 := hX5.cell 4
        simp at q0 q1 q2 q3 q4
        rw [← hV5]
        clear hV5 hX5 hb5
        refine bodyPost_ret (v := .tuple #[letZ, .bool false]) (by simp [results, Tryd.results62, go_sem, q0, q1, q2, q3, q4, letZ]) rfl HQ.out

end Go.Proofs.YtgnamngnmbaeeaaDoor
