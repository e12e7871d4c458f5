import Derived.Test.YtckopbkhpbhljaaPack41
import Derived.Test.YtckopbkhpbhljaaPack38
import Derived.Test.YtckopbkhpbhljaaDlN
namespace Go.Proofs.Ytckopbkhpbhljaa
open Go.RowKit
set_option maxRecDepth 8000

theorem firstN_cons (g : Nat → Int) : ∀ k, firstN g (k + 1) = if g 0 ≠ 0 then g 0 else firstN (fun j => g (j + 1)) k := by
  intro k
  induction k with
  | zero => by_cases h : g 0 = 0 <;> simp [firstN, h]
  | succ k ih =>
    have e : firstN g (k + 1 + 1) = if firstN g (k + 1) ≠ 0 then firstN g (k + 1) else g (k + 1) := rfl
    have e2 : firstN (fun j => g (j + 1)) (k + 1) = if firstN (fun j => g (j + 1)) k ≠ 0 then firstN (fun j => g (j + 1)) k else g (k + 1) := rfl
    rw [e, ih, e2]
    by_cases h : g 0 = 0
    · simp [h]
    · simp [h]
theorem range_map {β : Type} (f : Nat → β) (n : Nat) : (List.range (n + 1)).map f = f 0 :: (List.range n).map (fun j => f (j + 1)) := by
  rw [List.range_succ_eq_map, List.map_cons, List.map_map]; rfl
theorem lex_eq {c : VT → VT → Int} : ∀ (n m : Nat) (f g : Nat → VT), (if firstN (fun j => c (f j) (g j)) (min n m) ≠ 0 then firstN (fun j => c (f j) (g j)) (min n m) else cmpI (n : Int) (m : Int)) = lexL c ((List.range n).map f) ((List.range m).map g) := by
  intro n
  induction n with
  | zero =>
    intro m f g
    rw [Nat.zero_min]
    cases m with
    | zero => simp [firstN, lexL, cmpI]
    | succ m =>
      have e : cmpI ((0 : Nat) : Int) ((m + 1 : Nat) : Int) = -1 := by unfold cmpI; rw [if_pos (by omega)]
      have e2 : firstN (fun j => c (f j) (g j)) 0 = 0 := rfl
      rw [range_map g m, e, e2]
      rfl
  | succ n ih =>
    intro m f g
    cases m with
    | zero =>
      have e : cmpI ((n + 1 : Nat) : Int) ((0 : Nat) : Int) = 1 := by unfold cmpI; rw [if_neg (by omega), if_pos (by omega)]
      have e2 : firstN (fun j => c (f j) (g j)) 0 = 0 := rfl
      rw [Nat.min_zero, range_map f n, e, e2]
      rfl
    | succ m =>
      rw [range_map f n, range_map g m, Nat.succ_min_succ, firstN_cons]
      simp only [lexL]
      have h := ih m (fun j => f (j + 1)) (fun j => g (j + 1))
      by_cases hz : c (f 0) (g 0) = 0
      · have e : cmpI ((n + 1 : Nat) : Int) ((m + 1 : Nat) : Int) = cmpI (n : Int) (m : Int) := by unfold cmpI; repeat' split; all_goals omega
        rw [if_neg (show ¬ c (f 0) (g 0) ≠ 0 from fun h => h hz), e]
        rw [if_neg (show ¬ c (f 0) (g 0) ≠ 0 from fun h => h hz)]
        exact h
      · rw [if_pos hz, if_pos hz]
        rw [if_pos hz]
/-- the order of two values whose shape is seen -/
theorem ordV_mk (k i : Int) (s : ByteArray) (n : Nat) (p : Option Addr) (c : Nat) (f : Nat → VT) (k2 i2 : Int) (s2 : ByteArray) (n2 : Nat) (p2 : Option Addr) (c2 : Nat) (f2 : Nat → VT) :
    ordV (.mk k i s n p c f) (.mk k2 i2 s2 n2 p2 c2 f2) = if k ≠ k2 then cmpI k k2 else if k = 1 then cmpI i i2 else if k = 2 then cmpS s s2 else lexL ordV ((List.range n).map f) ((List.range n2).map f2) := by
  rw [ordV_eq, ← lex_eq]
  rfl
theorem mem_map {n : Nat} {f : Nat → VT} {a : VT} (h : a ∈ (List.range n).map f) : ∃ j, j < n ∧ a = f j := by
  obtain ⟨j, hj, rfl⟩ := List.mem_map.1 h
  exact ⟨j, List.mem_range.1 hj, rfl⟩
theorem ordV_range : ∀ t u : VT, -1 ≤ ordV t u ∧ ordV t u ≤ 1 := by
  intro t
  induction t with
  | nil => intro u; simp [ordV]
  | mk k i s n p c f ih =>
    intro u
    cases u with
    | nil =>
      rw [ordV_eq]
      have h : firstN (fun j => ordV (f j) (VT.nil.item j)) (min n VT.nil.n) = 0 := by show firstN _ (min n 0) = 0; rw [Nat.min_zero]; rfl
      rw [h]
      have h1 := cmpI_range k VT.nil.kind
      have h2 := cmpI_range i VT.nil.int
      have h3 := cmpS_range s VT.nil.text
      have h4 := cmpI_range (n : Int) (VT.nil.n : Int)
      repeat' split
      all_goals first | exact h1 | exact h2 | exact h3 | exact h4 | omega
    | mk k2 i2 s2 n2 p2 c2 f2 =>
      rw [ordV_mk]
      have h5 : -1 ≤ lexL ordV ((List.range n).map f) ((List.range n2).map f2) ∧ lexL ordV ((List.range n).map f) ((List.range n2).map f2) ≤ 1 := lex_range fun a ha b _ => by
        obtain ⟨j, _, rfl⟩ := mem_map ha
        exact ih j b
      have h1 := cmpI_range k k2
      have h2 := cmpI_range i i2
      have h3 := cmpS_range s s2
      repeat' split
      all_goals first | exact h1 | exact h2 | exact h3 | exact h5
theorem ordV_anti : ∀ t u : VT, Val t → Val u → ordV u t = - ordV t u := by
  intro t
  induction t with
  | nil => intro u h; exact h.elim
  | mk k i s n p c f ih =>
    intro u ht hu
    cases u with
    | nil => exact hu.elim
    | mk k2 i2 s2 n2 p2 c2 f2 =>
      rw [ordV_mk, ordV_mk]
      by_cases hk : k = k2
      · subst hk
        simp only [ne_eq, not_true_eq_false, if_false]
        by_cases h1 : k = 1
        · simp only [if_pos h1]; exact cmpI_anti _ _
        simp only [if_neg h1]
        by_cases h2 : k = 2
        · simp only [if_pos h2]; exact cmpS_anti _ _
        simp only [if_neg h2]
        refine lex_anti fun a ha b hb => ?_
        obtain ⟨j, hj, rfl⟩ := mem_map ha
        obtain ⟨j2, hj2, rfl⟩ := mem_map hb
        exact ih j _ (ht.2 j hj) (hu.2 j2 hj2)
      · rw [if_pos (fun h => hk h.symm), if_pos hk]; exact cmpI_anti _ _
theorem all2_alike {f g : Nat → VT} : ∀ {n m : Nat}, All2 VT.Alike ((List.range n).map f) ((List.range m).map g) ↔ n = m ∧ ∀ j, j < n → VT.Alike (f j) (g j) := by
  intro n
  induction n generalizing f g with
  | zero =>
    intro m
    cases m with
    | zero => simp [All2]
    | succ m => rw [range_map g m]; simp [All2]
  | succ n ih =>
    intro m
    cases m with
    | zero => rw [range_map f n]; simp [All2]
    | succ m =>
      rw [range_map f n, range_map g m]
      simp only [All2]
      rw [ih]
      constructor
      · rintro ⟨h1, rfl, h2⟩
        refine ⟨rfl, fun j hj => ?_⟩
        cases j with
        | zero => exact h1
        | succ j => exact h2 j (by omega)
      · rintro ⟨h1, h2⟩
        exact ⟨h2 0 (by omega), by omega, fun j hj => h2 (j + 1) (by omega)⟩
theorem ordV_zero : ∀ t u : VT, Val t → Val u → (ordV t u = 0 ↔ VT.Alike t u) := by
  intro t
  induction t with
  | nil => intro u h; exact h.elim
  | mk k i s n p c f ih =>
    intro u ht hu
    cases u with
    | nil => exact hu.elim
    | mk k2 i2 s2 n2 p2 c2 f2 =>
      obtain ⟨⟨h1, _, _, _, _⟩, hi⟩ := ht
      obtain ⟨⟨g1, _, _, _, _⟩, gi⟩ := hu
      obtain ⟨⟨a0, a3⟩, ai, aS, an⟩ := fit_facts h1
      obtain ⟨_, bi, bS, bn⟩ := fit_facts g1
      rw [ordV_mk]
      by_cases hk : k = k2
      · subst hk
        rw [if_neg (by simp)]
        by_cases h1 : k = 1
        · rw [if_pos h1, cmpI_zero]
          subst h1
          simp only [show ¬ (1 : Int) = 2 by decide, show ¬ (1 : Int) = 3 by decide, or_false] at aS an bS bn
          subst an bn
          exact ⟨fun h => ⟨rfl, h.symm, nil_text bS aS, rfl, fun j hj => absurd hj (by omega)⟩, fun h => h.2.1.symm⟩
        rw [if_neg h1]
        by_cases h2 : k = 2
        · rw [if_pos h2, cmpS_zero]
          subst h2
          simp only [show ¬ (2 : Int) = 1 by decide, show ¬ (2 : Int) = 3 by decide, or_false] at ai an bi bn
          subst ai bi an bn
          exact ⟨fun h => ⟨rfl, rfl, h.symm, rfl, fun j hj => absurd hj (by omega)⟩, fun h => h.2.2.1.symm⟩
        rw [if_neg h2]
        have e1 := ai.resolve_right h1
        have e2 := bi.resolve_right h1
        have e3 := nil_text (aS.resolve_right h2) (bS.resolve_right h2)
        rw [lex_zero (R := VT.Alike) fun a ha b hb => by
          obtain ⟨j, hj, rfl⟩ := mem_map ha
          obtain ⟨j2, hj2, rfl⟩ := mem_map hb
          exact ih j _ (hi j hj) (gi j2 hj2), all2_alike]
        exact ⟨fun h => ⟨rfl, by rw [VT.int_mk, e1, e2], e3.symm, h.1.symm, h.2⟩, fun h => ⟨h.2.2.2.1.symm, h.2.2.2.2⟩⟩
      · rw [if_pos hk, cmpI_zero]
        exact ⟨fun h => absurd h hk, fun h => absurd h.1.symm hk⟩
theorem ordV_tri : ∀ t u v : VT, Val t → Val u → Val v → Tri3 (ordV t u) (ordV u v) (ordV t v) := by
  intro t
  induction t with
  | nil => intro u v h; exact h.elim
  | mk k i s n p c f ih =>
    intro u v ht hu hv
    cases u with
    | nil => exact hu.elim
    | mk k2 i2 s2 n2 p2 c2 f2 =>
      cases v with
      | nil => exact hv.elim
      | mk k3 i3 s3 n3 p3 c3 f3 =>
        have hz1 := ordV_zero _ _ ht hu
        have hz2 := ordV_zero _ _ hu hv
        rw [ordV_mk, ordV_mk, ordV_mk]
        by_cases e12 : k = k2
        · subst e12
          by_cases e23 : k = k3
          · subst e23
            simp only [ne_eq, not_true_eq_false, if_false]
            by_cases h1 : k = 1
            · simp only [if_pos h1]; exact cmpI_tri _ _ _
            simp only [if_neg h1]
            by_cases h2 : k = 2
            · simp only [if_pos h2]; exact cmpS_tri _ _ _
            simp only [if_neg h2]
            refine lex_tri fun a ha b hb d hd => ?_
            obtain ⟨j, hj, rfl⟩ := mem_map ha
            obtain ⟨j2, hj2, rfl⟩ := mem_map hb
            obtain ⟨j3, hj3, rfl⟩ := mem_map hd
            exact ih j _ _ (ht.2 j hj) (hu.2 j2 hj2) (hv.2 j3 hj3)
          · rw [if_pos e23, if_pos e23]
            intro h1 h2
            have h3 := (fun h : cmpI k k3 = 0 => e23 ((cmpI_zero k k3).1 h))
            exact ⟨h2, fun h => absurd h h3, fun h => absurd h.2 h3⟩
        · rw [if_pos e12]
          by_cases e23 : k2 = k3
          · subst e23
            rw [if_pos e12]
            intro h1 h2
            have h3 := (fun h : cmpI k k2 = 0 => e12 ((cmpI_zero k k2).1 h))
            exact ⟨h1, fun h => absurd h h3, fun h => absurd h.1 h3⟩
          · rw [if_pos e23]
            intro h1 h2
            have n1 : ¬ cmpI k k2 = 0 := (fun h : cmpI k k2 = 0 => e12 ((cmpI_zero k k2).1 h))
            have n2 : ¬ cmpI k2 k3 = 0 := (fun h : cmpI k2 k3 = 0 => e23 ((cmpI_zero k2 k3).1 h))
            have l1 := (cmpI_neg k k2).1 (by omega)
            have l2 := (cmpI_neg k2 k3).1 (by omega)
            have l3 := (cmpI_neg k k3).2 (by omega)
            rw [if_pos (by omega)]
            exact ⟨by omega, fun h => absurd h (by omega), fun h => absurd h.1 n1⟩
end Go.Proofs.Ytckopbkhpbhljaa

namespace Go.Proofs.Ytckopbkhpbhljaa
open Go.RowKit
set_option maxRecDepth 8000
/-- a cell without its addresses: key and values alone -/
def cn (c : VT) : VT := .mk 0 0 c.text c.n none 0 (fun j => if j < c.n then (c.item j).norm else .nil)
theorem cn_text (c : VT) : (cn c).text = c.text := rfl
theorem cn_z : cn zC = zC := by
  unfold cn zC
  simp [VT.text, VT.n]
theorem norm_item (t : VT) (j : Nat) : t.norm.item j = if j < t.n then (t.item j).norm else .nil := by
  cases t with
  | nil => simp [VT.norm, VT.item, VT.n]
  | mk => rfl
theorem cn_norm (c : VT) : cn c.norm = cn c := by
  unfold cn
  rw [norm_text, norm_n]
  congr 1
  funext j
  by_cases hj : j < c.n
  · rw [if_pos hj, if_pos hj, norm_item, if_pos hj, norm_norm]
  · rw [if_neg hj, if_neg hj]
theorem cn_to {c u : VT} (h : cn c = cn u) : CAlk c u := by
  unfold cn at h
  simp only [VT.mk.injEq, true_and] at h
  obtain ⟨h1, h2, h3⟩ := h
  refine ⟨h1.symm, h2.symm, fun j hj => ?_⟩
  have := congrFun h3 j
  rw [if_pos hj, if_pos (by omega)] at this
  exact norm_to this
theorem cn_of {c u : VT} {w : World} {S : Nat → Prop} (h : CAlk c u) (hu : VT.In w S u) : cn c = cn u := by
  obtain ⟨h1, h2, h3⟩ := h
  unfold cn
  rw [h1, h2]
  congr 1
  funext j
  by_cases hj : j < c.n
  · rw [if_pos hj, if_pos hj]; exact norm_of (h3 j hj) (hu.sub (by omega))
  · rw [if_neg hj, if_neg hj]
/-- the cells of a list: keys and values -/
def LT.cl (l : LT VT) : List VT := l.toL.map cn
theorem cl_nl (l : LT VT) : l.nl.map cn = l.cl := by
  unfold LT.nl LT.cl
  rw [List.map_map]
  exact List.map_congr_left fun c _ => cn_norm c
theorem jS_cn (A : List VT) (G : List ByteArray) (B : List VT) : jS (A.map cn) G (B.map cn) = (jS A G B).map cn := by
  unfold jS
  have h1 := wo_nat cn id VT.text id zC (⟨#[]⟩ : ByteArray) VT.text id cn_text (fun _ => rfl) A G
  rw [cn_z, List.map_id] at h1
  have h2 := ov_nat cn VT.text zC VT.text cn_text (woL VT.text id zC (⟨#[]⟩ : ByteArray) A G) B
  rw [cn_z] at h2
  simp only [id_eq] at h1
  rw [h1, h2]
theorem Apd.cl {s v : LT VT} {d : DT} (h : Apd s d v) : v.cl = jS s.cl d.gone.toL d.set.cl := by
  rw [← cl_nl, h.nl, ← jS_cn, cl_nl, DT.nS_eq, cl_nl]
theorem cl_rise {l : LT VT} : Rise VT.text l.cl ↔ Rise VT.text l.toL := by
  unfold LT.cl Rise
  rw [List.pairwise_map]
  simp only [cn_text]
theorem cl_len (l : LT VT) : l.cl.length = l.n := by simp [LT.cl, LT.toL_len]
theorem LsAlk.ofC {a b : LT VT} (h : a.cl = b.cl) : LsAlk a b := by
  have l1 : a.n = b.n := by have := congrArg List.length h; simpa [cl_len] using this
  refine ⟨l1.symm, fun j hj => ?_⟩
  have := congrArg (fun l => l[j]?) h
  simp only [LT.cl, List.getElem?_map, LT.toL_get a hj, LT.toL_get b (show j < b.n by omega), Option.map_some, Option.some.injEq] at this
  exact cn_to this
theorem LsAlk.cl {a b : LT VT} {w : World} {S : Nat → Prop} (h : LsAlk a b) (hb : LT.In elCell w S b) : a.cl = b.cl := by
  unfold LT.cl
  apply List.ext_getElem?
  intro j
  have hn := h.1
  by_cases hj : j < a.n
  · rw [List.getElem?_map, List.getElem?_map, LT.toL_get _ hj, LT.toL_get _ (by omega)]
    simp only [Option.map_some]
    rw [cn_of (h.2 j hj) (hb.each j (by omega))]
  · rw [List.getElem?_eq_none (by rw [List.length_map, LT.toL_len]; omega), List.getElem?_eq_none (by rw [List.length_map, LT.toL_len]; omega)]
theorem keyIn_cl {l : LT VT} {g : ByteArray} : keyIn l.cl g ↔ keyIn l.toL g := by
  unfold LT.cl
  constructor
  · rintro ⟨c, hc, e⟩
    obtain ⟨b, hb, rfl⟩ := List.mem_map.1 hc
    exact ⟨b, hb, e⟩
  · rintro ⟨c, hc, e⟩
    exact ⟨_, List.mem_map.2 ⟨c, hc, rfl⟩, e⟩
/-- good values compare as the same just where they are the same -/
theorem eq0_iff {t u : VT} {w : World} {S : Nat → Prop} (ht : VT.In w S t) (hu : VT.In w S u) (ct : (chk t 0 0).1 = 0) (cu : (chk u 0 0).1 = 0) : eq0 t u = true ↔ VT.Alike t u := by
  unfold eq0
  have e1 : cleanT t = t := by unfold cleanT; rw [if_pos ct]
  have e2 : cleanT u = u := by unfold cleanT; rw [if_pos cu]
  have v1 := clean_val ht
  have v2 := clean_val hu
  rw [e1] at v1 ⊢
  rw [e2] at v2 ⊢
  rw [beq_iff_eq]
  exact ordV_zero t u v1 v2
theorem chkVals_item {c : VT} (h : chkVals c = 0) : ∀ j, j < c.n → (chk (c.item j) 0 0).1 = 0 := by
  unfold chkVals at h
  by_cases h1 : 6 < c.n
  · rw [if_pos h1] at h; cases h
  rw [if_neg h1] at h
  exact firstC_all _ h
theorem eqV_iff {c u : VT} {w : World} {S : Nat → Prop} (hc : VT.In w S c) (hu : VT.In w S u) (kc : COk c) (ku : COk u) (ht : u.text = c.text) : eqV c u = true ↔ CAlk c u := by
  unfold eqV
  rw [Bool.and_eq_true, decide_eq_true_eq, List.all_eq_true]
  constructor
  · rintro ⟨h1, h2⟩
    refine ⟨ht, h1.symm, fun j hj => ?_⟩
    exact (eq0_iff (hc.sub hj) (hu.sub (by omega)) (chkVals_item kc.vals j hj) (chkVals_item ku.vals j (by omega))).1 (h2 j (List.mem_range.2 hj))
  · rintro ⟨_, h2, h3⟩
    refine ⟨h2.symm, fun j hj => ?_⟩
    have hj := List.mem_range.1 hj
    exact (eq0_iff (hc.sub hj) (hu.sub (by omega)) (chkVals_item kc.vals j hj) (chkVals_item ku.vals j (by omega))).2 (h3 j hj)
/-- a good list of cells -/
structure SOk (w : World) (S : Nat → Prop) (l : LT VT) : Prop where
  rise : Rise VT.text l.toL
  cells : ∀ c ∈ l.toL, COk c
  mem : ∀ c ∈ l.toL, VT.In w S c
theorem SOk.of {w : World} {S : Nat → Prop} {l : LT VT} {num : Int} (h : chkState ⟨num, l.p, l.n, l.c, l.item⟩ = 0) (hl : LT.In elCell w S l) : SOk w S l := ⟨(chkState_rise h).1, chkState_cells h, fun c hc => by
  obtain ⟨j, hj, rfl⟩ := LT.mem_toL hc
  exact hl.each j hj⟩
section
variable {w : World} {S : Nat → Prop} {a b : LT VT} (ha : SOk w S a) (hb : SOk w S b)
include ha hb in
theorem dEv_spec : MrgS VT.text VT.text a.toL b.toL (dEv a b) := mrg_spec _ _ _ _ _ _ _ (by rw [LT.toL_len, LT.toL_len]; exact Nat.le_refl _) ha.rise hb.rise
include ha hb in
theorem dSet_mem (c : VT) : c ∈ dSet (dEv a b) ↔ c ∈ b.toL ∧ ∀ x ∈ a.toL, x.text = c.text → ¬ CAlk x c := by
  have I := dEv_spec ha hb
  unfold dSet
  rw [List.mem_map]
  constructor
  · rintro ⟨e, he, rfl⟩
    rw [List.mem_filter] at he
    obtain ⟨h1, h2⟩ := he
    simp only [Bool.and_eq_true, Bool.or_eq_true, Bool.not_eq_true'] at h2
    obtain ⟨hB, h3⟩ := h2
    obtain ⟨m1, m2⟩ := I.b e h1 hB
    refine ⟨m1, fun x hx ht hal => ?_⟩
    rcases h3 with h3 | h3
    · exact I.na e h1 h3 x hx (by rw [ht, m2])
    · cases hA : e.inA with
      | false => exact I.na e h1 hA x hx (by rw [ht, m2])
      | true =>
        obtain ⟨n1, n2⟩ := I.a e h1 hA
        obtain rfl : x = e.a := ha.rise.uniq hx n1 (by rw [ht, m2, n2])
        have := (eqV_iff (ha.mem _ n1) (hb.mem _ m1) (ha.cells _ n1) (hb.cells _ m1) ht.symm).2 hal
        rw [h3] at this
        cases this
  · rintro ⟨h1, h2⟩
    obtain ⟨e, he, hB, rfl⟩ := I.ys c h1
    refine ⟨e, List.mem_filter.2 ⟨he, ?_⟩, rfl⟩
    simp only [Bool.and_eq_true, Bool.or_eq_true, Bool.not_eq_true']
    refine ⟨hB, ?_⟩
    cases hA : e.inA with
    | false => exact .inl rfl
    | true =>
      right
      obtain ⟨n1, n2⟩ := I.a e he hA
      obtain ⟨m1, m2⟩ := I.b e he hB
      have ht : e.a.text = e.b.text := by rw [n2, m2]
      exact Bool.eq_false_iff.2 fun h => h2 _ n1 ht ((eqV_iff (ha.mem _ n1) (hb.mem _ m1) (ha.cells _ n1) (hb.cells _ m1) ht.symm).1 h)
include ha hb in
theorem dGone_mem (g : ByteArray) : g ∈ dGone (dEv a b) ↔ keyIn a.toL g ∧ ¬ keyIn b.toL g := by
  have I := dEv_spec ha hb
  unfold dGone
  rw [List.mem_map]
  constructor
  · rintro ⟨e, he, rfl⟩
    rw [List.mem_filter] at he
    have hB : e.inB = false := by simpa using he.2
    have hA := (I.ab e he.1).resolve_right (by rw [hB]; simp)
    exact ⟨⟨e.a, I.a e he.1 hA⟩, fun ⟨y, hy, e1⟩ => I.nb e he.1 hB y hy e1⟩
  · rintro ⟨⟨c, hc, rfl⟩, h2⟩
    obtain ⟨e, he, hA, rfl⟩ := I.xs c hc
    refine ⟨e, List.mem_filter.2 ⟨he, ?_⟩, ((I.a e he hA).2).symm⟩
    cases hB : e.inB with
    | false => rfl
    | true =>
      obtain ⟨m1, m2⟩ := I.b e he hB
      exact (h2 ⟨e.b, m1, by rw [m2, (I.a e he hA).2]⟩).elim
include ha hb in
theorem dSet_rise : Rise VT.text (dSet (dEv a b)) := by
  have I := dEv_spec ha hb
  unfold Rise dSet
  rw [List.pairwise_map]
  refine (I.rise.sublist List.filter_sublist).imp_of_mem fun {x y} hx hy h => ?_
  have key : ∀ e ∈ (dEv a b).filter fun x => x.inB && (!x.inA || !eqV x.a x.b), e.b.text = e.key := fun e he => by
    rw [List.mem_filter] at he
    simp only [Bool.and_eq_true] at he
    exact (I.b e he.1 he.2.1).2
  rw [key x hx, key y hy]
  exact h
include ha hb in
theorem dGone_rise : Rise id (dGone (dEv a b)) := by
  have I := dEv_spec ha hb
  unfold Rise dGone
  rw [List.pairwise_map]
  exact (I.rise.sublist List.filter_sublist).imp fun h => h
include ha hb in
/-- Apply of Diff gives the second list -/
theorem diff_back : (jS a.toL (dGone (dEv a b)) (dSet (dEv a b))).map cn = b.cl := by
  have r1 := dSet_rise ha hb
  have r2 := dGone_rise ha hb
  have rj := jS_rise ha.rise r1 r2
  refine Rise.ext (k := VT.text) ?_ (cl_rise.2 hb.rise) fun c => ?_
  · unfold Rise
    rw [List.pairwise_map]
    exact rj
  · rw [List.mem_map]
    unfold LT.cl
    rw [List.mem_map]
    constructor
    · rintro ⟨x, hx, rfl⟩
      rcases (jS_mem ha.rise r1 r2 x).1 hx with h | ⟨⟨h1, h2⟩, h3⟩
      · exact ⟨x, ((dSet_mem ha hb x).1 h).1, rfl⟩
      · have hk : keyIn b.toL x.text := Classical.byContradiction fun hn => h2 x.text ((dGone_mem ha hb _).2 ⟨⟨x, h1, rfl⟩, hn⟩) rfl
        obtain ⟨y, hy, e⟩ := hk
        refine ⟨y, hy, ?_⟩
        have : CAlk x y := Classical.byContradiction fun hn => h3 y ((dSet_mem ha hb y).2 ⟨hy, fun z hz ez => by
          obtain rfl : z = x := ha.rise.uniq hz h1 (by rw [ez, e])
          exact hn⟩) e
        exact (cn_of this (hb.mem y hy)).symm
    · rintro ⟨y, hy, rfl⟩
      by_cases hd : y ∈ dSet (dEv a b)
      · exact ⟨y, (jS_mem ha.rise r1 r2 y).2 (.inl hd), rfl⟩
      · have hx : ∃ x ∈ a.toL, x.text = y.text ∧ CAlk x y := Classical.byContradiction fun hn => hd ((dSet_mem ha hb y).2 ⟨hy, fun x hx ex hal => hn ⟨x, hx, ex, hal⟩⟩)
        obtain ⟨x, hx, ex, hal⟩ := hx
        refine ⟨x, (jS_mem ha.rise r1 r2 x).2 (.inr ⟨⟨hx, fun g hg e => ?_⟩, fun z hz e => ?_⟩), cn_of hal (hb.mem y hy)⟩
        · exact ((dGone_mem ha hb g).1 hg).2 ⟨y, hy, by rw [e, ex]⟩
        · have hz2 := (dSet_mem ha hb z).1 hz
          obtain rfl : z = y := hb.rise.uniq hz2.1 hy (by rw [e, ex])
          exact hd hz
include ha hb in
/-- Diff's answer is fit -/
theorem diff_fit {u : DT} (hu : u.nS = (dSet (dEv a b)).map VT.norm) (hg : u.gone.toL = dGone (dEv a b)) (h0 : 0 ≤ u.num) (h1 : u.num ≤ 1073741824) (hn : a.n ≤ 64 ∧ b.n ≤ 64) : chkD u = 0 := by
  classical
  have r1 := dSet_rise ha hb
  have r2 := dGone_rise ha hb
  have hs : u.set.nl = (dSet (dEv a b)).map VT.norm := hu
  have sn : u.set.n = (dSet (dEv a b)).length := by rw [← nl_len, hs, List.length_map]
  have gn : u.gone.n = (dGone (dEv a b)).length := by rw [← LT.toL_len, hg]
  have l1 : (dSet (dEv a b)).length ≤ b.toL.length := by
    have : (dSet (dEv a b)).Sublist b.toL := by
      have hx : dSet (dEv a b) = b.toL.filter fun c => decide (c ∈ dSet (dEv a b)) := Rise.ext (k := VT.text) r1 (hb.rise.sublist List.filter_sublist) fun c => by
        rw [List.mem_filter]
        simp only [decide_eq_true_eq]
        exact ⟨fun h => ⟨((dSet_mem ha hb c).1 h).1, h⟩, fun h => h.2⟩
      rw [hx]
      exact List.filter_sublist
    exact this.length_le
  have l2 : (dGone (dEv a b)).length ≤ a.toL.length := by
    have hx : dGone (dEv a b) = (a.toL.map VT.text).filter fun g => decide (g ∈ dGone (dEv a b)) := Rise.ext (k := id) r2 (by
      refine List.Pairwise.sublist List.filter_sublist ?_
      rw [List.pairwise_map]
      exact ha.rise) fun g => by
      rw [List.mem_filter, List.mem_map]
      simp only [decide_eq_true_eq]
      exact ⟨fun h => ⟨((dGone_mem ha hb g).1 h).1, h⟩, fun h => h.2⟩
    have := (List.filter_sublist (l := a.toL.map VT.text) (p := fun g => decide (g ∈ dGone (dEv a b)))).length_le
    rw [← hx, List.length_map] at this
    exact this
  rw [LT.toL_len] at l1 l2
  refine chkD_zero (chkState_zero h0 h1 (by omega) ?_ ?_) (by omega) ?_ ?_ ?_
  · rw [← nl_rise, hs]; exact rise_norm r1
  · rw [← nl_cok, hs]
    intro c hc
    obtain ⟨x, hx, rfl⟩ := List.mem_map.1 hc
    exact cok_norm.2 (hb.cells x ((dSet_mem ha hb x).1 hx).1)
  · rw [hg]; exact r2
  · rw [hg]
    intro g hg
    obtain ⟨c, hc, rfl⟩ := ((dGone_mem ha hb g).1 hg).1
    exact (ha.cells c hc).key
  · rw [hg]
    intro g hg c hc e
    have hk : keyIn u.set.nl g := keyIn_nl.2 ⟨c, hc, e⟩
    rw [hs] at hk
    obtain ⟨x, hx, e2⟩ := keyIn_norm.1 hk
    exact ((dGone_mem ha hb g).1 hg).2 ⟨x, ((dSet_mem ha hb x).1 hx).1, e2⟩
end
end Go.Proofs.Ytckopbkhpbhljaa
