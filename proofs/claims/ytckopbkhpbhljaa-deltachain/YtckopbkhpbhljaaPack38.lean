import Derived.Test.YtckopbkhpbhljaaPack29
import Derived.Test.YtckopbkhpbhljaaDlL
import Derived.Test.YtckopbkhpbhljaaPack37
namespace Go.Proofs.Ytckopbkhpbhljaa
open Go.RowKit
set_option maxRecDepth 8000
/-- the items that are not in the other list stand in their order -/
theorem wo_sub {α β : Type} (kA : α → ByteArray) (kB : β → ByteArray) (zA : α) (zB : β) (xs : List α) (ys : List β) : (woL kA kB zA zB xs ys).Sublist xs := by
  have key : ∀ (f : Nat) (xs : List α) (ys : List β), (((mrgF kA kB zA zB f xs ys).filter fun x => !x.inB).map fun x => x.a).Sublist xs := by
    intro f
    induction f with
    | zero => intro xs ys; exact List.nil_sublist _
    | succ f ih =>
      intro xs ys
      by_cases h0 : xs.length + ys.length = 0
      · rw [mrg_end _ _ _ _ _ _ _ h0]; exact List.nil_sublist _
      · have hm : mrgF kA kB zA zB (f + 1) xs ys = evL kA kB zA zB xs ys :: mrgF kA kB zA zB f (nxA kA kB xs ys) (nxB kA kB xs ys) := by simp only [mrgF, if_neg h0]
        have hab := (mrg_mem kA kB zA zB (f + 1) xs ys (evL kA kB zA zB xs ys) (by rw [hm]; exact List.mem_cons_self)).2.2
        have hI := ih (nxA kA kB xs ys) (nxB kA kB xs ys)
        rw [hm]
        cases hb : (evL kA kB zA zB xs ys).inB with
        | true =>
          rw [List.filter_cons_of_neg (by simp [hb])]
          refine hI.trans ?_
          unfold nxA
          cases xs with
          | nil => exact List.nil_sublist _
          | cons a t =>
            cases hitL kA (a :: t) (lkL kA kB (a :: t) ys) with
            | true => exact List.sublist_cons_self _ _
            | false => exact List.Sublist.refl _
        | false =>
          have ha := hab.resolve_right (by rw [hb]; simp)
          rw [List.filter_cons_of_pos (by simp [hb]), List.map_cons]
          have ha' : hitL kA xs (lkL kA kB xs ys) = true := ha
          cases xs with
          | nil => simp [hitL] at ha'
          | cons a t =>
            have e1 : (evL kA kB zA zB (a :: t) ys).a = a := by
              show getL zA (a :: t) (hitL kA (a :: t) (lkL kA kB (a :: t) ys)) = a
              rw [ha']; rfl
            have e2 : nxA kA kB (a :: t) ys = t := by
              show cutL (a :: t) (hitL kA (a :: t) (lkL kA kB (a :: t) ys)) = t
              rw [ha']; rfl
            rw [e1]
            rw [e2] at hI ⊢
            exact hI.cons_cons a
  exact key _ xs ys
/-- a good cell -/
structure COk (c : VT) : Prop where
  key : c.text.size ≤ 12
  vals : chkVals c = 0
theorem COk.alike {c u : VT} (h : COk c) (ha : VT.Alike c u) : COk u := ⟨by rw [ha.text]; exact h.key, by rw [← chkVals_alike ha]; exact h.vals⟩
theorem firstC_zero {g : Nat → Nat} : ∀ n, (∀ j, j < n → g j = 0) → firstC g n = 0 := by
  intro n
  induction n with
  | zero => intro _; rfl
  | succ n ih =>
    intro h
    show (if firstC g n = 0 then g n else firstC g n) = 0
    rw [if_pos (ih fun j hj => h j (by omega))]
    exact h n (by omega)
theorem toL_mem {α : Type} (l : LT α) {j : Nat} (h : j < l.n) : l.item j ∈ l.toL := List.mem_of_getElem? (LT.toL_get l h)
theorem chkState_cells {num : Int} {l : LT VT} (h : chkState ⟨num, l.p, l.n, l.c, l.item⟩ = 0) : ∀ c ∈ l.toL, COk c := by
  intro c hc
  obtain ⟨j, hj, rfl⟩ := LT.mem_toL hc
  unfold chkState at h
  by_cases h1 : num < 0 ∨ 1073741824 < num
  · rw [if_pos h1] at h; cases h
  rw [if_neg h1] at h
  by_cases h2 : 64 < l.n
  · rw [if_pos h2] at h; cases h
  rw [if_neg h2] at h
  have hc := firstC_all _ h j hj
  unfold chkCell at hc
  simp only at hc
  by_cases h3 : 12 < (l.item j).text.size
  · rw [if_pos h3] at hc; cases hc
  rw [if_neg h3] at hc
  split at hc
  · cases hc
  · exact ⟨by omega, hc⟩
theorem rise_at {α : Type} {k : α → ByteArray} {l : LT α} (h : Rise k l.toL) {i j : Nat} (hij : i < j) (hj : j < l.n) : ltB (k (l.item i)) (k (l.item j)) := by
  have h1 := List.pairwise_iff_getElem.1 h i j (by rw [LT.toL_len]; omega) (by rw [LT.toL_len]; exact hj) hij
  have e : ∀ m (hm : m < l.toL.length), l.toL[m] = l.item m := fun m hm => by
    have := LT.toL_get l (show m < l.n by rw [LT.toL_len] at hm; exact hm)
    rw [List.getElem?_eq_getElem hm] at this
    exact Option.some.inj this
  rw [e, e] at h1
  exact h1
theorem chkState_zero {num : Int} {l : LT VT} (h0 : 0 ≤ num) (h1 : num ≤ 1073741824) (hn : l.n ≤ 64) (hr : Rise VT.text l.toL) (hc : ∀ c ∈ l.toL, COk c) : chkState ⟨num, l.p, l.n, l.c, l.item⟩ = 0 := by
  unfold chkState
  rw [if_neg (by simp only; omega), if_neg (by simp only; omega)]
  refine firstC_zero _ fun j hj => ?_
  have hj' : j < l.n := hj
  have hk := hc _ (toL_mem l hj')
  unfold chkCell
  simp only
  rw [if_neg (by have := hk.key; omega), if_neg, hk.vals]
  rintro ⟨hp, hl⟩
  have := rise_at hr (show j - 1 < j by omega) hj'
  unfold ltB at this
  rw [this] at hl
  cases hl
theorem chkD_gone {d : DT} (h : chkD d = 0) : ∀ g ∈ d.gone.toL, g.size ≤ 12 := by
  intro g hg
  obtain ⟨j, hj, rfl⟩ := LT.mem_toL hg
  unfold chkD at h
  by_cases h1 : chkState ⟨d.num, d.set.p, d.set.n, d.set.c, d.set.item⟩ = 0
  · rw [if_neg (by simpa using h1)] at h
    by_cases h2 : 64 < d.gone.n
    · rw [if_pos h2] at h; cases h
    rw [if_neg h2] at h
    have hc := firstC_all _ h j hj
    unfold chkGone at hc
    by_cases h3 : 12 < (d.gone.item j).size
    · rw [if_pos h3] at hc; cases hc
    omega
  · rw [if_pos h1] at h; exact (h1 h).elim
theorem chkD_state {d : DT} (h : chkD d = 0) : chkState ⟨d.num, d.set.p, d.set.n, d.set.c, d.set.item⟩ = 0 := by
  unfold chkD at h
  by_cases h1 : chkState ⟨d.num, d.set.p, d.set.n, d.set.c, d.set.item⟩ = 0
  · exact h1
  · rw [if_pos h1] at h; exact (h1 h).elim
theorem chkD_zero {d : DT} (hs : chkState ⟨d.num, d.set.p, d.set.n, d.set.c, d.set.item⟩ = 0) (hn : d.gone.n ≤ 64) (hr : Rise id d.gone.toL) (hk : ∀ g ∈ d.gone.toL, g.size ≤ 12) (ha : ∀ g ∈ d.gone.toL, ∀ c ∈ d.set.toL, c.text ≠ g) : chkD d = 0 := by
  unfold chkD
  rw [if_neg (by simpa using hs), if_neg (by omega)]
  refine firstC_zero _ fun j hj => ?_
  have hm := toL_mem d.gone hj
  unfold chkGone
  rw [if_neg (by have := hk _ hm; omega), if_neg]
  rintro (⟨hp, hl⟩ | hl)
  · have h1 := rise_at hr (show j - 1 < j by omega) hj
    have h2 := le_not_lt (d.gone.item j).toList (d.gone.item (j - 1)).toList
    unfold ltB at h1
    simp only [id_eq] at h1
    rw [hl, h1] at h2
    cases h2
  · rw [hasK, List.any_eq_true] at hl
    obtain ⟨c, hc, he⟩ := hl
    exact ha _ hm c hc (ba_ext (by simpa using he))
/-- the cells of a list without their addresses -/
def LT.nl (l : LT VT) : List VT := l.toL.map VT.norm
theorem DT.nS_eq (d : DT) : d.nS = d.set.nl := rfl
theorem nS_rise {d : DT} (h : Rise VT.text d.set.toL) : Rise VT.text d.nS := rise_norm h
def keyIn (xs : List VT) (g : ByteArray) : Prop := ∃ c ∈ xs, c.text = g
theorem keyIn_norm {xs : List VT} {g : ByteArray} : keyIn (xs.map VT.norm) g ↔ keyIn xs g := by
  constructor
  · rintro ⟨c, hc, e⟩
    obtain ⟨b, hb, rfl⟩ := List.mem_map.1 hc
    exact ⟨b, hb, by rw [← e, norm_text]⟩
  · rintro ⟨c, hc, e⟩
    exact ⟨_, List.mem_map.2 ⟨c, hc, rfl⟩, by rw [norm_text, e]⟩
theorem keyIn_jS {A B : List VT} {G : List ByteArray} (hA : Rise VT.text A) (hB : Rise VT.text B) (hG : Rise id G) (g : ByteArray) : keyIn (jS A G B) g ↔ keyIn B g ∨ (keyIn A g ∧ g ∉ G) := by
  constructor
  · rintro ⟨c, hc, rfl⟩
    rcases (jS_mem hA hB hG c).1 hc with h | ⟨⟨h1, h2⟩, _⟩
    · exact .inl ⟨c, h, rfl⟩
    · exact .inr ⟨⟨c, h1, rfl⟩, fun hm => h2 _ hm rfl⟩
  · rintro (⟨c, hc, rfl⟩ | ⟨⟨c, hc, rfl⟩, hn⟩)
    · exact ⟨c, (jS_mem hA hB hG c).2 (.inl hc), rfl⟩
    · by_cases hb : keyIn B c.text
      · obtain ⟨b, hb, e⟩ := hb
        exact ⟨b, (jS_mem hA hB hG b).2 (.inl hb), e⟩
      · exact ⟨c, (jS_mem hA hB hG c).2 (.inr ⟨⟨hc, fun g hg e => hn (e ▸ hg)⟩, fun b hb' e => hb ⟨b, hb', e⟩⟩), rfl⟩
/-- what Apply says, key by key -/
structure AppOk (sn : Int) (s : LT VT) (d : DT) : Prop where
  okS : chkState ⟨sn, s.p, s.n, s.c, s.item⟩ = 0
  okD : chkD d = 0
  gone : ∀ g ∈ d.gone.toL, keyIn s.toL g
  few : (jS s.toL d.gone.toL d.set.toL).length ≤ 64
theorem aGone_has {s : LT VT} {d : DT} (hs : Rise VT.text s.toL) (hd : Rise id d.gone.toL) : (aGone s d).length = 0 ↔ ∀ g ∈ d.gone.toL, keyIn s.toL g := by
  unfold aGone
  rw [List.length_eq_zero_iff]
  constructor
  · intro h g hg
    refine Classical.byContradiction fun hn => ?_
    have : g ∈ woL id VT.text (⟨#[]⟩ : ByteArray) zC d.gone.toL s.toL := (wo_mem _ _ _ _ hd hs g).2 ⟨hg, fun c hc e => hn ⟨c, hc, e⟩⟩
    rw [h] at this
    cases this
  · intro h
    rw [List.eq_nil_iff_forall_not_mem]
    intro g hg
    obtain ⟨h1, h2⟩ := (wo_mem _ _ _ _ hd hs g).1 hg
    obtain ⟨c, hc, e⟩ := h g h1
    exact h2 c hc e
theorem applyE_ok {sn : Int} {s : LT VT} {d : DT} : applyE sn s d = 0 ↔ AppOk sn s d := by
  unfold applyE
  constructor
  · intro h
    by_cases h1 : chkState ⟨sn, s.p, s.n, s.c, s.item⟩ = 0
    · rw [if_neg (by simpa using h1)] at h
      by_cases h2 : chkD d = 0
      · rw [if_neg (by simpa using h2)] at h
        by_cases h3 : 0 < (aGone s d).length
        · rw [if_pos h3] at h; cases h
        rw [if_neg h3] at h
        by_cases h4 : 64 < (aSet s d).length
        · rw [if_pos h4] at h; cases h
        exact ⟨h1, h2, (aGone_has (chkState_rise h1).1 (chkD_ok h2).gone).1 (by omega), by have : (jS s.toL d.gone.toL d.set.toL) = aSet s d := rfl; rw [this]; omega⟩
      · rw [if_pos h2] at h; exact (h2 h).elim
    · rw [if_pos h1] at h; exact (h1 h).elim
  · rintro ⟨h1, h2, h3, h4⟩
    have h5 := (aGone_has (chkState_rise h1).1 (chkD_ok h2).gone).2 h3
    have h6 : (aSet s d).length ≤ 64 := h4
    rw [if_neg (by simpa using h1), if_neg (by simpa using h2), if_neg (by omega), if_neg (by omega)]
theorem applyE_110 {sn : Int} {s : LT VT} {d : DT} (hs : chkState ⟨sn, s.p, s.n, s.c, s.item⟩ = 0) (hd : chkD d = 0) (hf : (jS s.toL d.gone.toL d.set.toL).length ≤ 64) (hn : applyE sn s d ≠ 0) : applyE sn s d = 110 ∧ ∃ g ∈ d.gone.toL, ¬ keyIn s.toL g := by
  have h6 : (aSet s d).length ≤ 64 := hf
  have h7 : ∃ g ∈ d.gone.toL, ¬ keyIn s.toL g := by
    refine Classical.byContradiction fun hx => hn (applyE_ok.2 ⟨hs, hd, fun g hg => Classical.byContradiction fun hy => hx ⟨g, hg, hy⟩, hf⟩)
  refine ⟨?_, h7⟩
  have h8 : 0 < (aGone s d).length := by
    rcases Nat.eq_zero_or_pos (aGone s d).length with h | h
    · obtain ⟨g, hg, hx⟩ := h7
      exact (hx ((aGone_has (chkState_rise hs).1 (chkD_ok hd).gone).1 h g hg)).elim
    · exact h
  unfold applyE
  rw [if_neg (by simpa using hs), if_neg (by simpa using hd), if_pos h8]
/-- v is what Apply makes of s and d -/
structure Apd (s : LT VT) (d : DT) (v : LT VT) : Prop where
  nl : v.nl = jS s.nl d.gone.toL d.nS
theorem Apd.of {s : LT VT} {d : DT} {v : LT VT} {w : World} {S : Nat → Prop} (hn : v.n = (aSet s d).length) (ha : ∀ j, j < v.n → VT.Alike ((aSet s d).getD j zC) (v.item j)) (hv : LT.In elCell w S v) : Apd s d v := by
  refine ⟨?_⟩
  have h : v.nl = (aSet s d).map VT.norm := by
    unfold LT.nl
    apply List.ext_getElem?
    intro j
    by_cases hj : j < (aSet s d).length
    · have h1 := ha j (by omega)
      rw [show (aSet s d).getD j zC = (aSet s d)[j] by simp [hj]] at h1
      rw [List.getElem?_map, List.getElem?_map, LT.toL_get _ (by omega), List.getElem?_eq_getElem hj]
      simp only [Option.map_some]
      rw [norm_of h1 (hv.each j (by omega))]
    · rw [List.getElem?_eq_none (by rw [List.length_map, LT.toL_len]; omega), List.getElem?_eq_none (by rw [List.length_map]; omega)]
  rw [h]
  exact (jS_nat s.toL d.gone.toL d.set.toL).symm
theorem norm_mem {l : LT VT} {xs : List VT} (h : l.nl = xs) {c : VT} (hc : c ∈ l.toL) : ∃ x ∈ xs, x = c.norm := ⟨c.norm, by rw [← h]; exact List.mem_map.2 ⟨c, hc, rfl⟩, rfl⟩
theorem norm_norm : ∀ t : VT, t.norm.norm = t.norm := by
  intro t
  induction t with
  | nil => rfl
  | mk k i s n p c f ih =>
    simp only [VT.norm, VT.mk.injEq, true_and]
    funext j
    by_cases hj : j < n
    · rw [if_pos hj, if_pos hj]; exact ih j
    · rw [if_neg hj, if_neg hj]
theorem norm_alike (t : VT) : VT.Alike t t.norm ∧ VT.Alike t.norm t := ⟨norm_to (norm_norm t).symm, norm_to (norm_norm t)⟩
theorem cok_norm {c : VT} : COk c.norm ↔ COk c := ⟨fun h => h.alike (norm_alike c).2, fun h => h.alike (norm_alike c).1⟩
theorem nl_rise {l : LT VT} : Rise VT.text l.nl ↔ Rise VT.text l.toL := by
  unfold LT.nl Rise
  rw [List.pairwise_map]
  simp only [norm_text]
theorem nl_len (l : LT VT) : l.nl.length = l.n := by simp [LT.nl, LT.toL_len]
theorem nl_cok {l : LT VT} : (∀ c ∈ l.nl, COk c) ↔ ∀ c ∈ l.toL, COk c := by
  unfold LT.nl
  constructor
  · intro h c hc; exact cok_norm.1 (h _ (List.mem_map.2 ⟨c, hc, rfl⟩))
  · intro h c hc
    obtain ⟨b, hb, rfl⟩ := List.mem_map.1 hc
    exact cok_norm.2 (h b hb)
theorem keyIn_nl {l : LT VT} {g : ByteArray} : keyIn l.nl g ↔ keyIn l.toL g := keyIn_norm
theorem jS_cok {A B : List VT} {G : List ByteArray} (hA : ∀ c ∈ A, COk c) (hB : ∀ c ∈ B, COk c) : ∀ c ∈ jS A G B, COk c := by
  intro c hc
  rcases ovL_mem hc with h | h
  · exact hA c (woL_mem h)
  · exact hB c h
theorem few_nl (s : LT VT) (d : DT) : (jS s.toL d.gone.toL d.set.toL).length = (jS s.nl d.gone.toL d.nS).length := by
  have h := jS_nat s.toL d.gone.toL d.set.toL
  have : (jS s.nl d.gone.toL d.nS) = (jS s.toL d.gone.toL d.set.toL).map VT.norm := h
  rw [this, List.length_map]
/-- Apply's answer is a good state -/
theorem Apd.ok {sn : Int} {s v : LT VT} {d : DT} (h : AppOk sn s d) (hv : Apd s d v) : chkState ⟨d.num, v.p, v.n, v.c, v.item⟩ = 0 := by
  have hd := chkD_ok h.okD
  have hs := (chkState_rise h.okS).1
  refine chkState_zero hd.n0 hd.n1 ?_ ?_ ?_
  · rw [← nl_len, hv.nl, ← few_nl]; exact h.few
  · rw [← nl_rise, hv.nl]
    exact jS_rise (nl_rise.2 hs) (nS_rise hd.set) hd.gone
  · rw [← nl_cok, hv.nl]
    exact jS_cok (nl_cok.2 (chkState_cells h.okS)) (nl_cok.2 (chkState_cells (chkD_state h.okD)))
theorem jGone_apart {d e : DT} (hd : DOk d) (he : DOk e) : (¬ (jGone d e).length < e.gone.n) ↔ ∀ g ∈ e.gone.toL, g ∉ d.gone.toL := by
  unfold jGone
  constructor
  · intro h g hg hgd
    have h1 : (woL id id (⟨#[]⟩ : ByteArray) (⟨#[]⟩ : ByteArray) e.gone.toL d.gone.toL) = e.gone.toL := (wo_sub id id _ _ e.gone.toL d.gone.toL).eq_of_length_le (by rw [LT.toL_len]; omega)
    rw [← h1] at hg
    exact ((wo_mem _ _ _ _ he.gone hd.gone g).1 hg).2 g hgd rfl
  · intro h
    have h1 : (woL id id (⟨#[]⟩ : ByteArray) (⟨#[]⟩ : ByteArray) e.gone.toL d.gone.toL) = e.gone.toL := Rise.ext (k := id) (wo_rise _ _ _ _ he.gone hd.gone) he.gone fun g => by
      rw [wo_mem _ _ _ _ he.gone hd.gone]
      exact ⟨fun h => h.1, fun hg => ⟨hg, fun y hy e => h g hg (by simp only [id_eq] at e; rw [← e]; exact hy)⟩⟩
    rw [h1, LT.toL_len]
    omega
theorem jG_sizes {d e : DT} (hd : chkD d = 0) (he : chkD e = 0) : ∀ g ∈ jG d.gone.toL e.nS e.gone.toL, g.size ≤ 12 := by
  have a := chkD_ok hd
  have b := chkD_ok he
  intro g hg
  rcases (jG_mem a.gone b.gone (nS_rise b.set) g).1 hg with h | ⟨⟨h, _⟩, _⟩
  · exact chkD_gone he g h
  · exact chkD_gone hd g h
/-- Join's answer is a good delta -/
theorem Jnd.ok {d e j : DT} (hd : chkD d = 0) (he : chkD e = 0) (hj : Jnd d e j) (h1 : j.set.n ≤ 64) (h2 : j.gone.n ≤ 64) : chkD j = 0 := by
  have a := chkD_ok hd
  have b := chkD_ok he
  have ra := nS_rise a.set
  have rb := nS_rise b.set
  have rs : Rise VT.text j.set.toL := by rw [← nl_rise]; show Rise VT.text j.nS; rw [hj.set]; exact jS_rise ra rb b.gone
  refine chkD_zero (chkState_zero (by rw [hj.num]; exact b.n0) (by rw [hj.num]; exact b.n1) h1 rs ?_) h2 ?_ ?_ ?_
  · rw [← nl_cok]
    show ∀ c ∈ j.nS, COk c
    rw [hj.set]
    exact jS_cok (nl_cok.2 (chkState_cells (chkD_state hd))) (nl_cok.2 (chkState_cells (chkD_state he)))
  · rw [hj.gone]; exact jG_rise a.gone b.gone rb
  · rw [hj.gone]; exact jG_sizes hd he
  · intro g hg c hc e1
    rw [hj.gone, jG_mem a.gone b.gone rb] at hg
    have hk : keyIn j.nS g := keyIn_nl.2 ⟨c, hc, e1⟩
    rw [hj.set, keyIn_jS ra rb b.gone] at hk
    have hkB : g ∈ e.gone.toL → ¬ keyIn e.nS g := fun hg hk => by
      obtain ⟨c, hc, e1⟩ := keyIn_nl.1 hk
      exact b.apart g hg c hc e1
    have hkA : g ∈ d.gone.toL → ¬ keyIn d.nS g := fun hg hk => by
      obtain ⟨c, hc, e1⟩ := keyIn_nl.1 hk
      exact a.apart g hg c hc e1
    rcases hg with hg | ⟨⟨hg, hn⟩, _⟩
    · rcases hk with hk | ⟨_, hk⟩
      · exact hkB hg hk
      · exact hk hg
    · rcases hk with ⟨b', hb', e2⟩ | ⟨hk, _⟩
      · exact hn b' hb' e2
      · exact hkA hg hk
section
variable {sn : Int} {s t : LT VT} {d e j : DT} (h : AppOk sn s d) (ht : Apd s d t)
include h ht in
theorem keyT (g : ByteArray) : keyIn t.toL g ↔ keyIn d.set.toL g ∨ (keyIn s.toL g ∧ g ∉ d.gone.toL) := by
  have hd := chkD_ok h.okD
  rw [← keyIn_nl, ht.nl, keyIn_jS (nl_rise.2 (chkState_rise h.okS).1) (nS_rise hd.set) hd.gone]
  rw [show keyIn d.nS g ↔ keyIn d.set.toL g from keyIn_nl, keyIn_nl]
include h ht in
/-- both ways lead to the same cells -/
theorem two_ways (he : chkD e = 0) (hj : Jnd d e j) : jS t.nl e.gone.toL e.nS = jS s.nl j.gone.toL j.nS := by
  have hd := chkD_ok h.okD
  have he := chkD_ok he
  rw [ht.nl, hj.gone, hj.set]
  exact jS_assoc (nl_rise.2 (chkState_rise h.okS).1) (nS_rise hd.set) (nS_rise he.set) hd.gone he.gone
include h ht in
/-- Join's error where the second Apply has none -/
theorem join_111 (hk : AppOk d.num t e) (hm : joinE d e ≠ 0) : joinE d e = 111 := by
  have hd := chkD_ok h.okD
  have he := chkD_ok hk.okD
  have hap : ∀ g ∈ e.gone.toL, g ∉ d.gone.toL := fun g hg hgd => by
    rcases (keyT h ht g).1 (hk.gone g hg) with ⟨c, hc, e1⟩ | ⟨_, hn⟩
    · exact hd.apart g hgd c hc e1
    · exact hn hgd
  have h3 := (jGone_apart hd he).2 hap
  unfold joinE at hm ⊢
  rw [if_neg (by simpa using h.okD), if_neg (by simpa using hk.okD), if_neg h3] at hm ⊢
  by_cases h4 : 64 < (jSet d e).length ∨ 64 < (jAll d e).length
  · rw [if_pos h4]
  · rw [if_neg h4] at hm; exact (hm rfl).elim
include h ht in
theorem apply_two (hm : joinE d e = 0) (hj : Jnd d e j) (hl : AppOk sn s j) : AppOk d.num t e := by
  obtain ⟨_, he0, h3, _, _⟩ := joinE_ok hm
  have hd := chkD_ok h.okD
  have he := chkD_ok he0
  have hap := (jGone_apart hd he).1 h3
  refine ⟨ht.ok h, he0, fun g hg => ?_, ?_⟩
  · rw [keyT h ht]
    refine .inr ⟨hl.gone g ?_, hap g hg⟩
    rw [hj.gone, jG_mem hd.gone he.gone (nS_rise he.set)]
    exact .inl hg
  · rw [few_nl, two_ways h ht he0 hj, ← few_nl]; exact hl.few
include h ht in
theorem apply_110 (hm : joinE d e = 0) (hj : Jnd d e j) (hjn : j.set.n ≤ 64 ∧ j.gone.n ≤ 64) (hk : AppOk d.num t e) (hl : applyE sn s j ≠ 0) : applyE sn s j = 110 ∧ ∃ g ∈ e.gone.toL, keyIn d.set.toL g ∧ ¬ keyIn s.toL g := by
  obtain ⟨_, he0, h3, _, _⟩ := joinE_ok hm
  have hd := chkD_ok h.okD
  have he := chkD_ok he0
  obtain ⟨h1, g, hg, hn⟩ := applyE_110 h.okS (hj.ok h.okD he0 hjn.1 hjn.2) (by rw [few_nl, ← two_ways h ht he0 hj, ← few_nl]; exact hk.few) hl
  refine ⟨h1, g, ?_⟩
  rw [hj.gone, jG_mem hd.gone he.gone (nS_rise he.set)] at hg
  rcases hg with hg | ⟨⟨hg, _⟩, _⟩
  · refine ⟨hg, ?_, hn⟩
    rcases (keyT h ht g).1 (hk.gone g hg) with hx | ⟨hx, _⟩
    · exact hx
    · exact (hn hx).elim
  · exact (hn (h.gone g hg)).elim
end
theorem LsAlk.of {a b : LT VT} (h : a.nl = b.nl) : LsAlk a b := by
  have l1 : a.n = b.n := by have := congrArg List.length h; simpa [nl_len] using this
  refine ⟨l1.symm, fun j hj => ?_⟩
  have := congrArg (fun l => l[j]?) h
  simp only [LT.nl, List.getElem?_map, LT.toL_get a hj, LT.toL_get b (show j < b.n by omega), Option.map_some, Option.some.injEq] at this
  exact (norm_to this).cell
end Go.Proofs.Ytckopbkhpbhljaa

namespace Go.Proofs.Ytckopbkhpbhljaa
open Go.RowKit
set_option maxRecDepth 8000
theorem step_callG {ops : Array Oper} {o : Oper} {a : Act} {w : World} {K : Act → World → Prop} {Q : Exit → Act → World → Prop} {E : Prop}
    (hw : Region.wanted o (yielded ops a.tmps) = true) (f : Nat) (xs : Array Operand) (ts : Array TypeId) (hop : o.op = Op.call { callee := Callee.value (Operand.func f), args := xs, argTypes := ts })
    (F : Func) (hF : Try.prog.funcs[f]? = some F) (hN : (F.name == "runtime.NumGoroutine") = false) (hB : F.body.isNone = false) (vs : Array Value) (hvl : xs.toList.map a.eval = vs.toList) (R : Ending → World → Prop) (hC : Calls Try.prog f vs w R) (hK : ∀ e w', R e w' → ∃ v, e = .returned v ∧ K (a.put o.dst v) w') :
    if Region.wanted o (yielded ops a.tmps) = true then Oper.wp Try.prog o a w K Q else E := by
  rw [if_pos hw]
  have hvs : xs.map a.eval = vs := by
    obtain ⟨xl⟩ := xs
    obtain ⟨vl⟩ := vs
    simp only at hvl
    rw [List.map_toArray, hvl]
  have hrun : (execOp a.eval o).run Try.prog w = .ok (.enter f vs) w := by
    have h1 : ¬ F.name = "runtime.NumGoroutine" := by simpa using hN
    have h2 : ¬ F.body = none := by intro h; rw [h] at hB; cases hB
    simp [execOp, hop, resolve, invoke, hvs, Deferred.ofValue, Act.eval, callFunc, Result.andThen, go_sem, hF, h1, h2]
  unfold Oper.wp
  rw [hrun, Oper.upon_enter]
  refine hC.mono fun e w' h => ?_
  obtain ⟨v, rfl, hk⟩ := hK e w' h
  exact hk

set_option maxHeartbeats 2000000 in
theorem made_any (l : LT VT) (g : ByteArray) (w : World) (S : Nat → Prop) (hl : LT.In elCell w S l) :
    Calls Try.prog 20 #[.slice l.p l.n l.c, .string g] w fun e w' => ∃ r : Bool, e = .returned (.bool r) ∧ (r = true ↔ keyIn l.toL g) ∧ w' = w := by
  have hnn := hl.nn
  have H := hid hl
  clear hl
  go_enter Try.func20, Try.ntmps20
  go_wp2_with fail
  go_loopw [5] (fun x wr => ∃ k : Nat, k ≤ l.n ∧ x = .int .i64 (k : Int) ∧ (∀ q, q < k → (l.item q).text ≠ g) ∧ wr = w) (fun x _ => l.n - (intOf x).toNat)
  case atStart => exact ⟨0, Nat.zero_le _, rfl, fun q hq => absurd hq (by omega), rfl⟩
  case round =>
    obtain ⟨k, hk, rfl, hno, rfl⟩ := hrel
    have HNo := hid hno
    clear hno
    by_cases hlt : k < l.n
    · have hlt' : (k : Int) < (l.n : Int) := by omega
      obtain ⟨b1, o1, hp, _, hl1, ha⟩ := H.out.at_ (by omega)
      have a0 : wr.cell? ⟨b1, o1 + k * 2, none⟩ = some (.string (l.item k).text) := ha k hlt 0 _ rfl
      rw [hp]
      clear ha hp
      by_cases hs : (l.item k).text = g
      · have HY : Hid (keyIn l.toL g) := ⟨l.item k, toL_mem l hlt, hs⟩
        rw [hs] at a0
        clear hs
        go_wp2
        exact bodyPost_ret (v := .bool true) (by simp [results, Try.results20, go_sem]) rfl ⟨true, rfl, ⟨fun _ => HY.out, fun _ => rfl⟩, rfl⟩
      · have HS := hid hs
        have hsb := str_ne hs
        clear hs
        go_wp2
        go_roundw
        case rel =>
          refine ⟨k + 1, by omega, by go_num, fun q hq => ?_, by first | rfl | trivial⟩
          by_cases hqk : q < k
          · exact HNo.out q hqk
          · obtain rfl : q = k := by omega
            exact HS.out
        case measure => simp [intOf]; omega
    · obtain rfl : k = l.n := by omega
      have HN : Hid (¬ keyIn l.toL g) := by
        rintro ⟨c, hc, e⟩
        obtain ⟨j, hj, rfl⟩ := LT.mem_toL hc
        exact HNo.out j hj e
      go_wp2
      exact bodyPost_ret (v := .bool false) (by simp [results, Try.results20, go_sem]) rfl ⟨false, rfl, ⟨fun h => (by cases h), fun h => (HN.out h).elim⟩, rfl⟩
/-- two deltas in a row -/
def twoD (b : Nat) (d e : DT) : LT DT := ⟨some ⟨b, 0, none⟩, 2, 2, fun j => if j = 0 then d else e⟩
theorem twoD_in {W : World} {b : Nat} {d e : DT} {S : Nat → Prop} (h : Box W b #[.int .i64 d.num, .slice d.set.p d.set.n d.set.c, .slice d.gone.p d.gone.n d.gone.c, .int .i64 e.num, .slice e.set.p e.set.n e.set.c, .slice e.gone.p e.gone.n e.gone.c] 30) (hb : S b) (hd : DT.In W S d) (he : DT.In W S e) : LT.In elD W S (twoD b d e) := by
  refine ⟨fun _ => ⟨b, 0, rfl, hb, h.lt, fun j hj r u hu => ?_⟩, fun j hj => ?_, by show 2 ≤ 2; omega, by show 2 ≤ _; omega, by show 2 ≤ maxLen; simp [maxLen], fun h => by cases h⟩
  · have hj3 : j < 2 := hj
    match j, hj3, r, hu with
    | 0, _, 0, hu => obtain rfl : _ = u := Option.some.inj hu; exact h.cell 0
    | 0, _, 1, hu => obtain rfl : _ = u := Option.some.inj hu; exact h.cell 1
    | 0, _, 2, hu => obtain rfl : _ = u := Option.some.inj hu; exact h.cell 2
    | 1, _, 0, hu => obtain rfl : _ = u := Option.some.inj hu; exact h.cell 3
    | 1, _, 1, hu => obtain rfl : _ = u := Option.some.inj hu; exact h.cell 4
    | 1, _, 2, hu => obtain rfl : _ = u := Option.some.inj hu; exact h.cell 5
  · have hj3 : j < 2 := hj
    match j, hj3 with
    | 0, _ => exact hd
    | 1, _ => exact he
theorem CSz.apply {sn : Int} {s v : LT VT} {d : DT} (hs : CSz s) (hd : DSz d) (h0 : applyE sn s d = 0) (hn : v.n = (aSet s d).length) (ha : ∀ j, j < v.n → VT.Alike ((aSet s d).getD j zC) (v.item j)) : CSz v := by
  have hk : (aSet s d).length ≤ 64 := (applyE_ok.1 h0).few
  refine ⟨by omega, fun j hj => ?_⟩
  have h1 := ha j hj
  have hj2 : j < (aSet s d).length := by omega
  rw [show (aSet s d).getD j zC = (aSet s d)[j] by simp [hj2]] at h1
  rw [h1.total]
  have hm : (aSet s d)[j] ∈ aSet s d := List.getElem_mem hj2
  rcases ovL_mem hm with hm | hm
  · obtain ⟨i, hi, e1⟩ := LT.mem_toL (woL_mem hm)
    rw [← e1]; exact hs.item i hi
  · obtain ⟨i, hi, e1⟩ := LT.mem_toL hm
    rw [← e1]; exact hd.item i hi
/-- Apply, in one word -/
theorem apply_one (sn : Int) (s : LT VT) (d : DT) (V : World) (Q : Nat → Prop) (hs : LT.In elCell V Q s) (h0 : -9223372036854775808 ≤ sn) (h1 : sn ≤ 9223372036854775807) (hd : DT.In V Q d) (hQ : ∀ k, Q k → k < V.heap.size) (zs : CSz s) (zd : DSz d) :
    Calls Try.prog 14 #[.agg #[.int .i64 sn, .slice s.p s.n s.c], .agg #[.int .i64 d.num, .slice d.set.p d.set.n d.set.c, .slice d.gone.p d.gone.n d.gone.c]] V fun r w' => Below V.heap.size V w' ∧ ∃ (vn : Int) (v : LT VT) (c : Int), r = .returned (.tuple #[.agg #[.int .i64 vn, .slice v.p v.n v.c], .int .i64 c]) ∧ LT.In elCell w' (fun k => V.heap.size ≤ k) v ∧ c = (applyE sn s d : Int) ∧ (c = 0 → vn = d.num ∧ Apd s d v ∧ CSz v) ∧ -9223372036854775808 ≤ vn ∧ vn ≤ 9223372036854775807 ∧ CSz v := by
  refine (apply_any sn s d V Q hs h0 h1 hd hQ ⟨zs.n, zd.set, zd.gone⟩ ⟨zs.item, zd.item⟩).mono ?_
  rintro r w' ⟨p1, p2, p3⟩
  refine ⟨p1, ?_⟩
  by_cases he : applyE sn s d = 0
  · obtain ⟨v, e1, e2, e3, e4⟩ := p3 he
    have hz := zs.apply zd he e2 e3
    exact ⟨d.num, v, 0, e1, e4, by rw [he]; rfl, fun _ => ⟨rfl, Apd.of e2 e3 e4, hz⟩, hd.n0, hd.n1, hz⟩
  · exact ⟨0, ⟨none, 0, 0, fun _ => zC⟩, (applyE sn s d : Int), p2 he, LT.In.none_ _ _ _ none 0 _ (Nat.zero_le _) (fun _ => rfl), rfl, fun h => (he (by omega)).elim, by omega, by omega, ⟨by show 0 ≤ 10000; omega, fun j hj => absurd hj (by show ¬ j < 0; omega)⟩⟩
/-- Join, in one word -/
theorem join_one (a b : DT) (V : World) (Q : Nat → Prop) (ha : DT.In V Q a) (hb : DT.In V Q b) (hQ : ∀ k, Q k → k < V.heap.size) (sa : DSz a) (sb : DSz b) :
    Calls Try.prog 19 #[.agg #[.int .i64 a.num, .slice a.set.p a.set.n a.set.c, .slice a.gone.p a.gone.n a.gone.c], .agg #[.int .i64 b.num, .slice b.set.p b.set.n b.set.c, .slice b.gone.p b.gone.n b.gone.c]] V fun r w' => Below V.heap.size V w' ∧ ∃ (u : DT) (c : Int), r = .returned (.tuple #[.agg #[.int .i64 u.num, .slice u.set.p u.set.n u.set.c, .slice u.gone.p u.gone.n u.gone.c], .int .i64 c]) ∧ DT.In w' (fun k => V.heap.size ≤ k) u ∧ c = (joinE a b : Int) ∧ (c = 0 → Jnd a b u ∧ u.set.n ≤ 64 ∧ u.gone.n ≤ 64) ∧ DSz u := by
  refine (join_any a b V Q ha hb hQ ⟨sa.set, sa.gone, sb.set, sb.gone⟩ ⟨sa.item, sb.item⟩).mono ?_
  rintro r w' ⟨h1, h2, h3⟩
  refine ⟨h1, ?_⟩
  by_cases h0 : joinE a b = 0
  · obtain ⟨u, e1, e2, e3⟩ := h3 h0
    have hk := joinE_ok h0
    have hn : u.set.n = (jSet a b).length := e2.sn
    have hg : u.gone.n = (jAll a b).length := e2.gn
    exact ⟨u, 0, e1, e3, by rw [h0]; rfl, fun _ => ⟨Jnd.of e2 e3, by omega, by omega⟩, sa.join sb h0 e2⟩
  · exact ⟨⟨0, ⟨none, 0, 0, fun _ => zC⟩, ⟨none, 0, 0, fun _ => ⟨#[]⟩⟩⟩, (joinE a b : Int), h2 h0, ⟨LT.In.none_ _ _ _ none 0 _ (Nat.zero_le _) (fun _ => rfl), LT.In.none_ _ _ _ none 0 _ (Nat.zero_le _) (fun _ => rfl), by show (-9223372036854775808 : Int) ≤ 0; omega, by show (0 : Int) ≤ 9223372036854775807; omega⟩, rfl, fun h => (h0 (by omega)).elim, ⟨by show 0 ≤ 10000; omega, by show 0 ≤ 10000; omega, fun j hj => absurd hj (by show ¬ j < 0; omega)⟩⟩
end Go.Proofs.Ytckopbkhpbhljaa
