import Derived.Test.YtkfcilandmhomaaDoorFdQ
namespace Go.Proofs.YtkfcilandmhomaaDoor
open Go.RowKit
set_option maxRecDepth 8000
def opE (A : AK) (o : OpD) : Int := doesE A o.kind o.name o.n o.zs.length
def opK (A : AK) (o : OpD) : AK := doesK A o.kind o.name o.n o.after o.zs o.K
def opC (o : OpD) : Int := if o.kind = 1 then (o.zs.length : Int) + 1 else 1
/-- the disk without rigs behind the script's first calls -/
def Fst (P : LT OpD) : Nat → AK
  | 0 => A0
  | j + 1 => opK (Fst P j) (P.item j)
def AK.Free (A : AK) : Prop := A.Up ∧ A.fails = 0
def AK.lf (A : AK) (l : Int) : AK := { A with left := l }
theorem free_beg {A : AK} (h : A.Free) (s : ByteArray) : begK A s = A := by
  unfold begK
  rw [if_neg (fun e => e.2.2 h.2)]
theorem free_begA {A : AK} (h : A.Free) (s : ByteArray) : begA A s = if nmB s = false then 102 else 0 := by
  unfold begA
  rw [if_neg (show ¬ A.down = true by rw [h.1.1]; simp), if_pos h.2]
theorem free_st {A : AK} (h : A.Free) (o : OpD) (hk : 1 ≤ o.kind ∧ o.kind ≤ 4) : (opK A o).Free := by
  obtain ⟨u1, u2, _⟩ := rig_st h.1 hk o.name o.n o.after o.zs o.K
  exact ⟨u1, u2.trans (by rw [free_beg h]; exact h.2)⟩
theorem kinds {k : Int} (h : 1 ≤ k ∧ k ≤ 4) : k = 1 ∨ k = 2 ∨ k = 3 ∨ k = 4 := by omega
theorem opE_1 (A : AK) (o : OpD) (h : o.kind = 1) : opE A o = appA A o.name o.zs.length ∧ opK A o = appK A o.name o.zs := by
  unfold opE opK doesE doesK
  rw [h]
  exact ⟨rfl, rfl⟩
theorem opE_2 (A : AK) (o : OpD) (h : o.kind = 2) : opE A o = chA A o.name ∧ opK A o = syncK A o.name := by
  unfold opE opK doesE doesK
  rw [h]
  exact ⟨rfl, rfl⟩
theorem opE_3 (A : AK) (o : OpD) (h : o.kind = 3) : opE A o = chA A o.name ∧ opK A o = trimK A o.name o.n := by
  unfold opE opK doesE doesK
  rw [h]
  exact ⟨rfl, rfl⟩
theorem opE_4 (A : AK) (o : OpD) (h : o.kind = 4) : opE A o = chA A o.name ∧ opK A o = rmK A o.name := by
  unfold opE opK doesE doesK
  rw [h]
  exact ⟨rfl, rfl⟩
/-- where a disk without rigs does it, the name is a file's; and it is there -/
theorem ok_of {F : AK} (h : F.Free) {o : OpD} (hk : 1 ≤ o.kind ∧ o.kind ≤ 4) (h0 : opE F o = 0) : nmB o.name = true ∧ (o.kind = 1 → apF F o.name o.zs.length = false) ∧ (o.kind ≠ 1 → (lkK F o.name).isSome = true) := by
  have hb := free_begA h o.name
  cases hn : nmB o.name with
  | false =>
    exfalso
    rw [hn, if_pos rfl] at hb
    obtain ⟨d1, d2⟩ := up_ch h.1 o.name
    rw [hb, if_neg (by decide)] at d2
    rcases kinds hk with e | e | e | e
    · rw [(opE_1 F o e).1] at h0
      unfold appA at h0
      rw [hb, if_neg (by decide)] at h0
      exact absurd h0 (by decide)
    · rw [(opE_2 F o e).1, d2] at h0
      exact absurd h0 (by decide)
    · rw [(opE_3 F o e).1, d2] at h0
      exact absurd h0 (by decide)
    · rw [(opE_4 F o e).1, d2] at h0
      exact absurd h0 (by decide)
  | true =>
    rw [hn, if_neg (by decide)] at hb
    obtain ⟨d1, d2⟩ := up_ch h.1 o.name
    rw [hb, if_pos rfl] at d2
    refine ⟨rfl, fun e => ?_, fun e => ?_⟩
    · rw [(opE_1 F o e).1] at h0
      unfold appA at h0
      rw [hb, if_pos rfl] at h0
      cases hf : apF F o.name o.zs.length with
      | false => rfl
      | true => rw [hf, if_pos rfl] at h0; exact absurd h0 (by decide)
    · have hc : chA F o.name = 0 := by
        rcases kinds hk with e1 | e1 | e1 | e1
        · exact absurd e1 e
        · rw [← (opE_2 F o e1).1]; exact h0
        · rw [← (opE_3 F o e1).1]; exact h0
        · rw [← (opE_4 F o e1).1]; exact h0
      rw [d2] at hc
      cases hf : (lkK F o.name).isSome with
      | true => rfl
      | false => rw [hf, if_neg (by decide)] at hc; exact absurd hc (by decide)
theorem lf_beg {F : AK} (h : F.Free) (l : Int) (s : ByteArray) : begA (F.lf l) s = begA F s ∧ begK (F.lf l) s = F.lf l := by
  constructor
  · rfl
  · unfold begK
    rw [if_neg (fun e => e.2.2 h.2)]
theorem lf_pay (F : AK) {l : Int} (hl : 0 ≤ l) {c : Int} (hc : c ≤ l) : payA (F.lf l) c = 0 ∧ payK (F.lf l) c = F.lf (l - c) ∧ payM (F.lf l) c = c := by
  unfold payA payK payM
  rw [if_pos (show (F.lf l).left = -1 ∨ c ≤ (F.lf l).left from .inr hc), if_neg (show ¬ (F.lf l).left = -1 by show ¬ l = -1; omega), if_pos (show c ≤ (F.lf l).left from hc), if_pos (show (F.lf l).left = -1 ∨ c ≤ (F.lf l).left from .inr hc)]
  exact ⟨rfl, rfl, rfl⟩
theorem lf_fall (F : AK) {l : Int} (hl : 0 ≤ l) {c : Int} (hc : l < c) : payA (F.lf l) c = 100 ∧ payK (F.lf l) c = { F with down := true, left := -1, fails := 0 } ∧ payM (F.lf l) c = l := by
  have h1 : ¬ ((F.lf l).left = -1 ∨ c ≤ (F.lf l).left) := by
    show ¬ (l = -1 ∨ c ≤ l)
    omega
  unfold payA payK payM
  rw [if_neg h1, if_neg (fun e => h1 (.inl e)), if_neg (fun e => h1 (.inr e)), if_neg h1]
  exact ⟨rfl, rfl, rfl⟩
/-- a call that the armed disk can pay for -/
theorem arm_ok {F : AK} (h : F.Free) {o : OpD} (hk : 1 ≤ o.kind ∧ o.kind ≤ 4) (h0 : opE F o = 0) {l : Int} (hl : 0 ≤ l) (hc : opC o ≤ l) : opE (F.lf l) o = 0 ∧ opK (F.lf l) o = (opK F o).lf (l - opC o) := by
  obtain ⟨hn, hap, hlk⟩ := ok_of h hk h0
  obtain ⟨b1, b2⟩ := lf_beg h l o.name
  have hb : begA F o.name = 0 := by rw [free_begA h, hn]; rfl
  have hbk := free_beg h o.name
  rcases kinds hk with e | e | e | e
  · obtain ⟨e1, e2⟩ := opE_1 (F.lf l) o e
    obtain ⟨_, e4⟩ := opE_1 F o e
    have hC : opC o = (o.zs.length : Int) + 1 := by unfold opC; rw [if_pos e]
    rw [hC] at hc ⊢
    obtain ⟨p1, p2, p3⟩ := lf_pay F hl hc
    obtain ⟨q1, q2, q3⟩ := up_pay h.1.2 ((o.zs.length : Int) + 1)
    have hF : apF (F.lf l) o.name o.zs.length = false := hap e
    have hL : apL (F.lf l) o.name o.zs.length = apL F o.name o.zs.length := by unfold apL; rw [b2, hbk, p3, q3]
    have hK : appKs (F.lf l) o.name o.zs = appKs F o.name o.zs := by unfold appKs; rw [hL]; rfl
    constructor
    · rw [e1]
      unfold appA
      rw [b1, hb, if_pos rfl, hF, b2, p1]
      rfl
    · rw [e2, e4]
      unfold appK
      rw [b1, hb, if_pos rfl, hF, b2, p2, if_pos rfl, hap e, hbk, q2, hK]
      rfl
  all_goals
    have hne : o.kind ≠ 1 := by omega
    have hC : opC o = 1 := by unfold opC; rw [if_neg hne]
    rw [hC] at hc ⊢
    obtain ⟨p1, p2, _⟩ := lf_pay F hl hc
    obtain ⟨d1, d2⟩ := up_ch h.1 o.name
    have hs := hlk hne
    have hs' : (lkK (F.lf l) o.name).isSome = true := hs
    rw [hb, if_pos rfl, hs, if_pos rfl] at d2
    have c1 : chA (F.lf l) o.name = 0 := by
      unfold chA
      rw [b1, hb, if_pos rfl, hs', if_pos rfl, b2, p1]
    have c2 : chK (F.lf l) o.name = F.lf (l - 1) := by
      unfold chK
      rw [b1, if_pos ⟨hb, hs'⟩, b2, p2]
  · obtain ⟨e1, e2⟩ := opE_2 (F.lf l) o e
    refine ⟨e1.trans c1, ?_⟩
    rw [e2, (opE_2 F o e).2]
    unfold syncK
    rw [c1, c2, d2, d1, hbk, if_pos rfl, if_pos rfl]
    unfold putK
    rw [show lkK (F.lf l) o.name = lkK F o.name from rfl]
    split <;> rfl
  · obtain ⟨e1, e2⟩ := opE_3 (F.lf l) o e
    refine ⟨e1.trans c1, ?_⟩
    rw [e2, (opE_3 F o e).2]
    unfold trimK
    rw [c1, c2, d2, d1, hbk, if_pos rfl, if_pos rfl]
    unfold putK
    rw [show lkK (F.lf l) o.name = lkK F o.name from rfl]
    split <;> rfl
  · obtain ⟨e1, e2⟩ := opE_4 (F.lf l) o e
    refine ⟨e1.trans c1, ?_⟩
    rw [e2, (opE_4 F o e).2]
    unfold rmK
    rw [c1, c2, d2, d1, hbk, if_pos rfl, if_pos rfl]
    rfl
/-- a call that the armed disk can't pay for: it falls; an Append leaves its first bytes, all else nothing -/
theorem arm_no {F : AK} (h : F.Free) {o : OpD} (hk : 1 ≤ o.kind ∧ o.kind ≤ 4) (h0 : opE F o = 0) {l : Int} (hl : 0 ≤ l) (hc : l < opC o) :
    opE (F.lf l) o = 100 ∧ (opK (F.lf l) o).down = true ∧ (o.kind = 1 → appA F o.name l.toNat = 0 ∧ (opK (F.lf l) o).ks = (appK F o.name (o.zs.take l.toNat)).ks) ∧ (o.kind ≠ 1 → (opK (F.lf l) o).ks = F.ks) := by
  obtain ⟨hn, hap, hlk⟩ := ok_of h hk h0
  obtain ⟨b1, b2⟩ := lf_beg h l o.name
  have hb : begA F o.name = 0 := by rw [free_begA h, hn]; rfl
  have hbk := free_beg h o.name
  rcases kinds hk with e | e | e | e
  · obtain ⟨e1, e2⟩ := opE_1 (F.lf l) o e
    have hC : opC o = (o.zs.length : Int) + 1 := by unfold opC; rw [if_pos e]
    rw [hC] at hc
    obtain ⟨p1, p2, p3⟩ := lf_fall F hl hc
    obtain ⟨n, rfl⟩ : ∃ n : Nat, l = (n : Int) := ⟨l.toNat, by omega⟩
    have hnl : n ≤ o.zs.length := by omega
    have hF : apF (F.lf n) o.name o.zs.length = false := hap e
    have hL : apL (F.lf n) o.name o.zs.length = n := by unfold apL; rw [b2, p3]; omega
    have hln : (o.zs.take n).length = n := by rw [List.length_take]; omega
    obtain ⟨q1, q2, q3⟩ := up_pay h.1.2 ((n : Int) + 1)
    have hF2 : apF F o.name n = false := by
      have h1 := hap e
      unfold apF at h1 ⊢
      revert h1
      split
      · intro h1
        have h2 := of_decide_eq_false h1
        exact decide_eq_false fun x => h2 (x.elim (fun y => .inl (by omega)) .inr)
      · intro h1
        have h2 := of_decide_eq_false h1
        exact decide_eq_false (by omega)
    have hL2 : apL F o.name (o.zs.take n).length = n := by unfold apL; rw [hbk, hln, q3]; omega
    have hK : appKs (F.lf n) o.name o.zs = appKs F o.name (o.zs.take n) := by
      unfold appKs
      rw [hL, hL2, List.take_take, Nat.min_self]
      rfl
    refine ⟨?_, ?_, fun _ => ⟨?_, ?_⟩, fun x => absurd e x⟩
    · rw [e1]
      unfold appA
      rw [b1, hb, if_pos rfl, hF, b2, p1]
      rfl
    · rw [e2]
      unfold appK
      rw [b1, hb, if_pos rfl, hF, b2, p2]
      rfl
    · show appA F o.name n = 0
      unfold appA
      rw [hb, if_pos rfl, hF2, hbk, q1]
      rfl
    · rw [e2]
      show _ = (appK F o.name (o.zs.take n)).ks
      unfold appK
      rw [b1, hb, if_pos rfl, hF, b2, p2, if_pos rfl, hln, hF2, hbk, q2, hK]
      rfl
  all_goals
    have hne : o.kind ≠ 1 := by omega
    have hC : opC o = 1 := by unfold opC; rw [if_neg hne]
    rw [hC] at hc
    obtain ⟨p1, p2, _⟩ := lf_fall F hl hc
    have hs' : (lkK (F.lf l) o.name).isSome = true := hlk hne
    have c1 : chA (F.lf l) o.name = 100 := by
      unfold chA
      rw [b1, hb, if_pos rfl, hs', if_pos rfl, b2, p1]
    have c2 : chK (F.lf l) o.name = { F with down := true, left := -1, fails := 0 } := by
      unfold chK
      rw [b1, if_pos ⟨hb, hs'⟩, b2, p2]
  · obtain ⟨e1, e2⟩ := opE_2 (F.lf l) o e
    have e3 : opK (F.lf l) o = { F with down := true, left := -1, fails := 0 } := by
      rw [e2]
      unfold syncK
      rw [c1, c2, if_neg (by decide)]
    rw [e3]
    exact ⟨e1.trans c1, rfl, fun x => absurd x hne, fun _ => rfl⟩
  · obtain ⟨e1, e2⟩ := opE_3 (F.lf l) o e
    have e3 : opK (F.lf l) o = { F with down := true, left := -1, fails := 0 } := by
      rw [e2]
      unfold trimK
      rw [c1, c2, if_neg (by decide)]
    rw [e3]
    exact ⟨e1.trans c1, rfl, fun x => absurd x hne, fun _ => rfl⟩
  · obtain ⟨e1, e2⟩ := opE_4 (F.lf l) o e
    have e3 : opK (F.lf l) o = { F with down := true, left := -1, fails := 0 } := by
      rw [e2]
      unfold rmK
      rw [c1, c2, if_neg (by decide)]
    rw [e3]
    exact ⟨e1.trans c1, rfl, fun x => absurd x hne, fun _ => rfl⟩
/-- a call on a disk that is down -/
theorem down_does {A : AK} (hd : A.down = true) {o : OpD} (hk : 1 ≤ o.kind ∧ o.kind ≤ 4) (hn : nmB o.name = true) : opE A o = 100 ∧ opK A o = A := by
  have hb : begA A o.name = 100 := by
    unfold begA
    rw [hn, if_neg (by decide), if_pos hd]
  have hbk : begK A o.name = A := by
    unfold begK
    rw [if_neg (fun e => by rw [hd] at e; simp at e)]
  have c1 : chA A o.name = 100 := by
    unfold chA
    rw [hb, if_neg (by decide)]
  have c2 : chK A o.name = A := by
    unfold chK
    rw [hb, if_neg (fun e => absurd e.1 (by decide)), hbk]
  rcases kinds hk with e | e | e | e
  · obtain ⟨e1, e2⟩ := opE_1 A o e
    refine ⟨e1.trans ?_, e2.trans ?_⟩
    · unfold appA
      rw [hb, if_neg (by decide)]
    · unfold appK
      rw [hb, if_neg (by decide), hbk]
  · obtain ⟨e1, e2⟩ := opE_2 A o e
    refine ⟨e1.trans c1, e2.trans ?_⟩
    unfold syncK
    rw [c1, if_neg (by decide), c2]
  · obtain ⟨e1, e2⟩ := opE_3 A o e
    refine ⟨e1.trans c1, e2.trans ?_⟩
    unfold trimK
    rw [c1, if_neg (by decide), c2]
  · obtain ⟨e1, e2⟩ := opE_4 A o e
    refine ⟨e1.trans c1, e2.trans ?_⟩
    unfold rmK
    rw [c1, if_neg (by decide), c2]
theorem fst_free (P : LT OpD) (hk : ∀ j, j < P.n → 1 ≤ (P.item j).kind ∧ (P.item j).kind ≤ 4) : ∀ i, i ≤ P.n → (Fst P i).Free
  | 0, _ => ⟨⟨rfl, rfl⟩, rfl⟩
  | i + 1, h => free_st (fst_free P hk i (by omega)) (P.item i) (hk i (by omega))
end Go.Proofs.YtkfcilandmhomaaDoor
