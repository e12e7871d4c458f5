import Derived.Test.YtfonicphdejdlaaGreatPack15
import Derived.Test.YtfonicphdejdlaaGreatWrM
import Derived.Test.YtfonicphdejdlaaGreatPack9
import Derived.Test.YtfonicphdejdlaaGreatPack20
import Derived.Test.YtfonicphdejdlaaGreatWpI
import Derived.Test.YtfonicphdejdlaaGreatPack5
namespace Go.Proofs.YtfonicphdejdlaaGreat
open Go.RowKit
set_option maxRecDepth 8000

/-- bytes -/
theorem Byt.tail {x : Int} {L : List Int} (h : Byt (x :: L)) : Byt L := fun y hy => h y (List.mem_cons_of_mem _ hy)
theorem Byt.right {A B : List Int} (h : Byt (A ++ B)) : Byt B := fun y hy => h y (List.mem_append_right _ hy)
theorem Byt.left {A B : List Int} (h : Byt (A ++ B)) : Byt A := fun y hy => h y (List.mem_append_left _ hy)
theorem bind_ok {α β : Type} {s : RS α} {g : α → RS β} {L R : List Int} {y : β} (h : bindS s g L = .ok (y, R)) : ∃ a M, s L = .ok (a, M) ∧ g a M = .ok (y, R) := by
  unfold bindS at h
  cases hs : s L with
  | error e => rw [hs] at h; cases h
  | ok z =>
    obtain ⟨a, M⟩ := z
    rw [hs] at h
    exact ⟨a, M, rfl, h⟩
theorem ret_ok {α : Type} {x y : α} {L R : List Int} (h : retS x L = .ok (y, R)) : y = x ∧ R = L := by
  unfold retS at h
  cases h
  exact ⟨rfl, rfl⟩
theorem take_ok {n : Nat} {L R l : List Int} (h : takeS n L = .ok (l, R)) : L = l ++ R ∧ l.length = n := by
  unfold takeS at h
  split at h
  · rename_i hn
    cases h
    exact ⟨(List.take_append_drop n L).symm, by simp [hn]⟩
  · cases h
theorem end_ok {n b m : Nat} {i : Bool} {L R : List Int} (h : endS n b i L = .ok (m, R)) : m = n ∧ R = L ∧ i = false ∧ n ≤ b := by
  unfold endS at h
  split at h
  · cases h
  rename_i h1
  split at h
  · cases h
  rename_i h2
  obtain ⟨a, b⟩ := ret_ok h
  exact ⟨a, b, by simpa using h1, by omega⟩
theorem numG_sound (bound : Nat) : ∀ k i u L m R, numG bound k i u L = .ok (m, R) → u < 2 ^ (7 * i) → Byt L → ∃ j, m = u + j * 2 ^ (7 * i) ∧ L = grpB j ++ R ∧ (0 < i → 1 ≤ j) ∧ m ≤ bound := by
  intro k
  induction k with
  | zero => intro i u L m R h; cases h
  | succ k ih =>
    intro i u L m R h hu hL
    cases L with
    | nil => rw [numG_nil] at h; cases h
    | cons x L =>
      obtain ⟨hx0, hx1⟩ := hL x (List.mem_cons_self ..)
      obtain ⟨C, rfl⟩ := Int.eq_ofNat_of_zero_le hx0
      by_cases hC : C < 128
      · rw [numG_lo hC] at h
        obtain ⟨h1, h2, h3, h4⟩ := end_ok h
        rw [or_plus hu, Nat.mod_eq_of_lt hC] at h1 h4
        refine ⟨C, h1, by rw [grpB_small hC, h2]; rfl, fun hi => ?_, by omega⟩
        have h5 : ¬ (0 < i ∧ C = 0) := by simpa using h3
        omega
      · rw [numG_hi hC, or_plus hu] at h
        have hm : C % 128 = C - 128 := by omega
        have hu2 : u + C % 128 * 2 ^ (7 * i) < 2 ^ (7 * (i + 1)) := by
          rw [pow7]
          have hp : 0 < 2 ^ (7 * i) := Nat.two_pow_pos _
          have hq : C % 128 * 2 ^ (7 * i) ≤ 127 * 2 ^ (7 * i) := Nat.mul_le_mul (by omega) (Nat.le_refl _)
          omega
        obtain ⟨j, h1, h2, h3, h4⟩ := ih (i + 1) _ L m R h hu2 hL.tail
        have h3 := h3 (by omega)
        refine ⟨(C - 128) + 128 * j, ?_, ?_, fun _ => by omega, h4⟩
        · rw [h1, hm, pow7, Nat.add_mul]
          have : j * (128 * 2 ^ (7 * i)) = 128 * j * 2 ^ (7 * i) := by rw [← Nat.mul_assoc, Nat.mul_comm j 128]
          omega
        · rw [grpB_great (by omega), h2]
          have e1 : ((C - 128) + 128 * j) % 128 + 128 = C := by omega
          have e2 : ((C - 128) + 128 * j) / 128 = j := by omega
          rw [e1, e2]
          rfl
theorem num_ok {bound m : Nat} {L R : List Int} (h : numS bound L = .ok (m, R)) (hL : Byt L) : L = grpB m ++ R ∧ m ≤ bound := by
  obtain ⟨j, h1, h2, _, h4⟩ := numG_sound bound 5 0 0 L m R h (by decide) hL
  have : m = j := by simpa using h1
  subst this
  exact ⟨h2, h4⟩
theorem key_ok {k : ByteArray} {L R : List Int} (h : keyS L = .ok (k, R)) (hL : Byt L) : L = keyB k ++ R ∧ k.size ≤ 12 := by
  obtain ⟨n, M, h1, h⟩ := bind_ok h
  obtain ⟨h2, h3⟩ := num_ok h1 hL
  obtain ⟨l, M2, h4, h⟩ := bind_ok h
  obtain ⟨h5, h6⟩ := take_ok h4
  obtain ⟨rfl, rfl⟩ := ret_ok h
  have hM : Byt M := by rw [h2] at hL; exact hL.right
  have hl : Byt l := by rw [h5] at hM; exact hM.left
  have hs : (strOf l).size = n := by rw [strOf_size, h6]
  refine ⟨?_, by omega⟩
  unfold keyB
  rw [hs, txt_strOf (fun x hx => ⟨(hl x hx).1, by have := (hl x hx).2; omega⟩), h2, h5, List.append_assoc]
theorem word_ok {u : Nat} {L R : List Int} (h : wordS L = .ok (u, R)) (hL : Byt L) : L = wordB u ++ R ∧ u < 4294967296 := by
  obtain ⟨l, M, h1, h⟩ := bind_ok h
  obtain ⟨h2, h3⟩ := take_ok h1
  obtain ⟨rfl, rfl⟩ := ret_ok h
  have hl : Byt l := by rw [h2] at hL; exact hL.left
  match l, h3 with
  | [a, b, c, d], _ =>
    have ha := hl a (by simp)
    have hb := hl b (by simp)
    have hc := hl c (by simp)
    have hd := hl d (by simp)
    refine ⟨?_, ?_⟩
    · rw [h2]
      congr 1
      simp only [wordB, wordN, List.getD_cons_zero, List.getD_cons_succ, List.cons.injEq, and_true]
      refine ⟨by omega, by omega, by omega, by omega⟩
    · simp only [wordN, List.getD_cons_zero, List.getD_cons_succ]
      omega
theorem first_ok {x : Int} {L R : List Int} (h : firstS x L = .ok ((), R)) : L = x :: R := by
  obtain ⟨l, M, h1, h⟩ := bind_ok h
  obtain ⟨h2, h3⟩ := take_ok h1
  split at h
  · rename_i h4
    obtain ⟨_, rfl⟩ := ret_ok h
    match l, h3 with
    | [a], _ =>
      simp at h4
      rw [h2, h4]
      rfl
  · cases h
theorem bytesAt_list (L : List Int) (a : Nat) (h : a ≤ L.length) : bytesAt (fun j => L.getD j 0) 0 a = L.take a := by
  apply List.ext_getElem
  · simp [bytesAt, h]
  · intro i h1 h2
    simp [bytesAt] at h1
    simp [bytesAt, List.getD_eq_getElem?_getD, List.getElem?_eq_getElem (show i < L.length by omega)]
theorem val_ok {t : VT} {L R : List Int} (h : valS L = .ok (t, R)) (hL : Byt L) : L = valB t ++ R ∧ (chk t 0 0).1 = 0 := by
  unfold valS at h
  cases hd : decS (fun j => L.getD j 0) L.length 3 0 0 0 with
  | error e => rw [hd] at h; cases h
  | ok z =>
    obtain ⟨t2, a, q⟩ := z
    rw [hd] at h
    cases h
    obtain ⟨h1, h2, h3, h4⟩ := dec_sound (f := fun j => L.getD j 0) (n := L.length) (fun j hj => by
      have := hL (L.getD j 0) (by simp [List.getD_eq_getElem?_getD, List.getElem?_eq_getElem hj])
      exact ⟨this.1, by omega⟩) 3 0 0 0 t a q hd
    have hc : (chk t 0 0).1 = 0 := by rw [h1]
    refine ⟨?_, hc⟩
    have e : valB t = L.take a := by
      unfold valB cleanT
      rw [if_pos hc, h4, Nat.sub_zero, bytesAt_list L a h3]
    rw [e, List.take_append_drop]
end Go.Proofs.YtfonicphdejdlaaGreat

namespace Go.Proofs.YtfonicphdejdlaaGreat
open Go.RowKit
set_option maxRecDepth 8000

theorem iter_ok {α σ : Type} {item : σ → RS α} {nx : σ → α → σ} {enc : α → List Int} {P : σ → α → Prop} (hI : ∀ s L y R, item s L = .ok (y, R) → Byt L → L = enc y ++ R ∧ P s y) : ∀ m s L ys s' R, iterS item nx m s L = .ok ((ys, s'), R) → Byt L → L = ys.flatMap enc ++ R ∧ ys.length = m ∧ s' = ys.foldl nx s ∧ ∀ (j : Nat) (y : α), ys[j]? = some y → P ((ys.take j).foldl nx s) y := by
  intro m
  induction m with
  | zero =>
    intro s L ys s' R h hL
    obtain ⟨h1, rfl⟩ := ret_ok h
    cases h1
    exact ⟨rfl, rfl, rfl, fun j y hj => by simp at hj⟩
  | succ m ih =>
    intro s L ys s' R h hL
    obtain ⟨⟨zs, s1⟩, M, h1, h⟩ := bind_ok h
    obtain ⟨x, M2, h2, h⟩ := bind_ok h
    obtain ⟨h3, rfl⟩ := ret_ok h
    simp only [Prod.mk.injEq] at h3
    obtain ⟨rfl, rfl⟩ := h3
    obtain ⟨a1, a2, a3, a4⟩ := ih s L zs s1 M h1 hL
    have hM : Byt M := by rw [a1] at hL; exact hL.right
    obtain ⟨b1, b2⟩ := hI s1 M x R h2 hM
    refine ⟨by rw [a1, b1]; simp, by simp [a2], by rw [a3]; simp, fun j y hj => ?_⟩
    by_cases hjl : j < zs.length
    · rw [List.getElem?_append_left hjl] at hj
      rw [List.take_append_of_le_length (by omega)]
      exact a4 j y hj
    · have hjm : j < (zs ++ [x]).length := by
        rcases Nat.lt_or_ge j (zs ++ [x]).length with h1 | h1
        · exact h1
        · rw [List.getElem?_eq_none h1] at hj; cases hj
      have he : j = zs.length := by simp only [List.length_append, List.length_singleton] at hjm hjl; omega
      subst he
      rw [List.getElem?_append_right (Nat.le_refl _)] at hj
      simp at hj
      subst hj
      rw [List.take_append_of_le_length (Nat.le_refl _), List.take_length, ← a3]
      exact b2
def lsB {α : Type} (enc : α → List Int) (ys : List α) : List Int := grpB ys.length ++ ys.flatMap enc
theorem list_ok {α σ : Type} {bound : Nat} {item : σ → RS α} {nx : σ → α → σ} {enc : α → List Int} {P : σ → α → Prop} (hI : ∀ s L y R, item s L = .ok (y, R) → Byt L → L = enc y ++ R ∧ P s y) {s : σ} {L R : List Int} {ys : List α} (h : listS bound item nx s L = .ok (ys, R)) (hL : Byt L) : L = lsB enc ys ++ R ∧ ys.length ≤ bound ∧ ∀ (j : Nat) (y : α), ys[j]? = some y → P ((ys.take j).foldl nx s) y := by
  obtain ⟨m, M, h1, h⟩ := bind_ok h
  obtain ⟨⟨zs, s1⟩, M2, h2, h⟩ := bind_ok h
  obtain ⟨h3, rfl⟩ := ret_ok h
  simp only at h3
  subst h3
  obtain ⟨a1, a2⟩ := num_ok h1 hL
  have hM : Byt M := by rw [a1] at hL; exact hL.right
  obtain ⟨b1, b2, _, b4⟩ := iter_ok hI m s M ys s1 R h2 hM
  refine ⟨?_, by omega, b4⟩
  unfold lsB
  rw [a1, b1, b2, List.append_assoc]
theorem range_getD' {α : Type} (d : α) (l : List α) (g : α → List Int) : ((List.range l.length).flatMap fun j => g (l.getD j d)) = l.flatMap g := by
  have e : (List.range l.length).map (fun j => l.getD j d) = l := by
    apply List.ext_getElem
    · simp
    · intro i h1 h2
      simp [List.getD_eq_getElem?_getD, List.getElem?_eq_getElem h2]
  have h := congrArg (fun z => z.flatMap g) e
  simpa [List.flatMap_map] using h
theorem listB_getD {α : Type} (d : α) (l : List α) (g : α → List Int) : listB g l.length (fun j => l.getD j d) = lsB g l := by
  unfold listB lsB
  rw [range_getD']
/-- a laid list's bytes -/
theorem isl_bytes {α : Type} {Al : α → α → Prop} {enc : α → List Int} {l : LT α} {ys : List α} (h : Isl Al l ys) (he : ∀ y u, Al y u → enc u = enc y) : listB enc l.n l.item = lsB enc ys := by
  obtain ⟨h1, h2⟩ := h
  unfold listB lsB
  rw [h1]
  congr 1
  have e : (List.range ys.length).map (fun j => enc (l.item j)) = ys.map enc := by
    apply List.ext_getElem
    · simp
    · intro i h3 h4
      simp at h3
      simp
      exact he _ _ (h2 i ys[i] (by rw [List.getElem?_eq_getElem h3]))
  rw [List.flatMap_def, List.flatMap_def, e]
theorem hop_ok {s : Unit} {x : Int} {L R : List Int} (h : hopI L = .ok (x, R)) (hL : Byt L) : L = hopB x ++ R ∧ (fun (_ : Unit) (x : Int) => 0 ≤ x ∧ x ≤ 9) s x := by
  obtain ⟨n, M, h1, h⟩ := bind_ok h
  obtain ⟨rfl, rfl⟩ := ret_ok h
  obtain ⟨a, b⟩ := num_ok h1 hL
  refine ⟨by unfold hopB; simpa using a, ?_⟩
  show (0 : Int) ≤ (n : Int) ∧ (n : Int) ≤ 9
  omega
theorem firstC_zero {g : Nat → Nat} : ∀ n, (∀ j, j < n → g j = 0) → firstC g n = 0 := by
  intro n
  induction n with
  | zero => intro _; rfl
  | succ n ih =>
    intro h
    show (if _ then _ else _) = 0
    rw [if_pos (ih fun j hj => h j (by omega))]
    exact h n (by omega)
theorem getD_get {α : Type} {d : α} {l : List α} {j : Nat} (h : j < l.length) : l[j]? = some (l.getD j d) := by
  simp [List.getD_eq_getElem?_getD, List.getElem?_eq_getElem h]
theorem rec_ok {r : RT} {L R : List Int} (h : recS L = .ok (r, R)) (hL : Byt L) : L = recB r ++ R ∧ chkRec r = 0 := by
  obtain ⟨k, M, h1, h⟩ := bind_ok h
  obtain ⟨v, M2, h2, h⟩ := bind_ok h
  obtain ⟨l, M3, h3, h⟩ := bind_ok h
  obtain ⟨rfl, rfl⟩ := ret_ok h
  obtain ⟨a1, a2⟩ := key_ok h1 hL
  have hM : Byt M := by rw [a1] at hL; exact hL.right
  obtain ⟨b1, b2⟩ := val_ok h2 hM
  have hM2 : Byt M2 := by rw [b1] at hM; exact hM.right
  obtain ⟨c1, c2, c3⟩ := list_ok (enc := hopB) (P := fun (_ : Unit) (x : Int) => 0 ≤ x ∧ x ≤ 9) (fun s _ _ _ h hL => hop_ok (s := s) h hL) h3 hM2
  refine ⟨?_, ?_⟩
  · unfold recB mkR
    simp only
    rw [listB_getD, a1, b1, c1]
    simp [List.append_assoc]
  · unfold chkRec mkR
    simp only
    rw [if_neg (by omega), if_neg (by simpa using b2), if_neg (by omega)]
    refine firstC_zero _ fun j hj => ?_
    obtain ⟨h4, h5⟩ := c3 j _ (getD_get (d := 0) hj)
    unfold chkLoop
    rw [if_neg (by omega)]
theorem recs_ok {ys : List RT} {L R : List Int} (h : recsS L = .ok (ys, R)) (hL : Byt L) : L = lsB recB ys ++ R ∧ ys.length ≤ 256 ∧ ∀ (j : Nat) (y : RT), ys[j]? = some y → chkRec y = 0 :=
  list_ok (P := fun (_ : Unit) y => chkRec y = 0) (fun _ _ _ _ h hL => rec_ok h hL) h hL
theorem recsL_ok {l : LT RT} {L R : List Int} (h : recsL L = .ok (l, R)) (hL : Byt L) : L = recsB l ++ R ∧ (l.n ≤ 256 ∧ ∀ j, j < l.n → chkRec (l.item j) = 0) := by
  obtain ⟨ys, M, h1, h⟩ := bind_ok h
  obtain ⟨rfl, rfl⟩ := ret_ok h
  obtain ⟨a, b, c⟩ := recs_ok h1 hL
  refine ⟨?_, b, fun j hj => c j _ (getD_get (d := zeroR) hj)⟩
  unfold recsB mkLT
  simp only
  rw [listB_getD]
  exact a
theorem logs_ok {ys : List (LT RT)} {L R : List Int} (h : logsL L = .ok (ys, R)) (hL : Byt L) : L = lsB recsB ys ++ R ∧ ys.length ≤ 4 ∧ ∀ (j : Nat) (y : LT RT), ys[j]? = some y → y.n ≤ 256 ∧ ∀ i, i < y.n → chkRec (y.item i) = 0 :=
  list_ok (P := fun (_ : Unit) (y : LT RT) => y.n ≤ 256 ∧ ∀ i, i < y.n → chkRec (y.item i) = 0) (fun _ _ _ _ h hL => recsL_ok h hL) h hL
theorem file_ok {s : Unit} {u : Nat × Nat} {L R : List Int} (h : fileS L = .ok (u, R)) (hL : Byt L) : L = fileB u ++ R ∧ (fun (_ : Unit) (u : Nat × Nat) => u.1 ≤ 65536 ∧ u.2 < 4294967296) s u := by
  obtain ⟨n, M, h1, h⟩ := bind_ok h
  obtain ⟨x, M2, h2, h⟩ := bind_ok h
  obtain ⟨rfl, rfl⟩ := ret_ok h
  obtain ⟨a1, a2⟩ := num_ok h1 hL
  have hM : Byt M := by rw [a1] at hL; exact hL.right
  obtain ⟨b1, b2⟩ := word_ok h2 hM
  refine ⟨?_, a2, b2⟩
  unfold fileB
  simp only
  rw [a1, b1, List.append_assoc]
/-- which key comes ahead of which -/
def rises (s : Option ByteArray) (k : ByteArray) : Prop := ∀ l, s = some l → Op.bytesLess l.toList k.toList = true
theorem rise_ok {s : Option ByteArray} {k : ByteArray} {L R : List Int} (h : riseS s L = .ok (k, R)) (hL : Byt L) : L = keyB k ++ R ∧ (k.size ≤ 12 ∧ rises s k) := by
  obtain ⟨k2, M, h1, h⟩ := bind_ok h
  obtain ⟨a1, a2⟩ := key_ok h1 hL
  cases s with
  | none =>
    obtain ⟨rfl, rfl⟩ := ret_ok (show retS k2 M = .ok (k, R) from h)
    exact ⟨a1, a2, fun l hl => by cases hl⟩
  | some l0 =>
    by_cases hc : Op.bytesLess l0.toList k2.toList = true
    · have h' : (if Op.bytesLess l0.toList k2.toList = true then retS k2 else failS 42) M = .ok (k, R) := h
      rw [if_pos hc] at h'
      obtain ⟨rfl, rfl⟩ := ret_ok h'
      exact ⟨a1, a2, fun l hl => by cases hl; exact hc⟩
    · have h' : (if Op.bytesLess l0.toList k2.toList = true then retS k2 else failS 42) M = .ok (k, R) := h
      rw [if_neg hc] at h'
      cases h'
theorem vals_ok {ys : List VT} {L R : List Int} (h : valsS L = .ok (ys, R)) (hL : Byt L) : L = lsB valB ys ++ R ∧ ys.length ≤ 6 ∧ ∀ (j : Nat) (y : VT), ys[j]? = some y → (chk y 0 0).1 = 0 :=
  list_ok (P := fun (_ : Unit) y => (chk y 0 0).1 = 0) (fun _ _ _ _ h hL => val_ok h hL) h hL
theorem cell_ok {s : Option ByteArray} {c : VT} {L R : List Int} (h : cellS s L = .ok (c, R)) (hL : Byt L) : L = cellB c ++ R ∧ (c.text.size ≤ 12 ∧ rises s c.text ∧ chkVals c = 0) := by
  obtain ⟨k, M, h1, h⟩ := bind_ok h
  obtain ⟨l, M2, h2, h⟩ := bind_ok h
  obtain ⟨rfl, rfl⟩ := ret_ok h
  obtain ⟨a1, a2, a3⟩ := rise_ok h1 hL
  have hM : Byt M := by rw [a1] at hL; exact hL.right
  obtain ⟨b1, b2, b3⟩ := vals_ok h2 hM
  refine ⟨?_, a2, a3, ?_⟩
  · unfold cellB mkC
    simp only [VT.text_mk, VT.n_mk, VT.item_mk]
    rw [listB_getD, a1, b1, List.append_assoc]
  · show (if 6 < l.length then 27 else firstC (fun q => (chk (l.getD q .nil) 0 0).1) l.length) = 0
    rw [if_neg (by omega)]
    exact firstC_zero _ fun j hj => b3 j _ (getD_get (d := .nil) hj)
theorem foldl_last {α : Type} (g : α → ByteArray) (ys : List α) (d : α) : ∀ j, 0 < j → j ≤ ys.length → (ys.take j).foldl (fun (_ : Option ByteArray) c => some (g c)) none = some (g (ys.getD (j - 1) d)) := by
  intro j hj hl
  obtain ⟨i, rfl⟩ : ∃ i, j = i + 1 := ⟨j - 1, by omega⟩
  have hi : i < ys.length := by omega
  rw [List.take_add_one, List.foldl_append]
  simp [List.getElem?_eq_getElem hi, List.getD_eq_getElem?_getD]
theorem cells_ok {ys : List VT} {L R : List Int} (h : cellsS L = .ok (ys, R)) (hL : Byt L) : L = lsB cellB ys ++ R ∧ ys.length ≤ 64 ∧ ∀ j, j < ys.length → chkCell (fun j => ys.getD j .nil) j = 0 := by
  obtain ⟨a, b, c⟩ := list_ok (P := fun s (y : VT) => y.text.size ≤ 12 ∧ rises s y.text ∧ chkVals y = 0) (fun _ _ _ _ h hL => cell_ok h hL) h hL
  refine ⟨a, b, fun j hj => ?_⟩
  obtain ⟨h1, h2, h3⟩ := c j _ (getD_get (d := .nil) hj)
  show (if 12 < (ys.getD j .nil).text.size then 24 else if 0 < j ∧ Op.bytesLess (ys.getD (j - 1) .nil).text.toList (ys.getD j .nil).text.toList = false then 27 else chkVals (ys.getD j .nil)) = 0
  rw [if_neg (by omega), if_neg (fun h4 => ?_), h3]
  have h5 := h2 _ (foldl_last VT.text ys .nil j h4.1 (by omega))
  rw [h5] at h4
  exact absurd h4.2 (by decide)
theorem chkState_of {n : Nat} {p : Option Addr} {c : Nat} {ys : List VT} (hn : n ≤ 1073741824) (hl : ys.length ≤ 64) (h : ∀ j, j < ys.length → chkCell (fun j => ys.getD j .nil) j = 0) : chkState ⟨(n : Int), p, ys.length, c, fun j => ys.getD j .nil⟩ = 0 := by
  unfold chkState
  simp only
  rw [if_neg (by omega), if_neg (by omega)]
  exact firstC_zero _ h
theorem state_ok {s : ST} {L R : List Int} (h : stateS L = .ok (s, R)) (hL : Byt L) : L = stateB s ++ R ∧ chkState s = 0 := by
  obtain ⟨n, M, h1, h⟩ := bind_ok h
  obtain ⟨ys, M2, h2, h⟩ := bind_ok h
  obtain ⟨rfl, rfl⟩ := ret_ok h
  obtain ⟨a1, a2⟩ := num_ok h1 hL
  have hM : Byt M := by rw [a1] at hL; exact hL.right
  obtain ⟨b1, b2, b3⟩ := cells_ok h2 hM
  refine ⟨?_, chkState_of a2 b2 b3⟩
  unfold stateB mkS
  simp only [Int.toNat_natCast]
  rw [listB_getD, a1, b1, List.append_assoc]
theorem gone_ok {ys : List ByteArray} {L R : List Int} (h : goneS L = .ok (ys, R)) (hL : Byt L) : L = lsB keyB ys ++ R ∧ ys.length ≤ 64 ∧ ∀ (j : Nat), j < ys.length → (ys.getD j ⟨#[]⟩).size ≤ 12 ∧ (0 < j → Op.bytesLess (ys.getD (j - 1) ⟨#[]⟩).toList (ys.getD j ⟨#[]⟩).toList = true) := by
  obtain ⟨a, b, c⟩ := list_ok (P := fun s (y : ByteArray) => y.size ≤ 12 ∧ rises s y) (fun _ _ _ _ h hL => rise_ok h hL) h hL
  refine ⟨a, b, fun j hj => ?_⟩
  obtain ⟨h1, h2⟩ := c j _ (getD_get (d := ⟨#[]⟩) hj)
  exact ⟨h1, fun h0 => h2 _ (foldl_last (fun x => x) ys ⟨#[]⟩ j h0 (by omega))⟩
end Go.Proofs.YtfonicphdejdlaaGreat

namespace Go.Proofs.YtfonicphdejdlaaGreat
open Go.RowKit
set_option maxRecDepth 8000
theorem encB_al : ∀ (t u : VT), VT.Alike t u → encB t = encB u := by
  intro t
  induction t with
  | nil => intro u h; rw [show u = .nil from h]
  | mk k i s n p c f ih =>
    intro u h
    cases u with
    | nil =>
      obtain ⟨h1, h2, h3, h4, h5⟩ := h
      simp only [VT.kind, VT.n] at h1 h4
      subst h1
      simp [encB]
    | mk k' i' s' n' p' c' f' =>
      obtain ⟨h1, h2, h3, h4, h5⟩ := h
      simp only [VT.kind_mk, VT.int_mk, VT.text_mk, VT.n_mk] at h1 h2 h3 h4
      subst h1 h2 h3 h4
      rw [encB_eq, encB_eq]
      have e : ((List.range n').flatMap fun j => encB (f j)) = ((List.range n').flatMap fun j => encB (f' j)) := by
        rw [List.flatMap_def, List.flatMap_def]
        congr 1
        apply List.map_congr_left
        intro j hj
        exact ih j _ (h5 j (List.mem_range.1 hj))
      rw [e]
theorem valB_al {t u : VT} (h : VT.Alike t u) : valB u = valB t := by
  unfold valB cleanT
  rw [chk_alike t u 0 0 h]
  split
  · exact (encB_al t u h).symm
  · rfl
theorem listB_congr {α : Type} {enc : α → List Int} {n : Nat} {f g : Nat → α} (h : ∀ j, j < n → enc (f j) = enc (g j)) : listB enc n f = listB enc n g := by
  unfold listB
  congr 1
  rw [List.flatMap_def, List.flatMap_def]
  congr 1
  apply List.map_congr_left
  intro j hj
  exact h j (List.mem_range.1 hj)
theorem recB_al {r u : RT} (h : RT.Alike r u) : recB u = recB r := by
  unfold recB
  rw [h.key, valB_al h.v, h.n, listB_congr fun j hj => by rw [h.loop j hj]]
theorem cellB_al {t u : VT} (h : VT.Alike t u) : cellB u = cellB t := by
  unfold cellB
  rw [h.text, h.n, listB_congr fun j hj => valB_al (h.item hj)]
theorem stateB_al {s t : ST} (h : ST.Alike s t) : stateB t = stateB s := by
  unfold stateB
  rw [h.num, h.n, listB_congr fun j hj => cellB_al (h.cell j hj)]
theorem recsB_al {l u : LT RT} (h : RecsAlike l u) : recsB u = recsB l := by
  unfold recsB
  rw [h.1, listB_congr fun j hj => recB_al (h.2 j hj)]
theorem one_rec {y t : RT} {B : List Int} (h : recS B = .ok (y, [])) (hB : Byt B) (ha : RT.Alike y t) : recB t = B ∧ chkRec t = 0 := by
  obtain ⟨a, b⟩ := rec_ok h hB
  rw [List.append_nil] at a
  exact ⟨by rw [recB_al ha, ← a], by rw [← chkRec_alike ha]; exact b⟩
theorem one_state {y t : ST} {B : List Int} (h : stateS B = .ok (y, [])) (hB : Byt B) (ha : ST.Alike y t) : stateB t = B ∧ chkState t = 0 := by
  obtain ⟨a, b⟩ := state_ok h hB
  rw [List.append_nil] at a
  exact ⟨by rw [stateB_al ha, ← a], by rw [← chkState_alike ha]; exact b⟩
theorem one_row {y : Nat × RT} {t : OT} {B : List Int} (h : outS B = .ok (y, [])) (hB : Byt B) (ha : t.num = y.1 ∧ RT.Alike y.2 t.rec_) : outB t = B ∧ t.num ≤ 1073741824 ∧ chkRec t.rec_ = 0 := by
  obtain ⟨_, M, h1, h⟩ := bind_ok h
  obtain ⟨n, M2, h2, h⟩ := bind_ok h
  obtain ⟨r, M3, h3, h⟩ := bind_ok h
  obtain ⟨rfl, rfl⟩ := ret_ok h
  have a := first_ok h1
  have hM : Byt M := by rw [a] at hB; exact hB.tail
  obtain ⟨b1, b2⟩ := num_ok h2 hM
  have hM2 : Byt M2 := by rw [b1] at hM; exact hM.right
  obtain ⟨c1, c2⟩ := rec_ok h3 hM2
  obtain ⟨d1, d2⟩ := ha
  simp only at d1 d2
  rw [List.append_nil] at c1
  refine ⟨?_, by omega, by rw [← chkRec_alike d2]; exact c2⟩
  unfold outB
  rw [d1, recB_al d2, a, b1, c1]
theorem one_man {y : Nat × Nat × List (Nat × Nat)} {t : MT} {B : List Int} (h : manS B = .ok (y, [])) (hB : Byt B) (ha : t.Is y) : manB t = B ∧ VM t := by
  obtain ⟨_, M, h1, h⟩ := bind_ok h
  obtain ⟨i, M2, h2, h⟩ := bind_ok h
  obtain ⟨u, M3, h3, h⟩ := bind_ok h
  obtain ⟨l, M4, h4, h⟩ := bind_ok h
  obtain ⟨rfl, rfl⟩ := ret_ok h
  have a := first_ok h1
  have hM : Byt M := by rw [a] at hB; exact hB.tail
  obtain ⟨b1, b2⟩ := num_ok h2 hM
  have hM2 : Byt M2 := by rw [b1] at hM; exact hM.right
  obtain ⟨c1, c2⟩ := word_ok h3 hM2
  have hM3 : Byt M3 := by rw [c1] at hM2; exact hM2.right
  obtain ⟨e1, e2, e3⟩ := list_ok (enc := fileB) (P := fun (_ : Unit) (u : Nat × Nat) => u.1 ≤ 65536 ∧ u.2 < 4294967296) (fun s _ _ _ h hL => file_ok (s := s) h hL) h4 hM3
  obtain ⟨d1, d2, d3⟩ := ha
  simp only at d1 d2 d3
  rw [List.append_nil] at e1
  have hl := isl_bytes (enc := fileB) d3 (fun y u h => by rw [h])
  refine ⟨?_, ⟨by omega, by omega, by rw [d3.1]; omega, fun j hj => ?_⟩⟩
  · unfold manB
    rw [d1, d2, hl, a, b1, c1, e1]
  · have hj' : j < l.length := by rw [← d3.1]; exact hj
    have h6 := d3.2 j l[j] (by rw [List.getElem?_eq_getElem hj'])
    rw [h6]
    exact e3 j l[j] (by rw [List.getElem?_eq_getElem hj'])
/-- the cells of a difference -/
theorem chkState_isl {n : Nat} {l : LT VT} {ys : List VT} (hn : n ≤ 1073741824) (hl : ys.length ≤ 64) (h : ∀ j, j < ys.length → chkCell (fun j => ys.getD j .nil) j = 0) (ha : Isl VT.Alike l ys) : chkState ⟨(n : Int), l.p, l.n, l.c, l.item⟩ = 0 := by
  have h1 := chkState_of (p := l.p) (c := l.c) hn hl h
  have hal : ST.Alike ⟨(n : Int), l.p, ys.length, l.c, fun j => ys.getD j .nil⟩ ⟨(n : Int), l.p, l.n, l.c, l.item⟩ := ⟨rfl, ha.1, fun j hj => ha.2 j _ (getD_get (d := .nil) hj)⟩
  rw [← chkState_alike hal]
  exact h1
theorem delta_ok {y : Nat × List VT × List ByteArray} {d : DT} {L R : List Int} (h : deltaS L = .ok (y, R)) (hL : Byt L) (ha : d.Is y) : L = deltaB d ++ R ∧ chkState ⟨(d.num : Int), d.set.p, d.set.n, d.set.c, d.set.item⟩ = 0 ∧ d.gone.n ≤ 64 ∧ Rises d.gone := by
  obtain ⟨n, M, h1, h⟩ := bind_ok h
  obtain ⟨c, M2, h2, h⟩ := bind_ok h
  obtain ⟨g, M3, h3, h⟩ := bind_ok h
  obtain ⟨rfl, rfl⟩ := ret_ok h
  obtain ⟨a1, a2⟩ := num_ok h1 hL
  have hM : Byt M := by rw [a1] at hL; exact hL.right
  obtain ⟨b1, b2, b3⟩ := cells_ok h2 hM
  have hM2 : Byt M2 := by rw [b1] at hM; exact hM.right
  obtain ⟨c1, c2, c3⟩ := gone_ok h3 hM2
  obtain ⟨d1, d2, d3⟩ := ha
  simp only at d1 d2 d3
  refine ⟨?_, by rw [d1]; exact chkState_isl a2 b2 b3 d2, by rw [d3.1]; omega, fun j hj => ?_⟩
  · unfold deltaB
    rw [d1, isl_bytes (enc := cellB) d2 (fun y u h => cellB_al h), isl_bytes (enc := keyB) d3 (fun y u h => by rw [h]), a1, b1, c1]
    simp [List.append_assoc]
  · have hj' : j < g.length := by rw [← d3.1]; exact hj
    have e : ∀ i, i < g.length → d.gone.item i = g.getD i ⟨#[]⟩ := fun i hi => d3.2 i _ (getD_get (d := ⟨#[]⟩) hi)
    obtain ⟨x1, x2⟩ := c3 j hj'
    rw [e j hj']
    refine ⟨x1, fun h0 => ?_⟩
    rw [e (j - 1) (by omega)]
    exact x2 h0
theorem isl_recs {l : LT RT} {ys : List RT} (h : Isl RT.Alike l ys) (hc : ∀ (j : Nat) (y : RT), ys[j]? = some y → chkRec y = 0) : ∀ j, j < l.n → chkRec (l.item j) = 0 := by
  intro j hj
  have hj' : j < ys.length := by rw [← h.1]; exact hj
  have h1 := h.2 j ys[j] (by rw [List.getElem?_eq_getElem hj'])
  rw [← chkRec_alike h1]
  exact hc j _ (by rw [List.getElem?_eq_getElem hj'])
theorem isl_logs {l : LT (LT RT)} {ys : List (LT RT)} (h : Isl RecsAlike l ys) (hc : ∀ (j : Nat) (y : LT RT), ys[j]? = some y → y.n ≤ 256 ∧ ∀ i, i < y.n → chkRec (y.item i) = 0) : ∀ j, j < l.n → (l.item j).n ≤ 256 ∧ ∀ i, i < (l.item j).n → chkRec ((l.item j).item i) = 0 := by
  intro j hj
  have hj' : j < ys.length := by rw [← h.1]; exact hj
  have h1 := h.2 j ys[j] (by rw [List.getElem?_eq_getElem hj'])
  obtain ⟨h2, h3⟩ := hc j _ (by rw [List.getElem?_eq_getElem hj'])
  refine ⟨by rw [h1.1]; exact h2, fun i hi => ?_⟩
  rw [h1.1] at hi
  rw [← chkRec_alike (h1.2 i hi)]
  exact h3 i hi
theorem one_seg {y : GP} {g : GT} {B : List Int} (h : segS B = .ok (y, [])) (hB : Byt B) (ha : g.Is y) : segB g = B ∧ FG g := by
  obtain ⟨_, M, h1, h⟩ := bind_ok h
  obtain ⟨i, M2, h2, h⟩ := bind_ok h
  obtain ⟨t, M3, h3, h⟩ := bind_ok h
  obtain ⟨b, M4, h4, h⟩ := bind_ok h
  have a := first_ok h1
  have hM : Byt M := by rw [a] at hB; exact hB.tail
  obtain ⟨a1, a2⟩ := num_ok h2 hM
  have hM2 : Byt M2 := by rw [a1] at hM; exact hM.right
  obtain ⟨b1, b2⟩ := num_ok h3 hM2
  have hM3 : Byt M3 := by rw [b1] at hM2; exact hM2.right
  obtain ⟨c1, c2⟩ := num_ok h4 hM3
  have hM4 : Byt M4 := by rw [c1] at hM3; exact hM3.right
  by_cases hb : b = 0
  · rw [if_pos hb] at h
    obtain ⟨s, M5, h5, h⟩ := bind_ok h
    obtain ⟨l, M6, h6, h⟩ := bind_ok h
    obtain ⟨p, M7, h7, h⟩ := bind_ok h
    obtain ⟨rfl, rfl⟩ := ret_ok h
    obtain ⟨d1, d2⟩ := state_ok h5 hM4
    have hM5 : Byt M5 := by rw [d1] at hM4; exact hM4.right
    obtain ⟨e1, e2, e3⟩ := logs_ok h6 hM5
    have hM6 : Byt M6 := by rw [e1] at hM5; exact hM5.right
    obtain ⟨f1, f2, f3⟩ := recs_ok h7 hM6
    rw [List.append_nil] at f1
    obtain ⟨g1, g2, g3, g4, g5, g6, g7, g8⟩ := ha
    simp only at g1 g2 g3 g4 g5 g6 g7 g8
    have hlg := isl_logs g7 e3
    refine ⟨?_, ⟨by omega, by omega, by omega, by omega, fun _ => ⟨g4, g6.1, by rw [g6.2.1.1]; rfl, by rw [g6.2.2.1]; rfl, by rw [← chkState_alike g5]; exact d2⟩, fun h0 => absurd g3 h0, by rw [g7.1]; omega, fun j hj => (hlg j hj).1, fun j hj => (hlg j hj).2, by rw [g8.1]; omega, isl_recs g8 f3⟩⟩
    unfold segB
    rw [if_pos g3, g1, g2, g3, stateB_al g5, isl_bytes (enc := recsB) g7 (fun y u h => recsB_al h), show recsB g.pend = lsB recB p from isl_bytes (enc := recB) g8 (fun y u h => recB_al h), a, a1, b1, c1, hb, d1, e1, f1]
  · rw [if_neg hb] at h
    obtain ⟨u, M5, h5, h⟩ := bind_ok h
    obtain ⟨dd, M6, h6, h⟩ := bind_ok h
    obtain ⟨l, M7, h7, h⟩ := bind_ok h
    obtain ⟨p, M8, h8, h⟩ := bind_ok h
    obtain ⟨rfl, rfl⟩ := ret_ok h
    obtain ⟨g1, g2, g3, g4, g5, g6, g7, g8⟩ := ha
    simp only at g1 g2 g3 g4 g5 g6 g7 g8
    obtain ⟨d1, d2⟩ := word_ok h5 hM4
    have hM5 : Byt M5 := by rw [d1] at hM4; exact hM4.right
    obtain ⟨x1, x2, x3, x4⟩ := delta_ok h6 hM5 g6
    have hM6 : Byt M6 := by rw [x1] at hM5; exact hM5.right
    obtain ⟨e1, e2, e3⟩ := logs_ok h7 hM6
    have hM7 : Byt M7 := by rw [e1] at hM6; exact hM6.right
    obtain ⟨f1, f2, f3⟩ := recs_ok h8 hM7
    rw [List.append_nil] at f1
    have hlg := isl_logs g7 e3
    have hgb : g.base ≠ 0 := by omega
    refine ⟨?_, ⟨by omega, by omega, by omega, by omega, fun h0 => absurd h0 hgb, fun _ => ⟨by rw [g5.num]; rfl, by rw [g5.n]; rfl, x2, x3, x4⟩, by rw [g7.1]; omega, fun j hj => (hlg j hj).1, fun j hj => (hlg j hj).2, by rw [g8.1]; omega, isl_recs g8 f3⟩⟩
    unfold segB
    rw [if_neg hgb, g1, g2, g3, g4, isl_bytes (enc := recsB) g7 (fun y u h => recsB_al h), show recsB g.pend = lsB recB p from isl_bytes (enc := recB) g8 (fun y u h => recB_al h), a, a1, b1, c1, d1, x1, e1, f1]
    simp [List.append_assoc]
end Go.Proofs.YtfonicphdejdlaaGreat

namespace Go.Proofs.YtfonicphdejdlaaGreat
open Go.RowKit
set_option maxRecDepth 8000

theorem chk_parts {k i : Int} {s : ByteArray} {n : Nat} {p : Option Addr} {c : Nat} {f : Nat → VT} {d q q' : Nat} (h : chk (.mk k i s n p c f) d q = (0, q')) :
    q < 12 ∧ fitB k i s n = true ∧ ¬ (k = 3 ∧ 3 ≤ d) ∧ s.size ≤ 24 ∧ n ≤ 6 ∧ stepN (fun j m => chk (f j) (d + 1) m) (q + 1) n = (0, q') := by
  rw [chk_eq] at h
  by_cases h1 : 12 ≤ q
  · rw [if_pos h1] at h; simp at h
  rw [if_neg h1] at h
  by_cases h2 : fitB k i s n = false
  · rw [if_pos h2] at h; simp at h
  rw [if_neg h2] at h
  by_cases h3 : k = 3 ∧ 3 ≤ d
  · rw [if_pos h3] at h; simp at h
  rw [if_neg h3] at h
  by_cases h4 : 24 < s.size
  · rw [if_pos h4] at h; simp at h
  rw [if_neg h4] at h
  by_cases h5 : 6 < n
  · rw [if_pos h5] at h; simp at h
  rw [if_neg h5] at h
  exact ⟨by omega, by simpa using h2, h3, by omega, by omega, h⟩
/-- the bytes of the first m items -/
def encM (f : Nat → VT) (m : Nat) : List Int := (List.range m).flatMap fun j => encB (f j)
theorem encM_succ (f : Nat → VT) (m : Nat) : encM f (m + 1) = encM f m ++ encB (f m) := by
  unfold encM
  rw [List.range_succ, List.flatMap_append]
  simp
theorem encM_pre (f : Nat → VT) {k N : Nat} (hk : k ≤ N) : ∃ r, encM f N = encM f k ++ r := by
  obtain ⟨e, rfl⟩ : ∃ e, N = k + e := ⟨N - k, by omega⟩
  clear hk
  induction e with
  | zero => exact ⟨[], by simp⟩
  | succ e ihe =>
    obtain ⟨r, hr⟩ := ihe
    exact ⟨r ++ encB (f (k + e)), by rw [← Nat.add_assoc, encM_succ, hr, List.append_assoc]⟩
theorem empty_toList : (⟨#[]⟩ : ByteArray).toList = [] := by rw [Go.Lib.toList_data]
theorem enc_pos (t : VT) : 0 < (encB t).length := by
  cases t with
  | nil => simp [encB]
  | mk k i s n p c f => rw [encB_eq]; simp
/-- what reading makes of a valid value's bytes, whole or cut -/
def Reads (f : Nat → Int) (n : Nat) (t : VT) (d : Nat) (g : Nat → Nat → DR) : Prop := ∀ a q q', chk t d q = (0, q') → (∀ j x, (encB t)[j]? = some x → f (a + j) = x) →
  (a + (encB t).length ≤ n → ∃ u, g a q = .ok (u, a + (encB t).length, q') ∧ VT.Alike t u) ∧ (n < a + (encB t).length → g a q = .error 28)
theorem stepN_zero {g : Nat → Nat → Nat × Nat} {m n q' : Nat} (h : stepN g m n = (0, q')) {j : Nat} (hj : j ≤ n) : (stepN g m j).1 = 0 := by
  by_cases hz : (stepN g m j).1 = 0
  · exact hz
  · have := stepN_stuck hj hz
    rw [this] at h
    rw [h] at hz
    exact absurd rfl hz
theorem items_read {f : Nat → Int} {n d : Nat} {g : Nat → Nat → DR} {h : Nat → VT} {N : Nat} (hg : ∀ j, j < N → Reads f n (h j) (d + 1) g) (a q : Nat) (hq : ∀ j, j ≤ N → (stepN (fun j m => chk (h j) (d + 1) m) q j).1 = 0)
    (hb : ∀ j x, (encM h N)[j]? = some x → f (a + j) = x) : ∀ m, m ≤ N →
    (a + (encM h m).length ≤ n → ∃ l, itemsS g m a q = .ok (l, a + (encM h m).length, (stepN (fun j m => chk (h j) (d + 1) m) q m).2) ∧ l.length = m ∧ ∀ j, j < m → VT.Alike (h j) (l.getD j .nil)) ∧ (n < a + (encM h m).length → a ≤ n → itemsS g m a q = .error 28) := by
  intro m
  induction m with
  | zero => intro _; exact ⟨fun _ => ⟨[], rfl, rfl, fun j hj => absurd hj (by omega)⟩, fun h1 h2 => by simp [encM] at h1; omega⟩
  | succ m ih =>
    intro hm
    obtain ⟨ih1, ih2⟩ := ih (by omega)
    obtain ⟨r, hr⟩ := encM_pre h hm
    have hbm : ∀ j x, (encB (h m))[j]? = some x → f (a + (encM h m).length + j) = x := by
      intro j x hj
      rw [Nat.add_assoc]
      apply hb
      rw [hr, encM_succ, List.append_assoc, List.getElem?_append_right (by omega), Nat.add_sub_cancel_left]
      have hlt : j < (encB (h m)).length := by
        rcases Nat.lt_or_ge j (encB (h m)).length with h1 | h1
        · exact h1
        · rw [List.getElem?_eq_none h1] at hj; cases hj
      rw [List.getElem?_append_left hlt]
      exact hj
    have hz := hq (m + 1) hm
    rw [stepN_succ (hq m (by omega))] at hz
    obtain ⟨q2, hq2⟩ : ∃ q2, chk (h m) (d + 1) (stepN (fun j m => chk (h j) (d + 1) m) q m).2 = (0, q2) := ⟨_, Prod.ext hz rfl⟩
    have hG := hg m (by omega) (a + (encM h m).length) _ q2 hq2 hbm
    have hst : (stepN (fun j m => chk (h j) (d + 1) m) q (m + 1)).2 = q2 := by rw [stepN_succ (hq m (by omega)), hq2]
    have hl : (encM h (m + 1)).length = (encM h m).length + (encB (h m)).length := by rw [encM_succ, List.length_append]
    rw [hl, hst]
    refine ⟨fun hn => ?_, fun hn ha => ?_⟩
    · obtain ⟨l, e1, e2, e3⟩ := ih1 (by omega)
      obtain ⟨u, e4, e5⟩ := hG.1 (by omega)
      refine ⟨l ++ [u], by rw [itemsS_next e1 e4, Nat.add_assoc], by simp [e2], fun j hj => ?_⟩
      by_cases hjm : j < m
      · have := e3 j hjm
        simpa [List.getD_eq_getElem?_getD, List.getElem?_append_left (show j < l.length by omega)] using this
      · obtain rfl : j = m := by omega
        simpa [List.getD_eq_getElem?_getD, List.getElem?_append_right (show l.length ≤ j by omega), e2] using e5
    · by_cases hn2 : a + (encM h m).length ≤ n
      · obtain ⟨l, e1, e2, e3⟩ := ih1 hn2
        exact itemsS_stuck e1 (hG.2 (by omega)) (by omega)
      · rw [itemsS, ih2 (by omega) ha]
theorem part_read {f : Nat → Int} {n d : Nat} {g : Nat → Nat → DR} {t : VT} (ht : Val t) (hg : d < 3 → ∀ j, j < t.n → Reads f n (t.item j) (d + 1) g) : Reads f n t d (partS f n g d) := by
  cases t with
  | nil => exact ht.elim
  | mk k i s N p c h =>
    intro a q q' hc hb
    obtain ⟨hq, hf, hk3, hs, hN, hst⟩ := chk_parts hc
    obtain ⟨⟨_, _, _, hi1, hi2⟩, hval⟩ := ht
    obtain ⟨⟨k0, k3⟩, fi, fs, fn⟩ := fit_facts hf
    simp only [VT.n_mk, VT.item_mk] at hg
    rw [encB_eq] at hb ⊢
    have h0 := hb 0 k rfl
    simp only [Nat.add_zero] at h0
    unfold partS
    rw [h0]
    have htail : ∀ j x, (if k = 1 then grpB (foldN i) else if k = 2 then (s.size : Int) :: txtB s else if k = 3 then (N : Int) :: (List.range N).flatMap fun j => encB (h j) else [])[j]? = some x → f (a + 1 + j) = x := by
      intro j x hj
      have := hb (j + 1) x (by simpa using hj)
      rw [← this]; congr 1; omega
    clear hb h0
    simp only [List.length_cons]
    rcases (by omega : k = 0 ∨ k = 1 ∨ k = 2 ∨ k = 3) with rfl | rfl | rfl | rfl
    · simp only [show ¬ (0 : Int) = 1 by decide, show ¬ (0 : Int) = 2 by decide, show ¬ (0 : Int) = 3 by decide, or_false, if_false, List.length_nil] at fi fs fn htail ⊢
      subst fi fn
      refine ⟨fun hn => ⟨mkN, ?_, ⟨rfl, rfl, nil_text empty_toList fs, rfl, fun j hj => absurd hj (by omega)⟩⟩, fun hn => if_pos (by omega)⟩
      have e : q' = q + 1 := by have := congrArg Prod.snd hst; simpa [stepN] using this.symm
      rw [if_neg (by omega), if_neg (by omega), if_neg (by decide), if_neg (by simp), if_pos (by decide), e]
    · simp only [show ¬ (1 : Int) = 2 by decide, show ¬ (1 : Int) = 3 by decide, or_false, if_true] at fs fn htail ⊢
      subst fn
      have e : q' = q + 1 := by have := congrArg Prod.snd hst; simpa [stepN] using this.symm
      have hfo := foldN_lt hi1 hi2
      obtain ⟨g1, g2⟩ := grp_full f n (foldN i) (a + 1) 0 0 (by simpa using hfo) (fun h => by omega) (by decide) (by omega) htail
      simp only [Nat.sub_zero, Nat.zero_add, Nat.mul_zero, Nat.pow_zero, Nat.mul_one] at g1 g2
      refine ⟨fun hn => ⟨mkI i, ?_, ⟨rfl, rfl, nil_text empty_toList fs, rfl, fun j hj => absurd hj (by omega)⟩⟩, fun hn => ?_⟩
      · rw [if_neg (by omega), if_neg (by omega), if_neg (by decide), if_neg (by simp), if_neg (by decide), if_pos (by decide), g1 (by omega), e]
        simp only [unfold_fold]
        congr 3
        omega
      · by_cases hn2 : n ≤ a
        · exact if_pos hn2
        · rw [if_neg hn2, if_neg (by omega), if_neg (by decide), if_neg (by simp), if_neg (by decide), if_pos (by decide), g2 (by omega)]
    · simp only [show ¬ (2 : Int) = 1 by decide, show ¬ (2 : Int) = 3 by decide, or_false, if_true, if_false] at fi fn htail ⊢
      subst fi fn
      have e : q' = q + 1 := by have := congrArg Prod.snd hst; simpa [stepN] using this.symm
      have h1 := htail 0 _ rfl
      simp only [Nat.add_zero] at h1
      have hby : bytesAt f (a + 2) s.size = txtB s := by
        apply List.ext_getElem?
        intro j
        rcases Nat.lt_or_ge j s.size with hj | hj
        · have hj2 : j < (txtB s).length := by rw [txtB_len]; exact hj
          have := htail (j + 1) ((txtB s)[j]'hj2) (by simp [List.getElem?_eq_getElem hj2])
          rw [List.getElem?_eq_getElem hj2, ← this]
          simp only [bytesAt, List.getElem?_map, List.getElem?_range hj, Option.map_some]
          congr 2
          omega
        · rw [List.getElem?_eq_none (by rw [bytesAt_len]; exact hj), List.getElem?_eq_none (by rw [txtB_len]; exact hj)]
      simp only [List.length_cons, txtB_len]
      rw [h1]
      refine ⟨fun hn => ⟨mkT s, ?_, ⟨rfl, rfl, rfl, rfl, fun j hj => absurd hj (by omega)⟩⟩, fun hn => ?_⟩
      · rw [if_neg (by omega), if_neg (by omega), if_neg (by decide), if_neg (by simp), if_neg (by decide), if_neg (by decide), if_neg (by omega), if_pos (by decide)]
        simp only [Int.toNat_natCast]
        rw [if_neg (by omega), if_neg (by omega), hby, strOf_txt, e]
        congr 3
        omega
      · by_cases hn2 : n ≤ a
        · exact if_pos hn2
        · rw [if_neg hn2, if_neg (by omega), if_neg (by decide), if_neg (by simp), if_neg (by decide), if_neg (by decide)]
          by_cases hn3 : n ≤ a + 1
          · exact if_pos hn3
          · rw [if_neg hn3, if_pos (by decide)]
            simp only [Int.toNat_natCast]
            rw [if_neg (by omega), if_pos (by omega)]
    · simp only [show ¬ (3 : Int) = 1 by decide, show ¬ (3 : Int) = 2 by decide, or_false, if_true, if_false] at fi fs htail ⊢
      subst fi
      have hd : d < 3 := by
        rcases Nat.lt_or_ge d 3 with h1 | h1
        · exact h1
        · exact absurd ⟨rfl, h1⟩ hk3
      have h1 := htail 0 _ rfl
      simp only [Nat.add_zero] at h1
      have hz : ∀ j, j ≤ N → (stepN (fun j m => chk (h j) (d + 1) m) (q + 1) j).1 = 0 := fun j hj => stepN_zero hst hj
      obtain ⟨r1, r2⟩ := items_read (hg hd) (a + 2) (q + 1) hz (fun j x hj => by
        have := htail (j + 1) x (by simpa [encM] using hj)
        rw [← this]; congr 1; omega) N (Nat.le_refl _)
      simp only [List.length_cons]
      rw [show ((List.range N).flatMap fun j => encB (h j)) = encM h N from rfl, h1]
      rw [hst] at r1
      simp only at r1
      have hd3 : ¬ ((3 : Int).toNat = 3 ∧ 3 ≤ d) := fun hx => by omega
      refine ⟨fun hn => ?_, fun hn => ?_⟩
      · obtain ⟨l, e1, e2, e3⟩ := r1 (by omega)
        refine ⟨mkL l, ?_, ⟨rfl, rfl, nil_text empty_toList fs, by show l.length = N; exact e2, fun j hj => e3 j hj⟩⟩
        rw [if_neg (by omega), if_neg (by omega), if_neg (by decide), if_neg hd3, if_neg (by decide), if_neg (by decide), if_neg (by omega), if_neg (by decide)]
        simp only [Int.toNat_natCast]
        rw [if_neg (by omega), e1]
        simp only
        congr 3
        omega
      · by_cases hn2 : n ≤ a
        · exact if_pos hn2
        · rw [if_neg hn2, if_neg (by omega), if_neg (by decide), if_neg hd3, if_neg (by decide), if_neg (by decide)]
          by_cases hn3 : n ≤ a + 1
          · exact if_pos hn3
          · rw [if_neg hn3, if_neg (by decide)]
            simp only [Int.toNat_natCast]
            rw [if_neg (by omega), r2 (by omega) (by omega)]
theorem dec_read {f : Nat → Int} {n : Nat} : ∀ (t : VT) (d : Nat), Val t → d ≤ 3 → Reads f n t d (decS f n (3 - d) d) := by
  intro t
  induction t with
  | nil => intro d h; exact h.elim
  | mk k i s N p c h ih =>
    intro d hv hd
    by_cases h3 : d = 3
    · subst h3
      exact part_read hv (fun h => by omega)
    · rw [show 3 - d = (3 - (d + 1)) + 1 by omega]
      exact part_read hv (fun hd2 j hj => ih j (d + 1) (hv.2 j hj) (by omega))
end Go.Proofs.YtfonicphdejdlaaGreat

namespace Go.Proofs.YtfonicphdejdlaaGreat
open Go.RowKit
set_option maxRecDepth 8000

/-- the bytes are read back, whole; cut short they are refused, never for what follows them -/
structure Back {α : Type} (s : RS α) (B : List Int) (Q : α → Prop) : Prop where
  whole : ∀ R, ∃ y, s (B ++ R) = .ok (y, R) ∧ Q y
  short : ∀ A C, B = A ++ C → C ≠ [] → ∃ e, s A = .error e ∧ e ≠ 0 ∧ e ≠ 44
theorem Back.bind {α β : Type} {s : RS α} {g : α → RS β} {B C : List Int} {Q : α → Prop} {Q2 : β → Prop} (h : Back s B Q) (h2 : ∀ y, Q y → Back (g y) C Q2) : Back (bindS s g) (B ++ C) Q2 := by
  refine ⟨fun R => ?_, fun A D hA hD => ?_⟩
  · obtain ⟨y, h3, h4⟩ := h.whole (C ++ R)
    obtain ⟨z, h5, h6⟩ := (h2 y h4).whole R
    refine ⟨z, ?_, h6⟩
    unfold bindS
    rw [List.append_assoc, h3]
    exact h5
  · rcases List.append_eq_append_iff.1 hA with ⟨X, h3, h4⟩ | ⟨X, h3, h4⟩
    · obtain ⟨y, h5, h6⟩ := h.whole X
      obtain ⟨e, h7, h8⟩ := (h2 y h6).short X D h4 hD
      refine ⟨e, ?_, h8⟩
      unfold bindS
      rw [h3, h5]
      exact h7
    · by_cases hX : X = []
      · subst hX
        obtain ⟨y, h5, h6⟩ := h.whole []
        obtain ⟨e, h7, h8⟩ := (h2 y h6).short [] D (by simpa using h4.symm) hD
        refine ⟨e, ?_, h8⟩
        unfold bindS
        rw [List.append_nil] at h3 h5
        rw [← h3, h5]
        exact h7
      · obtain ⟨e, h7, h8⟩ := h.short A X h3 hX
        refine ⟨e, ?_, h8⟩
        unfold bindS
        rw [h7]
theorem Back.ret {α : Type} {y : α} {Q : α → Prop} (h : Q y) : Back (retS y) [] Q :=
  ⟨fun R => ⟨y, rfl, h⟩, fun A C hA hC => by
    have : A = [] ∧ C = [] := by simpa using hA.symm
    exact absurd this.2 hC⟩
theorem Back.mono {α : Type} {s : RS α} {B : List Int} {Q Q2 : α → Prop} (h : Back s B Q) (hQ : ∀ y, Q y → Q2 y) : Back s B Q2 :=
  ⟨fun R => by obtain ⟨y, h1, h2⟩ := h.whole R; exact ⟨y, h1, hQ y h2⟩, h.short⟩
theorem Back.map {α β : Type} {s : RS α} {f : α → β} {B : List Int} {Q : α → Prop} {Q2 : β → Prop} (h : Back s B Q) (hQ : ∀ y, Q y → Q2 (f y)) : Back (bindS s fun y => retS (f y)) B Q2 := by
  have := h.bind (g := fun y => retS (f y)) (C := []) (fun y hy => Back.ret (hQ y hy))
  rwa [List.append_nil] at this
theorem back_take (l : List Int) : Back (takeS l.length) l (· = l) := by
  refine ⟨fun R => ⟨l, ?_, rfl⟩, fun A C hA hC => ⟨40, ?_, by decide, by decide⟩⟩
  · unfold takeS
    rw [if_pos (by simp)]
    simp
  · unfold takeS
    have : 0 < C.length := List.length_pos_iff.2 hC
    rw [if_neg (by rw [hA, List.length_append]; omega)]
theorem back_numG (bound : Nat) : ∀ k i u j, u < 2 ^ (7 * i) → (0 < i → 1 ≤ j) → u + j * 2 ^ (7 * i) ≤ bound → j < 128 ^ (k + 1) → Back (numG bound (k + 1) i u) (grpB j) (· = u + j * 2 ^ (7 * i)) := by
  intro k
  induction k with
  | zero =>
    intro i u j hu hi hb hj
    have hj : j < 128 := by simpa using hj
    have hm : u ||| j % 128 * 2 ^ (7 * i) = u + j * 2 ^ (7 * i) := by rw [Nat.mod_eq_of_lt hj, or_plus hu]
    rw [grpB_small hj]
    refine ⟨fun R => ⟨_, ?_, rfl⟩, fun A C hA hC => ⟨40, ?_, by decide, by decide⟩⟩
    · rw [List.singleton_append, numG_lo hj, hm]
      unfold endS
      rw [if_neg (by simp; omega), if_neg (by omega)]
      rfl
    · cases A with
      | nil => exact numG_nil ..
      | cons a A =>
        simp only [List.cons_append, List.cons.injEq] at hA
        exact absurd (List.append_eq_nil_iff.1 hA.2.symm).2 hC
  | succ k ih =>
    intro i u j hu hi hb hj
    by_cases hs : j < 128
    · have hm : u ||| j % 128 * 2 ^ (7 * i) = u + j * 2 ^ (7 * i) := by rw [Nat.mod_eq_of_lt hs, or_plus hu]
      rw [grpB_small hs]
      refine ⟨fun R => ⟨_, ?_, rfl⟩, fun A C hA hC => ⟨40, ?_, by decide, by decide⟩⟩
      · rw [List.singleton_append, numG_lo hs, hm]
        unfold endS
        rw [if_neg (by simp; omega), if_neg (by omega)]
        rfl
      · cases A with
        | nil => exact numG_nil ..
        | cons a A =>
          simp only [List.cons_append, List.cons.injEq] at hA
          exact absurd (List.append_eq_nil_iff.1 hA.2.symm).2 hC
    · have hp : 0 < 2 ^ (7 * i) := Nat.two_pow_pos _
      have hq : j % 128 * 2 ^ (7 * i) ≤ 127 * 2 ^ (7 * i) := Nat.mul_le_mul (by omega) (Nat.le_refl _)
      have e1 : j / 128 * (128 * 2 ^ (7 * i)) = (128 * (j / 128)) * 2 ^ (7 * i) := by rw [← Nat.mul_assoc, Nat.mul_comm (j / 128) 128]
      have e2 : j * 2 ^ (7 * i) = (128 * (j / 128)) * 2 ^ (7 * i) + j % 128 * 2 ^ (7 * i) := by
        rw [← Nat.add_mul]
        congr 1
        omega
      have hv : u + j % 128 * 2 ^ (7 * i) + j / 128 * 2 ^ (7 * (i + 1)) = u + j * 2 ^ (7 * i) := by
        rw [pow7, e1, e2]
        omega
      have hu2 : u + j % 128 * 2 ^ (7 * i) < 2 ^ (7 * (i + 1)) := by
        rw [pow7]
        omega
      have hlt : j / 128 < 128 ^ (k + 1) := by
        rw [Nat.pow_succ] at hj
        exact Nat.div_lt_of_lt_mul (by rw [Nat.mul_comm]; exact hj)
      have H := ih (i + 1) (u + j % 128 * 2 ^ (7 * i)) (j / 128) hu2 (fun _ => by omega) (by rw [hv]; exact hb) hlt
      rw [hv] at H
      have hc : ¬ (j % 128 + 128) < 128 := by omega
      have hm : (j % 128 + 128) % 128 = j % 128 := by omega
      rw [grpB_great hs]
      refine ⟨fun R => ?_, fun A C hA hC => ?_⟩
      · obtain ⟨y, h1, h2⟩ := H.whole R
        refine ⟨y, ?_, h2⟩
        rw [List.cons_append, numG_hi hc, hm, or_plus hu]
        exact h1
      · cases A with
        | nil => exact ⟨40, numG_nil .., by decide, by decide⟩
        | cons a A =>
          simp only [List.cons_append, List.cons.injEq] at hA
          obtain ⟨e, h1, h2⟩ := H.short A C hA.2 hC
          refine ⟨e, ?_, h2⟩
          rw [← hA.1, numG_hi hc, hm, or_plus hu]
          exact h1
theorem back_num {bound m : Nat} (h : m ≤ bound) (hm : m < 34359738368) : Back (numS bound) (grpB m) (· = m) := by
  have := back_numG bound 4 0 0 m (by decide) (fun h => absurd h (by decide)) (by simpa using h) (Nat.lt_of_lt_of_le hm (by decide))
  simpa [numS] using this
theorem back_word {u : Nat} (h : u < 4294967296) : Back wordS (wordB u) (· = u) := by
  refine Back.map (back_take (wordB u)) fun y hy => ?_
  subst hy
  simp only [wordB, wordN, List.getD_cons_zero, List.getD_cons_succ, Int.toNat_natCast]
  omega
theorem back_first (x : Int) : Back (firstS x) [x] (fun _ => True) := by
  have := (back_take [x]).bind (g := fun l => if l.headD 0 = x then retS () else failS 41) (C := []) (Q2 := fun _ => True) (fun y hy => by
    subst hy
    simp only [List.headD_cons, if_true]
    exact Back.ret trivial)
  exact this
theorem back_key {k : ByteArray} (h : k.size ≤ 12) : Back keyS (keyB k) (· = k) := by
  refine (back_num h (by omega)).bind fun n hn => ?_
  subst hn
  have := back_take (txtB k)
  rw [txtB_len] at this
  refine Back.map this fun y hy => ?_
  subst hy
  exact strOf_txt k
theorem grpS_same {f g : Nat → Int} {n : Nat} (h : ∀ j, j < n → f j = g j) : ∀ k a i u, grpS f n k a i u = grpS g n k a i u := by
  intro k
  induction k with
  | zero => intro a i u; rfl
  | succ k ih =>
    intro a i u
    rw [grpS, grpS]
    by_cases ha : n ≤ a
    · rw [if_pos ha, if_pos ha]
    · rw [if_neg ha, if_neg ha, h a (by omega), ih]
theorem itemsS_same {f g : Nat → Nat → DR} (h : ∀ a q, f a q = g a q) : ∀ m a q, itemsS f m a q = itemsS g m a q := by
  have e : f = g := funext fun a => funext fun q => h a q
  intro m a q
  rw [e]
theorem partS_same {f g : Nat → Int} {n : Nat} (h : ∀ j, j < n → f j = g j) {r s : Nat → Nat → DR} (hr : ∀ a q, r a q = s a q) (d a q : Nat) : partS f n r d a q = partS g n s d a q := by
  unfold partS
  by_cases ha : n ≤ a
  · rw [if_pos ha, if_pos ha]
  · rw [if_neg ha, if_neg ha, h a (by omega), grpS_same h]
    by_cases ha1 : n ≤ a + 1
    · rw [if_pos ha1, if_pos ha1]
    · rw [if_neg ha1, if_neg ha1, h (a + 1) (by omega), itemsS_same hr]
      by_cases hb : n < a + 2 + (g (a + 1)).toNat
      · rw [if_pos hb, if_pos hb]
      · rw [if_neg hb, if_neg hb]
        have e : bytesAt f (a + 2) (g (a + 1)).toNat = bytesAt g (a + 2) (g (a + 1)).toNat := by
          unfold bytesAt
          apply List.map_congr_left
          intro j hj
          exact h _ (by have := List.mem_range.1 hj; omega)
        rw [e]
theorem decS_same {f g : Nat → Int} {n : Nat} (h : ∀ j, j < n → f j = g j) : ∀ k d a q, decS f n k d a q = decS g n k d a q := by
  intro k
  induction k with
  | zero => intro d a q; exact partS_same h (fun _ _ => rfl) d a q
  | succ k ih => intro d a q; exact partS_same h (fun a q => ih (d + 1) a q) d a q
theorem back_val {t : VT} (ht : Val t) (hc : (chk t 0 0).1 = 0) : Back valS (valB t) (fun y => VT.Alike t y) := by
  have e : valB t = encB t := by unfold valB cleanT; rw [if_pos hc]
  have hq : chk t 0 0 = (0, (chk t 0 0).2) := Prod.ext hc rfl
  rw [e]
  refine ⟨fun R => ?_, fun A C hA hC => ⟨28, ?_, by decide, by decide⟩⟩
  · have H := dec_read (f := fun j => (encB t ++ R).getD j 0) (n := (encB t ++ R).length) t 0 ht (by decide) 0 0 _ hq (fun j x hx => by
      have hj : j < (encB t).length := by
        rcases Nat.lt_or_ge j (encB t).length with h1 | h1
        · exact h1
        · rw [List.getElem?_eq_none h1] at hx; cases hx
      show (encB t ++ R).getD (0 + j) 0 = x
      rw [Nat.zero_add, List.getD_eq_getElem?_getD, List.getElem?_append_left hj, hx]
      rfl)
    obtain ⟨u, h1, h2⟩ := H.1 (by simp)
    refine ⟨u, ?_, h2⟩
    unfold valS
    have h1 : decS (fun j => (encB t ++ R).getD j 0) (encB t ++ R).length 3 0 0 0 = _ := h1
    rw [h1]
    simp
  · have hl : 0 < C.length := List.length_pos_iff.2 hC
    have H := dec_read (f := fun j => (encB t).getD j 0) (n := A.length) t 0 ht (by decide) 0 0 _ hq (fun j x hx => by
      show (encB t).getD (0 + j) 0 = x
      rw [Nat.zero_add, List.getD_eq_getElem?_getD, hx]
      rfl)
    have h1 := H.2 (by rw [hA, List.length_append]; omega)
    have h1 : decS (fun j => (encB t).getD j 0) A.length 3 0 0 0 = .error 28 := h1
    unfold valS
    rw [decS_same (g := fun j => (encB t).getD j 0) (fun j hj => by
      show A.getD j 0 = (encB t).getD j 0
      rw [hA, List.getD_eq_getElem?_getD, List.getD_eq_getElem?_getD, List.getElem?_append_left hj]), h1]
end Go.Proofs.YtfonicphdejdlaaGreat
