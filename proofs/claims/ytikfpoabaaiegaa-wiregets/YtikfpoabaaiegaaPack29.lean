import Derived.Test.YtikfpoabaaiegaaPack15
import Derived.Test.YtikfpoabaaiegaaWrM
import Derived.Test.YtikfpoabaaiegaaPack9
import Derived.Test.YtikfpoabaaiegaaPack28
import Derived.Test.YtikfpoabaaiegaaPack17
import Derived.Test.YtikfpoabaaiegaaPack27
namespace Go.Proofs.Ytikfpoabaaiegaa
open Go.RowKit
set_option maxRecDepth 8000

theorem Byt.tail {x : Int} {L : List Int} (h : Byt (x :: L)) : Byt L := fun y hy => h y (List.mem_cons_of_mem _ hy)
theorem Byt.right {A B : List Int} (h : Byt (A ++ B)) : Byt B := fun y hy => h y (List.mem_append_right _ hy)
theorem Byt.left {A B : List Int} (h : Byt (A ++ B)) : Byt A := fun y hy => h y (List.mem_append_left _ hy)
theorem bind_ok {α β : Type} {s : RS α} {g : α → RS β} {L R : List Int} {y : β} (h : bindS s g L = .ok (y, R)) : ∃ a M, s L = .ok (a, M) ∧ g a M = .ok (y, R) := by
  unfold bindS at h
  cases hs : s L with
  | error e => rw [hs] at h; cases h
  | ok z =>
    obtain ⟨a, M⟩ := z
    rw [hs] at h
    exact ⟨a, M, rfl, h⟩
theorem ret_ok {α : Type} {x y : α} {L R : List Int} (h : retS x L = .ok (y, R)) : y = x ∧ R = L := by
  unfold retS at h
  cases h
  exact ⟨rfl, rfl⟩
theorem take_ok {n : Nat} {L R l : List Int} (h : takeS n L = .ok (l, R)) : L = l ++ R ∧ l.length = n := by
  unfold takeS at h
  split at h
  · rename_i hn
    cases h
    exact ⟨(List.take_append_drop n L).symm, by simp [hn]⟩
  · cases h
theorem end_ok {n b m : Nat} {i : Bool} {L R : List Int} (h : endS n b i L = .ok (m, R)) : m = n ∧ R = L ∧ i = false ∧ n ≤ b := by
  unfold endS at h
  split at h
  · cases h
  rename_i h1
  split at h
  · cases h
  rename_i h2
  obtain ⟨a, b⟩ := ret_ok h
  exact ⟨a, b, by simpa using h1, by omega⟩
theorem numG_sound (bound : Nat) : ∀ k i u L m R, numG bound k i u L = .ok (m, R) → u < 2 ^ (7 * i) → Byt L → ∃ j, m = u + j * 2 ^ (7 * i) ∧ L = grpB j ++ R ∧ (0 < i → 1 ≤ j) ∧ m ≤ bound := by
  intro k
  induction k with
  | zero => intro i u L m R h; cases h
  | succ k ih =>
    intro i u L m R h hu hL
    cases L with
    | nil => rw [numG_nil] at h; cases h
    | cons x L =>
      obtain ⟨hx0, hx1⟩ := hL x (List.mem_cons_self ..)
      obtain ⟨C, rfl⟩ := Int.eq_ofNat_of_zero_le hx0
      by_cases hC : C < 128
      · rw [numG_lo hC] at h
        obtain ⟨h1, h2, h3, h4⟩ := end_ok h
        rw [or_plus hu, Nat.mod_eq_of_lt hC] at h1 h4
        refine ⟨C, h1, by rw [grpB_small hC, h2]; rfl, fun hi => ?_, by omega⟩
        have h5 : ¬ (0 < i ∧ C = 0) := by simpa using h3
        omega
      · rw [numG_hi hC, or_plus hu] at h
        have hm : C % 128 = C - 128 := by omega
        have hu2 : u + C % 128 * 2 ^ (7 * i) < 2 ^ (7 * (i + 1)) := by
          rw [pow7]
          have hp : 0 < 2 ^ (7 * i) := Nat.two_pow_pos _
          have hq : C % 128 * 2 ^ (7 * i) ≤ 127 * 2 ^ (7 * i) := Nat.mul_le_mul (by omega) (Nat.le_refl _)
          omega
        obtain ⟨j, h1, h2, h3, h4⟩ := ih (i + 1) _ L m R h hu2 hL.tail
        have h3 := h3 (by omega)
        refine ⟨(C - 128) + 128 * j, ?_, ?_, fun _ => by omega, h4⟩
        · rw [h1, hm, pow7, Nat.add_mul]
          have : j * (128 * 2 ^ (7 * i)) = 128 * j * 2 ^ (7 * i) := by rw [← Nat.mul_assoc, Nat.mul_comm j 128]
          omega
        · rw [grpB_great (by omega), h2]
          have e1 : ((C - 128) + 128 * j) % 128 + 128 = C := by omega
          have e2 : ((C - 128) + 128 * j) / 128 = j := by omega
          rw [e1, e2]
          rfl
theorem num_ok {bound m : Nat} {L R : List Int} (h : numS bound L = .ok (m, R)) (hL : Byt L) : L = grpB m ++ R ∧ m ≤ bound := by
  obtain ⟨j, h1, h2, _, h4⟩ := numG_sound bound 5 0 0 L m R h (by decide) hL
  have : m = j := by simpa using h1
  subst this
  exact ⟨h2, h4⟩
theorem key_ok {k : ByteArray} {L R : List Int} (h : keyS L = .ok (k, R)) (hL : Byt L) : L = keyB k ++ R ∧ k.size ≤ 12 := by
  obtain ⟨n, M, h1, h⟩ := bind_ok h
  obtain ⟨h2, h3⟩ := num_ok h1 hL
  obtain ⟨l, M2, h4, h⟩ := bind_ok h
  obtain ⟨h5, h6⟩ := take_ok h4
  obtain ⟨rfl, rfl⟩ := ret_ok h
  have hM : Byt M := by rw [h2] at hL; exact hL.right
  have hl : Byt l := by rw [h5] at hM; exact hM.left
  have hs : (strOf l).size = n := by rw [strOf_size, h6]
  refine ⟨?_, by omega⟩
  unfold keyB
  rw [hs, txt_strOf (fun x hx => ⟨(hl x hx).1, by have := (hl x hx).2; omega⟩), h2, h5, List.append_assoc]
theorem word_ok {u : Nat} {L R : List Int} (h : wordS L = .ok (u, R)) (hL : Byt L) : L = wordB u ++ R ∧ u < 4294967296 := by
  obtain ⟨l, M, h1, h⟩ := bind_ok h
  obtain ⟨h2, h3⟩ := take_ok h1
  obtain ⟨rfl, rfl⟩ := ret_ok h
  have hl : Byt l := by rw [h2] at hL; exact hL.left
  match l, h3 with
  | [a, b, c, d], _ =>
    have ha := hl a (by simp)
    have hb := hl b (by simp)
    have hc := hl c (by simp)
    have hd := hl d (by simp)
    refine ⟨?_, ?_⟩
    · rw [h2]
      congr 1
      simp only [wordB, wordN, List.getD_cons_zero, List.getD_cons_succ, List.cons.injEq, and_true]
      refine ⟨by omega, by omega, by omega, by omega⟩
    · simp only [wordN, List.getD_cons_zero, List.getD_cons_succ]
      omega
theorem first_ok {x : Int} {L R : List Int} (h : firstS x L = .ok ((), R)) : L = x :: R := by
  obtain ⟨l, M, h1, h⟩ := bind_ok h
  obtain ⟨h2, h3⟩ := take_ok h1
  split at h
  · rename_i h4
    obtain ⟨_, rfl⟩ := ret_ok h
    match l, h3 with
    | [a], _ =>
      simp at h4
      rw [h2, h4]
      rfl
  · cases h
theorem bytesAt_list (L : List Int) (a : Nat) (h : a ≤ L.length) : bytesAt (fun j => L.getD j 0) 0 a = L.take a := by
  apply List.ext_getElem
  · simp [bytesAt, h]
  · intro i h1 h2
    simp [bytesAt] at h1
    simp [bytesAt, List.getD_eq_getElem?_getD, List.getElem?_eq_getElem (show i < L.length by omega)]
theorem val_ok {t : VT} {L R : List Int} (h : valS L = .ok (t, R)) (hL : Byt L) : L = valB t ++ R ∧ (chk t 0 0).1 = 0 := by
  unfold valS at h
  cases hd : decS (fun j => L.getD j 0) L.length 3 0 0 0 with
  | error e => rw [hd] at h; cases h
  | ok z =>
    obtain ⟨t2, a, q⟩ := z
    rw [hd] at h
    cases h
    obtain ⟨h1, h2, h3, h4⟩ := dec_sound (f := fun j => L.getD j 0) (n := L.length) (fun j hj => by
      have := hL (L.getD j 0) (by simp [List.getD_eq_getElem?_getD, List.getElem?_eq_getElem hj])
      exact ⟨this.1, by omega⟩) 3 0 0 0 t a q hd
    have hc : (chk t 0 0).1 = 0 := by rw [h1]
    refine ⟨?_, hc⟩
    have e : valB t = L.take a := by
      unfold valB cleanT
      rw [if_pos hc, h4, Nat.sub_zero, bytesAt_list L a h3]
    rw [e, List.take_append_drop]
end Go.Proofs.Ytikfpoabaaiegaa

namespace Go.Proofs.Ytikfpoabaaiegaa
open Go.RowKit
set_option maxRecDepth 8000
end Go.Proofs.Ytikfpoabaaiegaa

namespace Go.Proofs.Ytikfpoabaaiegaa
open Go.RowKit
set_option maxRecDepth 8000
end Go.Proofs.Ytikfpoabaaiegaa

namespace Go.Proofs.Ytikfpoabaaiegaa
open Go.RowKit
set_option maxRecDepth 8000

theorem iter_ok {α σ : Type} {item : σ → RS α} {nx : σ → α → σ} {enc : α → List Int} {P : σ → α → Prop} (hI : ∀ s L y R, item s L = .ok (y, R) → Byt L → L = enc y ++ R ∧ P s y) : ∀ m s L ys s' R, iterS item nx m s L = .ok ((ys, s'), R) → Byt L → L = ys.flatMap enc ++ R ∧ ys.length = m ∧ s' = ys.foldl nx s ∧ ∀ (j : Nat) (y : α), ys[j]? = some y → P ((ys.take j).foldl nx s) y := by
  intro m
  induction m with
  | zero =>
    intro s L ys s' R h hL
    obtain ⟨h1, rfl⟩ := ret_ok h
    cases h1
    exact ⟨rfl, rfl, rfl, fun j y hj => by simp at hj⟩
  | succ m ih =>
    intro s L ys s' R h hL
    obtain ⟨⟨zs, s1⟩, M, h1, h⟩ := bind_ok h
    obtain ⟨x, M2, h2, h⟩ := bind_ok h
    obtain ⟨h3, rfl⟩ := ret_ok h
    simp only [Prod.mk.injEq] at h3
    obtain ⟨rfl, rfl⟩ := h3
    obtain ⟨a1, a2, a3, a4⟩ := ih s L zs s1 M h1 hL
    have hM : Byt M := by rw [a1] at hL; exact hL.right
    obtain ⟨b1, b2⟩ := hI s1 M x R h2 hM
    refine ⟨by rw [a1, b1]; simp, by simp [a2], by rw [a3]; simp, fun j y hj => ?_⟩
    by_cases hjl : j < zs.length
    · rw [List.getElem?_append_left hjl] at hj
      rw [List.take_append_of_le_length (by omega)]
      exact a4 j y hj
    · have hjm : j < (zs ++ [x]).length := by
        rcases Nat.lt_or_ge j (zs ++ [x]).length with h1 | h1
        · exact h1
        · rw [List.getElem?_eq_none h1] at hj; cases hj
      have he : j = zs.length := by simp only [List.length_append, List.length_singleton] at hjm hjl; omega
      subst he
      rw [List.getElem?_append_right (Nat.le_refl _)] at hj
      simp at hj
      subst hj
      rw [List.take_append_of_le_length (Nat.le_refl _), List.take_length, ← a3]
      exact b2
def lsB {α : Type} (enc : α → List Int) (ys : List α) : List Int := grpB ys.length ++ ys.flatMap enc
theorem list_ok {α σ : Type} {bound : Nat} {item : σ → RS α} {nx : σ → α → σ} {enc : α → List Int} {P : σ → α → Prop} (hI : ∀ s L y R, item s L = .ok (y, R) → Byt L → L = enc y ++ R ∧ P s y) {s : σ} {L R : List Int} {ys : List α} (h : listS bound item nx s L = .ok (ys, R)) (hL : Byt L) : L = lsB enc ys ++ R ∧ ys.length ≤ bound ∧ ∀ (j : Nat) (y : α), ys[j]? = some y → P ((ys.take j).foldl nx s) y := by
  obtain ⟨m, M, h1, h⟩ := bind_ok h
  obtain ⟨⟨zs, s1⟩, M2, h2, h⟩ := bind_ok h
  obtain ⟨h3, rfl⟩ := ret_ok h
  simp only at h3
  subst h3
  obtain ⟨a1, a2⟩ := num_ok h1 hL
  have hM : Byt M := by rw [a1] at hL; exact hL.right
  obtain ⟨b1, b2, _, b4⟩ := iter_ok hI m s M ys s1 R h2 hM
  refine ⟨?_, by omega, b4⟩
  unfold lsB
  rw [a1, b1, b2, List.append_assoc]
theorem range_getD' {α : Type} (d : α) (l : List α) (g : α → List Int) : ((List.range l.length).flatMap fun j => g (l.getD j d)) = l.flatMap g := by
  have e : (List.range l.length).map (fun j => l.getD j d) = l := by
    apply List.ext_getElem
    · simp
    · intro i h1 h2
      simp [List.getD_eq_getElem?_getD, List.getElem?_eq_getElem h2]
  have h := congrArg (fun z => z.flatMap g) e
  simpa [List.flatMap_map] using h
theorem listB_getD {α : Type} (d : α) (l : List α) (g : α → List Int) : listB g l.length (fun j => l.getD j d) = lsB g l := by
  unfold listB lsB
  rw [range_getD']
theorem hop_ok {s : Unit} {x : Int} {L R : List Int} (h : hopI L = .ok (x, R)) (hL : Byt L) : L = hopB x ++ R ∧ (fun (_ : Unit) (x : Int) => 0 ≤ x ∧ x ≤ 9) s x := by
  obtain ⟨n, M, h1, h⟩ := bind_ok h
  obtain ⟨rfl, rfl⟩ := ret_ok h
  obtain ⟨a, b⟩ := num_ok h1 hL
  refine ⟨by unfold hopB; simpa using a, ?_⟩
  show (0 : Int) ≤ (n : Int) ∧ (n : Int) ≤ 9
  omega
theorem firstC_zero {g : Nat → Nat} : ∀ n, (∀ j, j < n → g j = 0) → firstC g n = 0 := by
  intro n
  induction n with
  | zero => intro _; rfl
  | succ n ih =>
    intro h
    show (if _ then _ else _) = 0
    rw [if_pos (ih fun j hj => h j (by omega))]
    exact h n (by omega)
theorem getD_get {α : Type} {d : α} {l : List α} {j : Nat} (h : j < l.length) : l[j]? = some (l.getD j d) := by
  simp [List.getD_eq_getElem?_getD, List.getElem?_eq_getElem h]
theorem rec_ok {r : RT} {L R : List Int} (h : recS L = .ok (r, R)) (hL : Byt L) : L = recB r ++ R ∧ chkRec r = 0 := by
  obtain ⟨k, M, h1, h⟩ := bind_ok h
  obtain ⟨v, M2, h2, h⟩ := bind_ok h
  obtain ⟨l, M3, h3, h⟩ := bind_ok h
  obtain ⟨rfl, rfl⟩ := ret_ok h
  obtain ⟨a1, a2⟩ := key_ok h1 hL
  have hM : Byt M := by rw [a1] at hL; exact hL.right
  obtain ⟨b1, b2⟩ := val_ok h2 hM
  have hM2 : Byt M2 := by rw [b1] at hM; exact hM.right
  obtain ⟨c1, c2, c3⟩ := list_ok (enc := hopB) (P := fun (_ : Unit) (x : Int) => 0 ≤ x ∧ x ≤ 9) (fun s _ _ _ h hL => hop_ok (s := s) h hL) h3 hM2
  refine ⟨?_, ?_⟩
  · unfold recB mkR
    simp only
    rw [listB_getD, a1, b1, c1]
    simp [List.append_assoc]
  · unfold chkRec mkR
    simp only
    rw [if_neg (by omega), if_neg (by simpa using b2), if_neg (by omega)]
    refine firstC_zero _ fun j hj => ?_
    obtain ⟨h4, h5⟩ := c3 j _ (getD_get (d := 0) hj)
    unfold chkLoop
    rw [if_neg (by omega)]
theorem recs_ok {ys : List RT} {L R : List Int} (h : recsS L = .ok (ys, R)) (hL : Byt L) : L = lsB recB ys ++ R ∧ ys.length ≤ 256 ∧ ∀ (j : Nat) (y : RT), ys[j]? = some y → chkRec y = 0 :=
  list_ok (P := fun (_ : Unit) y => chkRec y = 0) (fun _ _ _ _ h hL => rec_ok h hL) h hL
theorem recsL_ok {l : LT RT} {L R : List Int} (h : recsL L = .ok (l, R)) (hL : Byt L) : L = recsB l ++ R ∧ (l.n ≤ 256 ∧ ∀ j, j < l.n → chkRec (l.item j) = 0) := by
  obtain ⟨ys, M, h1, h⟩ := bind_ok h
  obtain ⟨rfl, rfl⟩ := ret_ok h
  obtain ⟨a, b, c⟩ := recs_ok h1 hL
  refine ⟨?_, b, fun j hj => c j _ (getD_get (d := zeroR) hj)⟩
  unfold recsB mkLT
  simp only
  rw [listB_getD]
  exact a
theorem logs_ok {ys : List (LT RT)} {L R : List Int} (h : logsL L = .ok (ys, R)) (hL : Byt L) : L = lsB recsB ys ++ R ∧ ys.length ≤ 4 ∧ ∀ (j : Nat) (y : LT RT), ys[j]? = some y → y.n ≤ 256 ∧ ∀ i, i < y.n → chkRec (y.item i) = 0 :=
  list_ok (P := fun (_ : Unit) (y : LT RT) => y.n ≤ 256 ∧ ∀ i, i < y.n → chkRec (y.item i) = 0) (fun _ _ _ _ h hL => recsL_ok h hL) h hL
theorem file_ok {s : Unit} {u : Nat × Nat} {L R : List Int} (h : fileS L = .ok (u, R)) (hL : Byt L) : L = fileB u ++ R ∧ (fun (_ : Unit) (u : Nat × Nat) => u.1 ≤ 65536 ∧ u.2 < 4294967296) s u := by
  obtain ⟨n, M, h1, h⟩ := bind_ok h
  obtain ⟨x, M2, h2, h⟩ := bind_ok h
  obtain ⟨rfl, rfl⟩ := ret_ok h
  obtain ⟨a1, a2⟩ := num_ok h1 hL
  have hM : Byt M := by rw [a1] at hL; exact hL.right
  obtain ⟨b1, b2⟩ := word_ok h2 hM
  refine ⟨?_, a2, b2⟩
  unfold fileB
  simp only
  rw [a1, b1, List.append_assoc]
def rises (s : Option ByteArray) (k : ByteArray) : Prop := ∀ l, s = some l → Op.bytesLess l.toList k.toList = true
theorem rise_ok {s : Option ByteArray} {k : ByteArray} {L R : List Int} (h : riseS s L = .ok (k, R)) (hL : Byt L) : L = keyB k ++ R ∧ (k.size ≤ 12 ∧ rises s k) := by
  obtain ⟨k2, M, h1, h⟩ := bind_ok h
  obtain ⟨a1, a2⟩ := key_ok h1 hL
  cases s with
  | none =>
    obtain ⟨rfl, rfl⟩ := ret_ok (show retS k2 M = .ok (k, R) from h)
    exact ⟨a1, a2, fun l hl => by cases hl⟩
  | some l0 =>
    by_cases hc : Op.bytesLess l0.toList k2.toList = true
    · have h' : (if Op.bytesLess l0.toList k2.toList = true then retS k2 else failS 42) M = .ok (k, R) := h
      rw [if_pos hc] at h'
      obtain ⟨rfl, rfl⟩ := ret_ok h'
      exact ⟨a1, a2, fun l hl => by cases hl; exact hc⟩
    · have h' : (if Op.bytesLess l0.toList k2.toList = true then retS k2 else failS 42) M = .ok (k, R) := h
      rw [if_neg hc] at h'
      cases h'
theorem vals_ok {ys : List VT} {L R : List Int} (h : valsS L = .ok (ys, R)) (hL : Byt L) : L = lsB valB ys ++ R ∧ ys.length ≤ 6 ∧ ∀ (j : Nat) (y : VT), ys[j]? = some y → (chk y 0 0).1 = 0 :=
  list_ok (P := fun (_ : Unit) y => (chk y 0 0).1 = 0) (fun _ _ _ _ h hL => val_ok h hL) h hL
theorem cell_ok {s : Option ByteArray} {c : VT} {L R : List Int} (h : cellS s L = .ok (c, R)) (hL : Byt L) : L = cellB c ++ R ∧ (c.text.size ≤ 12 ∧ rises s c.text ∧ chkVals c = 0) := by
  obtain ⟨k, M, h1, h⟩ := bind_ok h
  obtain ⟨l, M2, h2, h⟩ := bind_ok h
  obtain ⟨rfl, rfl⟩ := ret_ok h
  obtain ⟨a1, a2, a3⟩ := rise_ok h1 hL
  have hM : Byt M := by rw [a1] at hL; exact hL.right
  obtain ⟨b1, b2, b3⟩ := vals_ok h2 hM
  refine ⟨?_, a2, a3, ?_⟩
  · unfold cellB mkC
    simp only [VT.text_mk, VT.n_mk, VT.item_mk]
    rw [listB_getD, a1, b1, List.append_assoc]
  · show (if 6 < l.length then 27 else firstC (fun q => (chk (l.getD q .nil) 0 0).1) l.length) = 0
    rw [if_neg (by omega)]
    exact firstC_zero _ fun j hj => b3 j _ (getD_get (d := .nil) hj)
theorem foldl_last {α : Type} (g : α → ByteArray) (ys : List α) (d : α) : ∀ j, 0 < j → j ≤ ys.length → (ys.take j).foldl (fun (_ : Option ByteArray) c => some (g c)) none = some (g (ys.getD (j - 1) d)) := by
  intro j hj hl
  obtain ⟨i, rfl⟩ : ∃ i, j = i + 1 := ⟨j - 1, by omega⟩
  have hi : i < ys.length := by omega
  rw [List.take_add_one, List.foldl_append]
  simp [List.getElem?_eq_getElem hi, List.getD_eq_getElem?_getD]
theorem cells_ok {ys : List VT} {L R : List Int} (h : cellsS L = .ok (ys, R)) (hL : Byt L) : L = lsB cellB ys ++ R ∧ ys.length ≤ 64 ∧ ∀ j, j < ys.length → chkCell (fun j => ys.getD j .nil) j = 0 := by
  obtain ⟨a, b, c⟩ := list_ok (P := fun s (y : VT) => y.text.size ≤ 12 ∧ rises s y.text ∧ chkVals y = 0) (fun _ _ _ _ h hL => cell_ok h hL) h hL
  refine ⟨a, b, fun j hj => ?_⟩
  obtain ⟨h1, h2, h3⟩ := c j _ (getD_get (d := .nil) hj)
  show (if 12 < (ys.getD j .nil).text.size then 24 else if 0 < j ∧ Op.bytesLess (ys.getD (j - 1) .nil).text.toList (ys.getD j .nil).text.toList = false then 27 else chkVals (ys.getD j .nil)) = 0
  rw [if_neg (by omega), if_neg (fun h4 => ?_), h3]
  have h5 := h2 _ (foldl_last VT.text ys .nil j h4.1 (by omega))
  rw [h5] at h4
  exact absurd h4.2 (by decide)
theorem chkState_of {n : Nat} {p : Option Addr} {c : Nat} {ys : List VT} (hn : n ≤ 1073741824) (hl : ys.length ≤ 64) (h : ∀ j, j < ys.length → chkCell (fun j => ys.getD j .nil) j = 0) : chkState ⟨(n : Int), p, ys.length, c, fun j => ys.getD j .nil⟩ = 0 := by
  unfold chkState
  simp only
  rw [if_neg (by omega), if_neg (by omega)]
  exact firstC_zero _ h
theorem state_ok {s : ST} {L R : List Int} (h : stateS L = .ok (s, R)) (hL : Byt L) : L = stateB s ++ R ∧ chkState s = 0 := by
  obtain ⟨n, M, h1, h⟩ := bind_ok h
  obtain ⟨ys, M2, h2, h⟩ := bind_ok h
  obtain ⟨rfl, rfl⟩ := ret_ok h
  obtain ⟨a1, a2⟩ := num_ok h1 hL
  have hM : Byt M := by rw [a1] at hL; exact hL.right
  obtain ⟨b1, b2, b3⟩ := cells_ok h2 hM
  refine ⟨?_, chkState_of a2 b2 b3⟩
  unfold stateB mkS
  simp only [Int.toNat_natCast]
  rw [listB_getD, a1, b1, List.append_assoc]
theorem gone_ok {ys : List ByteArray} {L R : List Int} (h : goneS L = .ok (ys, R)) (hL : Byt L) : L = lsB keyB ys ++ R ∧ ys.length ≤ 64 ∧ ∀ (j : Nat), j < ys.length → (ys.getD j ⟨#[]⟩).size ≤ 12 ∧ (0 < j → Op.bytesLess (ys.getD (j - 1) ⟨#[]⟩).toList (ys.getD j ⟨#[]⟩).toList = true) := by
  obtain ⟨a, b, c⟩ := list_ok (P := fun s (y : ByteArray) => y.size ≤ 12 ∧ rises s y) (fun _ _ _ _ h hL => rise_ok h hL) h hL
  refine ⟨a, b, fun j hj => ?_⟩
  obtain ⟨h1, h2⟩ := c j _ (getD_get (d := ⟨#[]⟩) hj)
  exact ⟨h1, fun h0 => h2 _ (foldl_last (fun x => x) ys ⟨#[]⟩ j h0 (by omega))⟩
end Go.Proofs.Ytikfpoabaaiegaa

namespace Go.Proofs.Ytikfpoabaaiegaa
set_option maxRecDepth 8000
theorem rec_small {r : RT} {L R : List Int} (h : recS L = .ok (r, R)) (hL : Byt L) : r.key.size ≤ 12 ∧ r.n ≤ 3 ∧ ∀ j, j < r.n → 0 ≤ r.loop j ∧ r.loop j ≤ 9 := by
  obtain ⟨k, M, h1, h⟩ := bind_ok h
  obtain ⟨v, M2, h2, h⟩ := bind_ok h
  obtain ⟨l, M3, h3, h⟩ := bind_ok h
  obtain ⟨rfl, rfl⟩ := ret_ok h
  obtain ⟨a1, a2⟩ := key_ok h1 hL
  have hM : Byt M := by rw [a1] at hL; exact hL.right
  obtain ⟨b1, b2⟩ := val_ok h2 hM
  have hM2 : Byt M2 := by rw [b1] at hM; exact hM.right
  obtain ⟨c1, c2, c3⟩ := list_ok (enc := hopB) (P := fun (_ : Unit) (x : Int) => 0 ≤ x ∧ x ≤ 9) (fun s _ _ _ h hL => hop_ok (s := s) h hL) h3 hM2
  exact ⟨a2, c2, fun j hj => c3 j _ (getD_get hj)⟩
theorem bag_rec {r : RT} {V' : List VT} (hk : r.key.size ≤ 12) (hn : r.n ≤ 3) (hl : ∀ j, j < r.n → 0 ≤ r.loop j ∧ r.loop j ≤ 9) (hv : VAl (dRec r).V V') : ∃ q : BRec, lft (dRec r).N (dRec r).K V' 0 0 0 = bagRs [q] gNil ∧ q.Ok ∧ ∀ t : RT, q.Is t → RT.Alike r t := by
  obtain ⟨hl1, hv1⟩ := hv
  obtain ⟨x, rfl⟩ : ∃ x, V' = [x] := List.length_eq_one_iff.1 (by rw [hl1]; rfl)
  have hx := hv1 0 r.v x rfl rfl
  have hg : ∀ j, j < r.n → ((List.range r.n).map r.loop).getD j 0 = r.loop j := fun j hj => by simp [List.getD_eq_getElem?_getD, hj]
  refine ⟨⟨r.key, x, (List.range r.n).map r.loop⟩, ?_, ⟨by show r.key.size ≤ 1000; omega, by simp; omega, fun t ht => ?_⟩, fun t ht => ?_⟩
  · simp [lft, bagRs, gNil, dRec, BRec.N]
  · simp only [List.length_map, List.length_range] at ht
    show -9223372036854775808 ≤ ((List.range r.n).map r.loop).getD t 0 ∧ ((List.range r.n).map r.loop).getD t 0 ≤ 9223372036854775807
    rw [hg t ht]
    have := hl t ht
    omega
  · obtain ⟨h1, h2, h3, h4⟩ := ht
    simp only [List.length_map, List.length_range] at h3 h4
    exact ⟨h1, by rw [h2]; exact hx, h3, fun j hj => (h4 j hj).trans (hg j hj)⟩
end Go.Proofs.Ytikfpoabaaiegaa
