import Derived.Test.YtfonicphdejdlaaGreatPack0
import Derived.Test.YtfonicphdejdlaaGreatPack18
import Derived.Test.YtfonicphdejdlaaGreatWrM
import Derived.Test.YtfonicphdejdlaaGreatPack9
namespace Go.Proofs.YtfonicphdejdlaaGreat
open Go.RowKit
set_option maxRecDepth 8000
def Byt (L : List Int) : Prop := ∀ x ∈ L, 0 ≤ x ∧ x < 256
end Go.Proofs.YtfonicphdejdlaaGreat

namespace Go.Proofs.YtfonicphdejdlaaGreat
open Go.RowKit
set_option maxRecDepth 8000

/-- bytes -/
theorem Byt.tail {x : Int} {L : List Int} (h : Byt (x :: L)) : Byt L := fun y hy => h y (List.mem_cons_of_mem _ hy)
theorem Byt.right {A B : List Int} (h : Byt (A ++ B)) : Byt B := fun y hy => h y (List.mem_append_right _ hy)
theorem Byt.left {A B : List Int} (h : Byt (A ++ B)) : Byt A := fun y hy => h y (List.mem_append_left _ hy)
theorem bind_ok {α β : Type} {s : RS α} {g : α → RS β} {L R : List Int} {y : β} (h : bindS s g L = .ok (y, R)) : ∃ a M, s L = .ok (a, M) ∧ g a M = .ok (y, R) := by
  unfold bindS at h
  cases hs : s L with
  | error e => rw [hs] at h; cases h
  | ok z =>
    obtain ⟨a, M⟩ := z
    rw [hs] at h
    exact ⟨a, M, rfl, h⟩
theorem ret_ok {α : Type} {x y : α} {L R : List Int} (h : retS x L = .ok (y, R)) : y = x ∧ R = L := by
  unfold retS at h
  cases h
  exact ⟨rfl, rfl⟩
theorem take_ok {n : Nat} {L R l : List Int} (h : takeS n L = .ok (l, R)) : L = l ++ R ∧ l.length = n := by
  unfold takeS at h
  split at h
  · rename_i hn
    cases h
    exact ⟨(List.take_append_drop n L).symm, by simp [hn]⟩
  · cases h
theorem end_ok {n b m : Nat} {i : Bool} {L R : List Int} (h : endS n b i L = .ok (m, R)) : m = n ∧ R = L ∧ i = false ∧ n ≤ b := by
  unfold endS at h
  split at h
  · cases h
  rename_i h1
  split at h
  · cases h
  rename_i h2
  obtain ⟨a, b⟩ := ret_ok h
  exact ⟨a, b, by simpa using h1, by omega⟩
theorem numG_sound (bound : Nat) : ∀ k i u L m R, numG bound k i u L = .ok (m, R) → u < 2 ^ (7 * i) → Byt L → ∃ j, m = u + j * 2 ^ (7 * i) ∧ L = grpB j ++ R ∧ (0 < i → 1 ≤ j) ∧ m ≤ bound := by
  intro k
  induction k with
  | zero => intro i u L m R h; cases h
  | succ k ih =>
    intro i u L m R h hu hL
    cases L with
    | nil => rw [numG_nil] at h; cases h
    | cons x L =>
      obtain ⟨hx0, hx1⟩ := hL x (List.mem_cons_self ..)
      obtain ⟨C, rfl⟩ := Int.eq_ofNat_of_zero_le hx0
      by_cases hC : C < 128
      · rw [numG_lo hC] at h
        obtain ⟨h1, h2, h3, h4⟩ := end_ok h
        rw [or_plus hu, Nat.mod_eq_of_lt hC] at h1 h4
        refine ⟨C, h1, by rw [grpB_small hC, h2]; rfl, fun hi => ?_, by omega⟩
        have h5 : ¬ (0 < i ∧ C = 0) := by simpa using h3
        omega
      · rw [numG_hi hC, or_plus hu] at h
        have hm : C % 128 = C - 128 := by omega
        have hu2 : u + C % 128 * 2 ^ (7 * i) < 2 ^ (7 * (i + 1)) := by
          rw [pow7]
          have hp : 0 < 2 ^ (7 * i) := Nat.two_pow_pos _
          have hq : C % 128 * 2 ^ (7 * i) ≤ 127 * 2 ^ (7 * i) := Nat.mul_le_mul (by omega) (Nat.le_refl _)
          omega
        obtain ⟨j, h1, h2, h3, h4⟩ := ih (i + 1) _ L m R h hu2 hL.tail
        have h3 := h3 (by omega)
        refine ⟨(C - 128) + 128 * j, ?_, ?_, fun _ => by omega, h4⟩
        · rw [h1, hm, pow7, Nat.add_mul]
          have : j * (128 * 2 ^ (7 * i)) = 128 * j * 2 ^ (7 * i) := by rw [← Nat.mul_assoc, Nat.mul_comm j 128]
          omega
        · rw [grpB_great (by omega), h2]
          have e1 : ((C - 128) + 128 * j) % 128 + 128 = C := by omega
          have e2 : ((C - 128) + 128 * j) / 128 = j := by omega
          rw [e1, e2]
          rfl
theorem num_ok {bound m : Nat} {L R : List Int} (h : numS bound L = .ok (m, R)) (hL : Byt L) : L = grpB m ++ R ∧ m ≤ bound := by
  obtain ⟨j, h1, h2, _, h4⟩ := numG_sound bound 5 0 0 L m R h (by decide) hL
  have : m = j := by simpa using h1
  subst this
  exact ⟨h2, h4⟩
theorem key_ok {k : ByteArray} {L R : List Int} (h : keyS L = .ok (k, R)) (hL : Byt L) : L = keyB k ++ R ∧ k.size ≤ 12 := by
  obtain ⟨n, M, h1, h⟩ := bind_ok h
  obtain ⟨h2, h3⟩ := num_ok h1 hL
  obtain ⟨l, M2, h4, h⟩ := bind_ok h
  obtain ⟨h5, h6⟩ := take_ok h4
  obtain ⟨rfl, rfl⟩ := ret_ok h
  have hM : Byt M := by rw [h2] at hL; exact hL.right
  have hl : Byt l := by rw [h5] at hM; exact hM.left
  have hs : (strOf l).size = n := by rw [strOf_size, h6]
  refine ⟨?_, by omega⟩
  unfold keyB
  rw [hs, txt_strOf (fun x hx => ⟨(hl x hx).1, by have := (hl x hx).2; omega⟩), h2, h5, List.append_assoc]
theorem word_ok {u : Nat} {L R : List Int} (h : wordS L = .ok (u, R)) (hL : Byt L) : L = wordB u ++ R ∧ u < 4294967296 := by
  obtain ⟨l, M, h1, h⟩ := bind_ok h
  obtain ⟨h2, h3⟩ := take_ok h1
  obtain ⟨rfl, rfl⟩ := ret_ok h
  have hl : Byt l := by rw [h2] at hL; exact hL.left
  match l, h3 with
  | [a, b, c, d], _ =>
    have ha := hl a (by simp)
    have hb := hl b (by simp)
    have hc := hl c (by simp)
    have hd := hl d (by simp)
    refine ⟨?_, ?_⟩
    · rw [h2]
      congr 1
      simp only [wordB, wordN, List.getD_cons_zero, List.getD_cons_succ, List.cons.injEq, and_true]
      refine ⟨by omega, by omega, by omega, by omega⟩
    · simp only [wordN, List.getD_cons_zero, List.getD_cons_succ]
      omega
theorem first_ok {x : Int} {L R : List Int} (h : firstS x L = .ok ((), R)) : L = x :: R := by
  obtain ⟨l, M, h1, h⟩ := bind_ok h
  obtain ⟨h2, h3⟩ := take_ok h1
  split at h
  · rename_i h4
    obtain ⟨_, rfl⟩ := ret_ok h
    match l, h3 with
    | [a], _ =>
      simp at h4
      rw [h2, h4]
      rfl
  · cases h
theorem bytesAt_list (L : List Int) (a : Nat) (h : a ≤ L.length) : bytesAt (fun j => L.getD j 0) 0 a = L.take a := by
  apply List.ext_getElem
  · simp [bytesAt, h]
  · intro i h1 h2
    simp [bytesAt] at h1
    simp [bytesAt, List.getD_eq_getElem?_getD, List.getElem?_eq_getElem (show i < L.length by omega)]
theorem val_ok {t : VT} {L R : List Int} (h : valS L = .ok (t, R)) (hL : Byt L) : L = valB t ++ R ∧ (chk t 0 0).1 = 0 := by
  unfold valS at h
  cases hd : decS (fun j => L.getD j 0) L.length 3 0 0 0 with
  | error e => rw [hd] at h; cases h
  | ok z =>
    obtain ⟨t2, a, q⟩ := z
    rw [hd] at h
    cases h
    obtain ⟨h1, h2, h3, h4⟩ := dec_sound (f := fun j => L.getD j 0) (n := L.length) (fun j hj => by
      have := hL (L.getD j 0) (by simp [List.getD_eq_getElem?_getD, List.getElem?_eq_getElem hj])
      exact ⟨this.1, by omega⟩) 3 0 0 0 t a q hd
    have hc : (chk t 0 0).1 = 0 := by rw [h1]
    refine ⟨?_, hc⟩
    have e : valB t = L.take a := by
      unfold valB cleanT
      rw [if_pos hc, h4, Nat.sub_zero, bytesAt_list L a h3]
    rw [e, List.take_append_drop]
end Go.Proofs.YtfonicphdejdlaaGreat
