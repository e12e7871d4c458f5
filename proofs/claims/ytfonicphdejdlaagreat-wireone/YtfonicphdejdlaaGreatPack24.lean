import Derived.Test.YtfonicphdejdlaaGreatPack22
import Derived.Test.YtfonicphdejdlaaGreatWpI
import Derived.Test.YtfonicphdejdlaaGreatPack19
import Derived.Test.YtfonicphdejdlaaGreatWzB
namespace Go.Proofs.YtfonicphdejdlaaGreat
open Go.RowKit
set_option maxRecDepth 8000

theorem iter_ok {α σ : Type} {item : σ → RS α} {nx : σ → α → σ} {enc : α → List Int} {P : σ → α → Prop} (hI : ∀ s L y R, item s L = .ok (y, R) → Byt L → L = enc y ++ R ∧ P s y) : ∀ m s L ys s' R, iterS item nx m s L = .ok ((ys, s'), R) → Byt L → L = ys.flatMap enc ++ R ∧ ys.length = m ∧ s' = ys.foldl nx s ∧ ∀ (j : Nat) (y : α), ys[j]? = some y → P ((ys.take j).foldl nx s) y := by
  intro m
  induction m with
  | zero =>
    intro s L ys s' R h hL
    obtain ⟨h1, rfl⟩ := ret_ok h
    cases h1
    exact ⟨rfl, rfl, rfl, fun j y hj => by simp at hj⟩
  | succ m ih =>
    intro s L ys s' R h hL
    obtain ⟨⟨zs, s1⟩, M, h1, h⟩ := bind_ok h
    obtain ⟨x, M2, h2, h⟩ := bind_ok h
    obtain ⟨h3, rfl⟩ := ret_ok h
    simp only [Prod.mk.injEq] at h3
    obtain ⟨rfl, rfl⟩ := h3
    obtain ⟨a1, a2, a3, a4⟩ := ih s L zs s1 M h1 hL
    have hM : Byt M := by rw [a1] at hL; exact hL.right
    obtain ⟨b1, b2⟩ := hI s1 M x R h2 hM
    refine ⟨by rw [a1, b1]; simp, by simp [a2], by rw [a3]; simp, fun j y hj => ?_⟩
    by_cases hjl : j < zs.length
    · rw [List.getElem?_append_left hjl] at hj
      rw [List.take_append_of_le_length (by omega)]
      exact a4 j y hj
    · have hjm : j < (zs ++ [x]).length := by
        rcases Nat.lt_or_ge j (zs ++ [x]).length with h1 | h1
        · exact h1
        · rw [List.getElem?_eq_none h1] at hj; cases hj
      have he : j = zs.length := by simp only [List.length_append, List.length_singleton] at hjm hjl; omega
      subst he
      rw [List.getElem?_append_right (Nat.le_refl _)] at hj
      simp at hj
      subst hj
      rw [List.take_append_of_le_length (Nat.le_refl _), List.take_length, ← a3]
      exact b2
def lsB {α : Type} (enc : α → List Int) (ys : List α) : List Int := grpB ys.length ++ ys.flatMap enc
theorem list_ok {α σ : Type} {bound : Nat} {item : σ → RS α} {nx : σ → α → σ} {enc : α → List Int} {P : σ → α → Prop} (hI : ∀ s L y R, item s L = .ok (y, R) → Byt L → L = enc y ++ R ∧ P s y) {s : σ} {L R : List Int} {ys : List α} (h : listS bound item nx s L = .ok (ys, R)) (hL : Byt L) : L = lsB enc ys ++ R ∧ ys.length ≤ bound ∧ ∀ (j : Nat) (y : α), ys[j]? = some y → P ((ys.take j).foldl nx s) y := by
  obtain ⟨m, M, h1, h⟩ := bind_ok h
  obtain ⟨⟨zs, s1⟩, M2, h2, h⟩ := bind_ok h
  obtain ⟨h3, rfl⟩ := ret_ok h
  simp only at h3
  subst h3
  obtain ⟨a1, a2⟩ := num_ok h1 hL
  have hM : Byt M := by rw [a1] at hL; exact hL.right
  obtain ⟨b1, b2, _, b4⟩ := iter_ok hI m s M ys s1 R h2 hM
  refine ⟨?_, by omega, b4⟩
  unfold lsB
  rw [a1, b1, b2, List.append_assoc]
theorem range_getD' {α : Type} (d : α) (l : List α) (g : α → List Int) : ((List.range l.length).flatMap fun j => g (l.getD j d)) = l.flatMap g := by
  have e : (List.range l.length).map (fun j => l.getD j d) = l := by
    apply List.ext_getElem
    · simp
    · intro i h1 h2
      simp [List.getD_eq_getElem?_getD, List.getElem?_eq_getElem h2]
  have h := congrArg (fun z => z.flatMap g) e
  simpa [List.flatMap_map] using h
theorem listB_getD {α : Type} (d : α) (l : List α) (g : α → List Int) : listB g l.length (fun j => l.getD j d) = lsB g l := by
  unfold listB lsB
  rw [range_getD']
/-- a laid list's bytes -/
theorem isl_bytes {α : Type} {Al : α → α → Prop} {enc : α → List Int} {l : LT α} {ys : List α} (h : Isl Al l ys) (he : ∀ y u, Al y u → enc u = enc y) : listB enc l.n l.item = lsB enc ys := by
  obtain ⟨h1, h2⟩ := h
  unfold listB lsB
  rw [h1]
  congr 1
  have e : (List.range ys.length).map (fun j => enc (l.item j)) = ys.map enc := by
    apply List.ext_getElem
    · simp
    · intro i h3 h4
      simp at h3
      simp
      exact he _ _ (h2 i ys[i] (by rw [List.getElem?_eq_getElem h3]))
  rw [List.flatMap_def, List.flatMap_def, e]
theorem hop_ok {s : Unit} {x : Int} {L R : List Int} (h : hopI L = .ok (x, R)) (hL : Byt L) : L = hopB x ++ R ∧ (fun (_ : Unit) (x : Int) => 0 ≤ x ∧ x ≤ 9) s x := by
  obtain ⟨n, M, h1, h⟩ := bind_ok h
  obtain ⟨rfl, rfl⟩ := ret_ok h
  obtain ⟨a, b⟩ := num_ok h1 hL
  refine ⟨by unfold hopB; simpa using a, ?_⟩
  show (0 : Int) ≤ (n : Int) ∧ (n : Int) ≤ 9
  omega
theorem firstC_zero {g : Nat → Nat} : ∀ n, (∀ j, j < n → g j = 0) → firstC g n = 0 := by
  intro n
  induction n with
  | zero => intro _; rfl
  | succ n ih =>
    intro h
    show (if _ then _ else _) = 0
    rw [if_pos (ih fun j hj => h j (by omega))]
    exact h n (by omega)
theorem getD_get {α : Type} {d : α} {l : List α} {j : Nat} (h : j < l.length) : l[j]? = some (l.getD j d) := by
  simp [List.getD_eq_getElem?_getD, List.getElem?_eq_getElem h]
theorem rec_ok {r : RT} {L R : List Int} (h : recS L = .ok (r, R)) (hL : Byt L) : L = recB r ++ R ∧ chkRec r = 0 := by
  obtain ⟨k, M, h1, h⟩ := bind_ok h
  obtain ⟨v, M2, h2, h⟩ := bind_ok h
  obtain ⟨l, M3, h3, h⟩ := bind_ok h
  obtain ⟨rfl, rfl⟩ := ret_ok h
  obtain ⟨a1, a2⟩ := key_ok h1 hL
  have hM : Byt M := by rw [a1] at hL; exact hL.right
  obtain ⟨b1, b2⟩ := val_ok h2 hM
  have hM2 : Byt M2 := by rw [b1] at hM; exact hM.right
  obtain ⟨c1, c2, c3⟩ := list_ok (enc := hopB) (P := fun (_ : Unit) (x : Int) => 0 ≤ x ∧ x ≤ 9) (fun s _ _ _ h hL => hop_ok (s := s) h hL) h3 hM2
  refine ⟨?_, ?_⟩
  · unfold recB mkR
    simp only
    rw [listB_getD, a1, b1, c1]
    simp [List.append_assoc]
  · unfold chkRec mkR
    simp only
    rw [if_neg (by omega), if_neg (by simpa using b2), if_neg (by omega)]
    refine firstC_zero _ fun j hj => ?_
    obtain ⟨h4, h5⟩ := c3 j _ (getD_get (d := 0) hj)
    unfold chkLoop
    rw [if_neg (by omega)]
theorem recs_ok {ys : List RT} {L R : List Int} (h : recsS L = .ok (ys, R)) (hL : Byt L) : L = lsB recB ys ++ R ∧ ys.length ≤ 256 ∧ ∀ (j : Nat) (y : RT), ys[j]? = some y → chkRec y = 0 :=
  list_ok (P := fun (_ : Unit) y => chkRec y = 0) (fun _ _ _ _ h hL => rec_ok h hL) h hL
theorem recsL_ok {l : LT RT} {L R : List Int} (h : recsL L = .ok (l, R)) (hL : Byt L) : L = recsB l ++ R ∧ (l.n ≤ 256 ∧ ∀ j, j < l.n → chkRec (l.item j) = 0) := by
  obtain ⟨ys, M, h1, h⟩ := bind_ok h
  obtain ⟨rfl, rfl⟩ := ret_ok h
  obtain ⟨a, b, c⟩ := recs_ok h1 hL
  refine ⟨?_, b, fun j hj => c j _ (getD_get (d := zeroR) hj)⟩
  unfold recsB mkLT
  simp only
  rw [listB_getD]
  exact a
theorem logs_ok {ys : List (LT RT)} {L R : List Int} (h : logsL L = .ok (ys, R)) (hL : Byt L) : L = lsB recsB ys ++ R ∧ ys.length ≤ 4 ∧ ∀ (j : Nat) (y : LT RT), ys[j]? = some y → y.n ≤ 256 ∧ ∀ i, i < y.n → chkRec (y.item i) = 0 :=
  list_ok (P := fun (_ : Unit) (y : LT RT) => y.n ≤ 256 ∧ ∀ i, i < y.n → chkRec (y.item i) = 0) (fun _ _ _ _ h hL => recsL_ok h hL) h hL
theorem file_ok {s : Unit} {u : Nat × Nat} {L R : List Int} (h : fileS L = .ok (u, R)) (hL : Byt L) : L = fileB u ++ R ∧ (fun (_ : Unit) (u : Nat × Nat) => u.1 ≤ 65536 ∧ u.2 < 4294967296) s u := by
  obtain ⟨n, M, h1, h⟩ := bind_ok h
  obtain ⟨x, M2, h2, h⟩ := bind_ok h
  obtain ⟨rfl, rfl⟩ := ret_ok h
  obtain ⟨a1, a2⟩ := num_ok h1 hL
  have hM : Byt M := by rw [a1] at hL; exact hL.right
  obtain ⟨b1, b2⟩ := word_ok h2 hM
  refine ⟨?_, a2, b2⟩
  unfold fileB
  simp only
  rw [a1, b1, List.append_assoc]
/-- which key comes ahead of which -/
def rises (s : Option ByteArray) (k : ByteArray) : Prop := ∀ l, s = some l → Op.bytesLess l.toList k.toList = true
theorem rise_ok {s : Option ByteArray} {k : ByteArray} {L R : List Int} (h : riseS s L = .ok (k, R)) (hL : Byt L) : L = keyB k ++ R ∧ (k.size ≤ 12 ∧ rises s k) := by
  obtain ⟨k2, M, h1, h⟩ := bind_ok h
  obtain ⟨a1, a2⟩ := key_ok h1 hL
  cases s with
  | none =>
    obtain ⟨rfl, rfl⟩ := ret_ok (show retS k2 M = .ok (k, R) from h)
    exact ⟨a1, a2, fun l hl => by cases hl⟩
  | some l0 =>
    by_cases hc : Op.bytesLess l0.toList k2.toList = true
    · have h' : (if Op.bytesLess l0.toList k2.toList = true then retS k2 else failS 42) M = .ok (k, R) := h
      rw [if_pos hc] at h'
      obtain ⟨rfl, rfl⟩ := ret_ok h'
      exact ⟨a1, a2, fun l hl => by cases hl; exact hc⟩
    · have h' : (if Op.bytesLess l0.toList k2.toList = true then retS k2 else failS 42) M = .ok (k, R) := h
      rw [if_neg hc] at h'
      cases h'
theorem vals_ok {ys : List VT} {L R : List Int} (h : valsS L = .ok (ys, R)) (hL : Byt L) : L = lsB valB ys ++ R ∧ ys.length ≤ 6 ∧ ∀ (j : Nat) (y : VT), ys[j]? = some y → (chk y 0 0).1 = 0 :=
  list_ok (P := fun (_ : Unit) y => (chk y 0 0).1 = 0) (fun _ _ _ _ h hL => val_ok h hL) h hL
theorem cell_ok {s : Option ByteArray} {c : VT} {L R : List Int} (h : cellS s L = .ok (c, R)) (hL : Byt L) : L = cellB c ++ R ∧ (c.text.size ≤ 12 ∧ rises s c.text ∧ chkVals c = 0) := by
  obtain ⟨k, M, h1, h⟩ := bind_ok h
  obtain ⟨l, M2, h2, h⟩ := bind_ok h
  obtain ⟨rfl, rfl⟩ := ret_ok h
  obtain ⟨a1, a2, a3⟩ := rise_ok h1 hL
  have hM : Byt M := by rw [a1] at hL; exact hL.right
  obtain ⟨b1, b2, b3⟩ := vals_ok h2 hM
  refine ⟨?_, a2, a3, ?_⟩
  · unfold cellB mkC
    simp only [VT.text_mk, VT.n_mk, VT.item_mk]
    rw [listB_getD, a1, b1, List.append_assoc]
  · show (if 6 < l.length then 27 else firstC (fun q => (chk (l.getD q .nil) 0 0).1) l.length) = 0
    rw [if_neg (by omega)]
    exact firstC_zero _ fun j hj => b3 j _ (getD_get (d := .nil) hj)
theorem foldl_last {α : Type} (g : α → ByteArray) (ys : List α) (d : α) : ∀ j, 0 < j → j ≤ ys.length → (ys.take j).foldl (fun (_ : Option ByteArray) c => some (g c)) none = some (g (ys.getD (j - 1) d)) := by
  intro j hj hl
  obtain ⟨i, rfl⟩ : ∃ i, j = i + 1 := ⟨j - 1, by omega⟩
  have hi : i < ys.length := by omega
  rw [List.take_add_one, List.foldl_append]
  simp [List.getElem?_eq_getElem hi, List.getD_eq_getElem?_getD]
theorem cells_ok {ys : List VT} {L R : List Int} (h : cellsS L = .ok (ys, R)) (hL : Byt L) : L = lsB cellB ys ++ R ∧ ys.length ≤ 64 ∧ ∀ j, j < ys.length → chkCell (fun j => ys.getD j .nil) j = 0 := by
  obtain ⟨a, b, c⟩ := list_ok (P := fun s (y : VT) => y.text.size ≤ 12 ∧ rises s y.text ∧ chkVals y = 0) (fun _ _ _ _ h hL => cell_ok h hL) h hL
  refine ⟨a, b, fun j hj => ?_⟩
  obtain ⟨h1, h2, h3⟩ := c j _ (getD_get (d := .nil) hj)
  show (if 12 < (ys.getD j .nil).text.size then 24 else if 0 < j ∧ Op.bytesLess (ys.getD (j - 1) .nil).text.toList (ys.getD j .nil).text.toList = false then 27 else chkVals (ys.getD j .nil)) = 0
  rw [if_neg (by omega), if_neg (fun h4 => ?_), h3]
  have h5 := h2 _ (foldl_last VT.text ys .nil j h4.1 (by omega))
  rw [h5] at h4
  exact absurd h4.2 (by decide)
theorem chkState_of {n : Nat} {p : Option Addr} {c : Nat} {ys : List VT} (hn : n ≤ 1073741824) (hl : ys.length ≤ 64) (h : ∀ j, j < ys.length → chkCell (fun j => ys.getD j .nil) j = 0) : chkState ⟨(n : Int), p, ys.length, c, fun j => ys.getD j .nil⟩ = 0 := by
  unfold chkState
  simp only
  rw [if_neg (by omega), if_neg (by omega)]
  exact firstC_zero _ h
theorem state_ok {s : ST} {L R : List Int} (h : stateS L = .ok (s, R)) (hL : Byt L) : L = stateB s ++ R ∧ chkState s = 0 := by
  obtain ⟨n, M, h1, h⟩ := bind_ok h
  obtain ⟨ys, M2, h2, h⟩ := bind_ok h
  obtain ⟨rfl, rfl⟩ := ret_ok h
  obtain ⟨a1, a2⟩ := num_ok h1 hL
  have hM : Byt M := by rw [a1] at hL; exact hL.right
  obtain ⟨b1, b2, b3⟩ := cells_ok h2 hM
  refine ⟨?_, chkState_of a2 b2 b3⟩
  unfold stateB mkS
  simp only [Int.toNat_natCast]
  rw [listB_getD, a1, b1, List.append_assoc]
theorem gone_ok {ys : List ByteArray} {L R : List Int} (h : goneS L = .ok (ys, R)) (hL : Byt L) : L = lsB keyB ys ++ R ∧ ys.length ≤ 64 ∧ ∀ (j : Nat), j < ys.length → (ys.getD j ⟨#[]⟩).size ≤ 12 ∧ (0 < j → Op.bytesLess (ys.getD (j - 1) ⟨#[]⟩).toList (ys.getD j ⟨#[]⟩).toList = true) := by
  obtain ⟨a, b, c⟩ := list_ok (P := fun s (y : ByteArray) => y.size ≤ 12 ∧ rises s y) (fun _ _ _ _ h hL => rise_ok h hL) h hL
  refine ⟨a, b, fun j hj => ?_⟩
  obtain ⟨h1, h2⟩ := c j _ (getD_get (d := ⟨#[]⟩) hj)
  exact ⟨h1, fun h0 => h2 _ (foldl_last (fun x => x) ys ⟨#[]⟩ j h0 (by omega))⟩
end Go.Proofs.YtfonicphdejdlaaGreat

namespace Go.Proofs.YtfonicphdejdlaaGreat
open Go.RowKit
set_option maxRecDepth 8000
theorem encB_al : ∀ (t u : VT), VT.Alike t u → encB t = encB u := by
  intro t
  induction t with
  | nil => intro u h; rw [show u = .nil from h]
  | mk k i s n p c f ih =>
    intro u h
    cases u with
    | nil =>
      obtain ⟨h1, h2, h3, h4, h5⟩ := h
      simp only [VT.kind, VT.n] at h1 h4
      subst h1
      simp [encB]
    | mk k' i' s' n' p' c' f' =>
      obtain ⟨h1, h2, h3, h4, h5⟩ := h
      simp only [VT.kind_mk, VT.int_mk, VT.text_mk, VT.n_mk] at h1 h2 h3 h4
      subst h1 h2 h3 h4
      rw [encB_eq, encB_eq]
      have e : ((List.range n').flatMap fun j => encB (f j)) = ((List.range n').flatMap fun j => encB (f' j)) := by
        rw [List.flatMap_def, List.flatMap_def]
        congr 1
        apply List.map_congr_left
        intro j hj
        exact ih j _ (h5 j (List.mem_range.1 hj))
      rw [e]
theorem valB_al {t u : VT} (h : VT.Alike t u) : valB u = valB t := by
  unfold valB cleanT
  rw [chk_alike t u 0 0 h]
  split
  · exact (encB_al t u h).symm
  · rfl
theorem listB_congr {α : Type} {enc : α → List Int} {n : Nat} {f g : Nat → α} (h : ∀ j, j < n → enc (f j) = enc (g j)) : listB enc n f = listB enc n g := by
  unfold listB
  congr 1
  rw [List.flatMap_def, List.flatMap_def]
  congr 1
  apply List.map_congr_left
  intro j hj
  exact h j (List.mem_range.1 hj)
theorem recB_al {r u : RT} (h : RT.Alike r u) : recB u = recB r := by
  unfold recB
  rw [h.key, valB_al h.v, h.n, listB_congr fun j hj => by rw [h.loop j hj]]
theorem cellB_al {t u : VT} (h : VT.Alike t u) : cellB u = cellB t := by
  unfold cellB
  rw [h.text, h.n, listB_congr fun j hj => valB_al (h.item hj)]
theorem stateB_al {s t : ST} (h : ST.Alike s t) : stateB t = stateB s := by
  unfold stateB
  rw [h.num, h.n, listB_congr fun j hj => cellB_al (h.cell j hj)]
theorem recsB_al {l u : LT RT} (h : RecsAlike l u) : recsB u = recsB l := by
  unfold recsB
  rw [h.1, listB_congr fun j hj => recB_al (h.2 j hj)]
theorem one_rec {y t : RT} {B : List Int} (h : recS B = .ok (y, [])) (hB : Byt B) (ha : RT.Alike y t) : recB t = B ∧ chkRec t = 0 := by
  obtain ⟨a, b⟩ := rec_ok h hB
  rw [List.append_nil] at a
  exact ⟨by rw [recB_al ha, ← a], by rw [← chkRec_alike ha]; exact b⟩
theorem one_state {y t : ST} {B : List Int} (h : stateS B = .ok (y, [])) (hB : Byt B) (ha : ST.Alike y t) : stateB t = B ∧ chkState t = 0 := by
  obtain ⟨a, b⟩ := state_ok h hB
  rw [List.append_nil] at a
  exact ⟨by rw [stateB_al ha, ← a], by rw [← chkState_alike ha]; exact b⟩
theorem one_row {y : Nat × RT} {t : OT} {B : List Int} (h : outS B = .ok (y, [])) (hB : Byt B) (ha : t.num = y.1 ∧ RT.Alike y.2 t.rec_) : outB t = B ∧ t.num ≤ 1073741824 ∧ chkRec t.rec_ = 0 := by
  obtain ⟨_, M, h1, h⟩ := bind_ok h
  obtain ⟨n, M2, h2, h⟩ := bind_ok h
  obtain ⟨r, M3, h3, h⟩ := bind_ok h
  obtain ⟨rfl, rfl⟩ := ret_ok h
  have a := first_ok h1
  have hM : Byt M := by rw [a] at hB; exact hB.tail
  obtain ⟨b1, b2⟩ := num_ok h2 hM
  have hM2 : Byt M2 := by rw [b1] at hM; exact hM.right
  obtain ⟨c1, c2⟩ := rec_ok h3 hM2
  obtain ⟨d1, d2⟩ := ha
  simp only at d1 d2
  rw [List.append_nil] at c1
  refine ⟨?_, by omega, by rw [← chkRec_alike d2]; exact c2⟩
  unfold outB
  rw [d1, recB_al d2, a, b1, c1]
theorem one_man {y : Nat × Nat × List (Nat × Nat)} {t : MT} {B : List Int} (h : manS B = .ok (y, [])) (hB : Byt B) (ha : t.Is y) : manB t = B ∧ VM t := by
  obtain ⟨_, M, h1, h⟩ := bind_ok h
  obtain ⟨i, M2, h2, h⟩ := bind_ok h
  obtain ⟨u, M3, h3, h⟩ := bind_ok h
  obtain ⟨l, M4, h4, h⟩ := bind_ok h
  obtain ⟨rfl, rfl⟩ := ret_ok h
  have a := first_ok h1
  have hM : Byt M := by rw [a] at hB; exact hB.tail
  obtain ⟨b1, b2⟩ := num_ok h2 hM
  have hM2 : Byt M2 := by rw [b1] at hM; exact hM.right
  obtain ⟨c1, c2⟩ := word_ok h3 hM2
  have hM3 : Byt M3 := by rw [c1] at hM2; exact hM2.right
  obtain ⟨e1, e2, e3⟩ := list_ok (enc := fileB) (P := fun (_ : Unit) (u : Nat × Nat) => u.1 ≤ 65536 ∧ u.2 < 4294967296) (fun s _ _ _ h hL => file_ok (s := s) h hL) h4 hM3
  obtain ⟨d1, d2, d3⟩ := ha
  simp only at d1 d2 d3
  rw [List.append_nil] at e1
  have hl := isl_bytes (enc := fileB) d3 (fun y u h => by rw [h])
  refine ⟨?_, ⟨by omega, by omega, by rw [d3.1]; omega, fun j hj => ?_⟩⟩
  · unfold manB
    rw [d1, d2, hl, a, b1, c1, e1]
  · have hj' : j < l.length := by rw [← d3.1]; exact hj
    have h6 := d3.2 j l[j] (by rw [List.getElem?_eq_getElem hj'])
    rw [h6]
    exact e3 j l[j] (by rw [List.getElem?_eq_getElem hj'])
/-- the cells of a difference -/
theorem chkState_isl {n : Nat} {l : LT VT} {ys : List VT} (hn : n ≤ 1073741824) (hl : ys.length ≤ 64) (h : ∀ j, j < ys.length → chkCell (fun j => ys.getD j .nil) j = 0) (ha : Isl VT.Alike l ys) : chkState ⟨(n : Int), l.p, l.n, l.c, l.item⟩ = 0 := by
  have h1 := chkState_of (p := l.p) (c := l.c) hn hl h
  have hal : ST.Alike ⟨(n : Int), l.p, ys.length, l.c, fun j => ys.getD j .nil⟩ ⟨(n : Int), l.p, l.n, l.c, l.item⟩ := ⟨rfl, ha.1, fun j hj => ha.2 j _ (getD_get (d := .nil) hj)⟩
  rw [← chkState_alike hal]
  exact h1
theorem delta_ok {y : Nat × List VT × List ByteArray} {d : DT} {L R : List Int} (h : deltaS L = .ok (y, R)) (hL : Byt L) (ha : d.Is y) : L = deltaB d ++ R ∧ chkState ⟨(d.num : Int), d.set.p, d.set.n, d.set.c, d.set.item⟩ = 0 ∧ d.gone.n ≤ 64 ∧ Rises d.gone := by
  obtain ⟨n, M, h1, h⟩ := bind_ok h
  obtain ⟨c, M2, h2, h⟩ := bind_ok h
  obtain ⟨g, M3, h3, h⟩ := bind_ok h
  obtain ⟨rfl, rfl⟩ := ret_ok h
  obtain ⟨a1, a2⟩ := num_ok h1 hL
  have hM : Byt M := by rw [a1] at hL; exact hL.right
  obtain ⟨b1, b2, b3⟩ := cells_ok h2 hM
  have hM2 : Byt M2 := by rw [b1] at hM; exact hM.right
  obtain ⟨c1, c2, c3⟩ := gone_ok h3 hM2
  obtain ⟨d1, d2, d3⟩ := ha
  simp only at d1 d2 d3
  refine ⟨?_, by rw [d1]; exact chkState_isl a2 b2 b3 d2, by rw [d3.1]; omega, fun j hj => ?_⟩
  · unfold deltaB
    rw [d1, isl_bytes (enc := cellB) d2 (fun y u h => cellB_al h), isl_bytes (enc := keyB) d3 (fun y u h => by rw [h]), a1, b1, c1]
    simp [List.append_assoc]
  · have hj' : j < g.length := by rw [← d3.1]; exact hj
    have e : ∀ i, i < g.length → d.gone.item i = g.getD i ⟨#[]⟩ := fun i hi => d3.2 i _ (getD_get (d := ⟨#[]⟩) hi)
    obtain ⟨x1, x2⟩ := c3 j hj'
    rw [e j hj']
    refine ⟨x1, fun h0 => ?_⟩
    rw [e (j - 1) (by omega)]
    exact x2 h0
theorem isl_recs {l : LT RT} {ys : List RT} (h : Isl RT.Alike l ys) (hc : ∀ (j : Nat) (y : RT), ys[j]? = some y → chkRec y = 0) : ∀ j, j < l.n → chkRec (l.item j) = 0 := by
  intro j hj
  have hj' : j < ys.length := by rw [← h.1]; exact hj
  have h1 := h.2 j ys[j] (by rw [List.getElem?_eq_getElem hj'])
  rw [← chkRec_alike h1]
  exact hc j _ (by rw [List.getElem?_eq_getElem hj'])
theorem isl_logs {l : LT (LT RT)} {ys : List (LT RT)} (h : Isl RecsAlike l ys) (hc : ∀ (j : Nat) (y : LT RT), ys[j]? = some y → y.n ≤ 256 ∧ ∀ i, i < y.n → chkRec (y.item i) = 0) : ∀ j, j < l.n → (l.item j).n ≤ 256 ∧ ∀ i, i < (l.item j).n → chkRec ((l.item j).item i) = 0 := by
  intro j hj
  have hj' : j < ys.length := by rw [← h.1]; exact hj
  have h1 := h.2 j ys[j] (by rw [List.getElem?_eq_getElem hj'])
  obtain ⟨h2, h3⟩ := hc j _ (by rw [List.getElem?_eq_getElem hj'])
  refine ⟨by rw [h1.1]; exact h2, fun i hi => ?_⟩
  rw [h1.1] at hi
  rw [← chkRec_alike (h1.2 i hi)]
  exact h3 i hi
theorem one_seg {y : GP} {g : GT} {B : List Int} (h : segS B = .ok (y, [])) (hB : Byt B) (ha : g.Is y) : segB g = B ∧ FG g := by
  obtain ⟨_, M, h1, h⟩ := bind_ok h
  obtain ⟨i, M2, h2, h⟩ := bind_ok h
  obtain ⟨t, M3, h3, h⟩ := bind_ok h
  obtain ⟨b, M4, h4, h⟩ := bind_ok h
  have a := first_ok h1
  have hM : Byt M := by rw [a] at hB; exact hB.tail
  obtain ⟨a1, a2⟩ := num_ok h2 hM
  have hM2 : Byt M2 := by rw [a1] at hM; exact hM.right
  obtain ⟨b1, b2⟩ := num_ok h3 hM2
  have hM3 : Byt M3 := by rw [b1] at hM2; exact hM2.right
  obtain ⟨c1, c2⟩ := num_ok h4 hM3
  have hM4 : Byt M4 := by rw [c1] at hM3; exact hM3.right
  by_cases hb : b = 0
  · rw [if_pos hb] at h
    obtain ⟨s, M5, h5, h⟩ := bind_ok h
    obtain ⟨l, M6, h6, h⟩ := bind_ok h
    obtain ⟨p, M7, h7, h⟩ := bind_ok h
    obtain ⟨rfl, rfl⟩ := ret_ok h
    obtain ⟨d1, d2⟩ := state_ok h5 hM4
    have hM5 : Byt M5 := by rw [d1] at hM4; exact hM4.right
    obtain ⟨e1, e2, e3⟩ := logs_ok h6 hM5
    have hM6 : Byt M6 := by rw [e1] at hM5; exact hM5.right
    obtain ⟨f1, f2, f3⟩ := recs_ok h7 hM6
    rw [List.append_nil] at f1
    obtain ⟨g1, g2, g3, g4, g5, g6, g7, g8⟩ := ha
    simp only at g1 g2 g3 g4 g5 g6 g7 g8
    have hlg := isl_logs g7 e3
    refine ⟨?_, ⟨by omega, by omega, by omega, by omega, fun _ => ⟨g4, g6.1, by rw [g6.2.1.1]; rfl, by rw [g6.2.2.1]; rfl, by rw [← chkState_alike g5]; exact d2⟩, fun h0 => absurd g3 h0, by rw [g7.1]; omega, fun j hj => (hlg j hj).1, fun j hj => (hlg j hj).2, by rw [g8.1]; omega, isl_recs g8 f3⟩⟩
    unfold segB
    rw [if_pos g3, g1, g2, g3, stateB_al g5, isl_bytes (enc := recsB) g7 (fun y u h => recsB_al h), show recsB g.pend = lsB recB p from isl_bytes (enc := recB) g8 (fun y u h => recB_al h), a, a1, b1, c1, hb, d1, e1, f1]
  · rw [if_neg hb] at h
    obtain ⟨u, M5, h5, h⟩ := bind_ok h
    obtain ⟨dd, M6, h6, h⟩ := bind_ok h
    obtain ⟨l, M7, h7, h⟩ := bind_ok h
    obtain ⟨p, M8, h8, h⟩ := bind_ok h
    obtain ⟨rfl, rfl⟩ := ret_ok h
    obtain ⟨g1, g2, g3, g4, g5, g6, g7, g8⟩ := ha
    simp only at g1 g2 g3 g4 g5 g6 g7 g8
    obtain ⟨d1, d2⟩ := word_ok h5 hM4
    have hM5 : Byt M5 := by rw [d1] at hM4; exact hM4.right
    obtain ⟨x1, x2, x3, x4⟩ := delta_ok h6 hM5 g6
    have hM6 : Byt M6 := by rw [x1] at hM5; exact hM5.right
    obtain ⟨e1, e2, e3⟩ := logs_ok h7 hM6
    have hM7 : Byt M7 := by rw [e1] at hM6; exact hM6.right
    obtain ⟨f1, f2, f3⟩ := recs_ok h8 hM7
    rw [List.append_nil] at f1
    have hlg := isl_logs g7 e3
    have hgb : g.base ≠ 0 := by omega
    refine ⟨?_, ⟨by omega, by omega, by omega, by omega, fun h0 => absurd h0 hgb, fun _ => ⟨by rw [g5.num]; rfl, by rw [g5.n]; rfl, x2, x3, x4⟩, by rw [g7.1]; omega, fun j hj => (hlg j hj).1, fun j hj => (hlg j hj).2, by rw [g8.1]; omega, isl_recs g8 f3⟩⟩
    unfold segB
    rw [if_neg hgb, g1, g2, g3, g4, isl_bytes (enc := recsB) g7 (fun y u h => recsB_al h), show recsB g.pend = lsB recB p from isl_bytes (enc := recB) g8 (fun y u h => recB_al h), a, a1, b1, c1, d1, x1, e1, f1]
    simp [List.append_assoc]
end Go.Proofs.YtfonicphdejdlaaGreat

namespace Go.Proofs.YtfonicphdejdlaaGreat
open Go.RowKit
set_option maxRecDepth 8000
theorem OwnBy.byts {base : Nat} {w : World} {v : Value} {zs : List Int} (h : OwnBy base w v zs) (hz : Byt zs) (hl : zs.length ≤ 140737488355328) : ∃ p c, v = .slice p zs.length c ∧ Byts w (fun b => base ≤ b) p zs.length c (fun j => zs.getD j 0) := by
  have hlt := World.ownsRow.lt h
  have hce := @World.ownsRow.cells _ _ _ _ _ _ _ h
  have hfit : ∀ j, j < zs.length → 0 ≤ zs.getD j 0 ∧ zs.getD j 0 < 256 := fun j hj => hz _ (by simp [List.getD_eq_getElem?_getD, List.getElem?_eq_getElem hj])
  obtain ⟨_, ⟨hv, h0⟩ | ⟨gb, cap, cur, hv, hbg, hh, hnc, hcm, hcs, htake⟩⟩ := id h
  · refine ⟨none, 0, by rw [hv, h0], ⟨fun h1 => by omega, by omega, hl, Nat.zero_le _, hfit, fun _ => ⟨h0, rfl⟩⟩⟩
  · refine ⟨_, cap, hv, fun h1 => ⟨gb, 0, rfl, hbg, (hlt gb (by rw [hv]; rfl)).2, fun j hj => ?_⟩, hnc, hl, hcm, hfit, fun h => by cases h⟩
    have := hce (g := gb) (by rw [hv]; rfl) j (.int .u8 (zs.getD j 0)) (by simp [List.getD_eq_getElem?_getD, List.getElem?_eq_getElem hj])
    rw [Go.WideShapes.add_plain] at this
    exact this
def want7 : List Int := [1, 97, 1, 10, 2, 0, 2]
theorem byt7 : Byt want7 := by
  intro x hx
  simp only [want7, List.mem_cons, List.not_mem_nil, or_false] at hx
  rcases hx with rfl | rfl | rfl | rfl | rfl | rfl | rfl <;> decide
/-- the chapter's record -/
def r5 (b : Nat) : RT := ⟨⟨#[97]⟩, mkI 5, some ⟨b, 0, none⟩, 2, 2, fun j => if j = 0 then 0 else 2⟩
theorem rec7 : recS want7 = .ok (mkR ⟨#[97]⟩ (mkI 5) [0, 2], []) := by kernel_rfl
theorem alike7 (b : Nat) : RT.Alike (mkR ⟨#[97]⟩ (mkI 5) [0, 2]) (r5 b) := by
  refine ⟨rfl, VT.Alike.refl _, rfl, fun j hj => ?_⟩
  have hj2 : j < 2 := hj
  rcases (by omega : j = 0 ∨ j = 1) with rfl | rfl <;> rfl
theorem one7 (b : Nat) : recB (r5 b) = want7 ∧ chkRec (r5 b) = 0 := one_rec rec7 byt7 (alike7 b)
theorem leaf7 {t : RT} (b : Nat) (h : RT.Alike (mkR ⟨#[97]⟩ (mkI 5) [0, 2]) t) : LeafR t (r5 b) := by
  obtain ⟨h1, h2, h3, h4⟩ := h
  refine ⟨h1.symm, ⟨h2.kind.symm, h2.int.symm, h2.text.symm, h2.n, rfl⟩, h3.symm, fun j hj => ?_⟩
  have hj2 : j < 2 := by rw [h3] at hj; exact hj
  rw [h4 j hj2]
  rcases (by omega : j = 0 ∨ j = 1) with rfl | rfl <;> rfl
set_option maxHeartbeats 8000000 in
theorem known_any (w : World) : Calls Tryz.prog 8 #[] w fun x w' => x = .returned (.bool true) ∧ Below w.heap.size w w' := by
  obtain ⟨W0, hW0⟩ : ∃ W0, W0 = ((w.alloc (.cells #[.int .i64 0, .int .i64 2] 3)).alloc (.cells #[.string ⟨#[97]⟩, .int .i64 1, .int .i64 5, .string ⟨#[]⟩, .slice none 0 0, .slice (some ⟨w.heap.size, 0, none⟩) 2 2] 27)).alloc (.cells #[.int .u8 1, .int .u8 97, .int .u8 1, .int .u8 10, .int .u8 2, .int .u8 0, .int .u8 2] 5) := ⟨_, rfl⟩
  have hb0 : Below w.heap.size w W0 := by rw [hW0]; exact (((Below.refl _ _).alloc (Nat.le_refl _) _).alloc (by simp) _).alloc (by simp; omega) _
  have l1 := fun (W : World) o => (Below.refl W.heap.size W).alloc (Nat.le_refl _) o
  have z1 : (w.alloc (.cells #[.int .i64 0, .int .i64 2] 3)).heap.size = w.heap.size + 1 := by simp
  have z2 : ((w.alloc (.cells #[.int .i64 0, .int .i64 2] 3)).alloc (.cells #[.string ⟨#[97]⟩, .int .i64 1, .int .i64 5, .string ⟨#[]⟩, .slice none 0 0, .slice (some ⟨w.heap.size, 0, none⟩) 2 2] 27)).heap.size = w.heap.size + 1 + 1 := by simp
  have hL : Box W0 w.heap.size #[.int .i64 0, .int .i64 2] 3 := by rw [hW0]; exact ((Box.new w _ _).below (l1 _ _)).below (l1 _ _)
  have hF : Box W0 (w.heap.size + 1) #[.string ⟨#[97]⟩, .int .i64 1, .int .i64 5, .string ⟨#[]⟩, .slice none 0 0, .slice (some ⟨w.heap.size, 0, none⟩) 2 2] 27 := by
    have h := Box.new (w.alloc (.cells #[.int .i64 0, .int .i64 2] 3)) #[.string ⟨#[97]⟩, .int .i64 1, .int .i64 5, .string ⟨#[]⟩, .slice none 0 0, .slice (some ⟨w.heap.size, 0, none⟩) 2 2] 27
    rw [z1] at h
    rw [hW0]; exact h.below (l1 _ _)
  have hB : Box W0 (w.heap.size + 1 + 1) #[.int .u8 1, .int .u8 97, .int .u8 1, .int .u8 10, .int .u8 2, .int .u8 0, .int .u8 2] 5 := by
    have h := Box.new ((w.alloc (.cells #[.int .i64 0, .int .i64 2] 3)).alloc (.cells #[.string ⟨#[97]⟩, .int .i64 1, .int .i64 5, .string ⟨#[]⟩, .slice none 0 0, .slice (some ⟨w.heap.size, 0, none⟩) 2 2] 27)) #[.int .u8 1, .int .u8 97, .int .u8 1, .int .u8 10, .int .u8 2, .int .u8 0, .int .u8 2] 5
    rw [z2] at h
    rw [hW0]; exact h
  have hws : w.heap.size + 1 + 1 < W0.heap.size := hB.lt
  have hI : ∀ W, Below W0.heap.size W0 W → RT.In W (fun b => b = w.heap.size) (r5 w.heap.size) := fun W hW => by
    have hL2 := hL.below hW
    refine ⟨⟨⟨by decide, by decide, by decide, by decide, by decide, by decide, by decide, by decide, fun _ => ⟨rfl, rfl⟩⟩, fun h => absurd h (by decide), fun j h => absurd h (Nat.not_lt_zero j)⟩, ⟨fun _ => ⟨w.heap.size, 0, rfl, rfl, hL2.lt, fun j hj => ?_⟩, (show 2 ≤ 2 by decide), (show 2 ≤ 140737488355328 by decide), (show 2 ≤ maxLen by decide), fun j hj => ?_, fun h => by cases h⟩, (show (⟨#[97]⟩ : ByteArray).size ≤ _ by decide)⟩
    · have hj2 : j < 2 := hj
      rcases (by omega : j = 0 ∨ j = 1) with rfl | rfl
      · have := hL2.cell 0; simpa [r5] using this
      · have := hL2.cell 1; simpa [r5] using this
    · have hj2 : j < 2 := hj
      rcases (by omega : j = 0 ∨ j = 1) with rfl | rfl
      · show -9223372036854775808 ≤ (0 : Int) ∧ (0 : Int) ≤ 9223372036854775807
        decide
      · show -9223372036854775808 ≤ (2 : Int) ∧ (2 : Int) ≤ 9223372036854775807
        decide
  have hY : ∀ W, Below W0.heap.size W0 W → Byts W (fun b => b = w.heap.size + 1 + 1) (some ⟨w.heap.size + 1 + 1, 0, none⟩) want7.length 7 (fun j => want7.getD j 0) := fun W hW => by
    have hB2 := hB.below hW
    refine ⟨fun _ => ⟨w.heap.size + 1 + 1, 0, rfl, rfl, hB2.lt, fun j hj => ?_⟩, by decide, by decide, by decide, fun j hj => ?_, fun h => by cases h⟩
    · have hj2 : j < 7 := hj
      rcases (by omega : j = 0 ∨ j = 1 ∨ j = 2 ∨ j = 3 ∨ j = 4 ∨ j = 5 ∨ j = 6) with rfl | rfl | rfl | rfl | rfl | rfl | rfl
      · have := hB2.cell 0; simpa [want7] using this
      · have := hB2.cell 1; simpa [want7] using this
      · have := hB2.cell 2; simpa [want7] using this
      · have := hB2.cell 3; simpa [want7] using this
      · have := hB2.cell 4; simpa [want7] using this
      · have := hB2.cell 5; simpa [want7] using this
      · have := hB2.cell 6; simpa [want7] using this
    · exact byt7 _ (by simp [List.getD_eq_getElem?_getD, List.getElem?_eq_getElem hj])
  have HP := hid (lawputRec 1 (by decide) (by decide) (by decide) (by decide) (r5 w.heap.size) W0 (fun b => b = w.heap.size) (hI W0 (Below.refl _ _)) (one7 _).2 (fun b hb => by omega))
  rw [(one7 w.heap.size).1] at HP
  have HI := hid hI
  have HY := hid hY
  have HF := hid hF
  have HB0 := hid hb0
  have HWs := hid hws
  have hth : thRT 1 (r5 w.heap.size) = #[.int .i64 1, .string ⟨#[97]⟩, .int .i64 1, .int .i64 5, .string ⟨#[]⟩, .slice none 0 0, .slice (some ⟨w.heap.size, 0, none⟩) 2 2, .int .i64 0, .slice none 0 0, .int .i64 0, .int .i64 0, .int .i64 0, .int .u32 0, .int .i64 0, .slice none 0 0, .int .i64 0, .slice none 0 0, .slice none 0 0, .slice none 0 0, .slice none 0 0, .int .i64 0, .int .u32 0, .slice none 0 0, .int .i64 0, .string ⟨#[]⟩, .int .i64 0, .int .i64 0, .string ⟨#[]⟩, .slice none 0 0, .slice none 0 0] := rfl
  rw [hth, hW0] at HP
  clear hI hY hF hb0 hws hL hB l1 z1 z2 hth
  go_enter Tryz.func8, Tryz.ntmps8
  go_wp2_with fail
  refine HP.out.mono ?_
  rw [← hW0]
  rintro x w1 ⟨v1, rfl, ho1, hb1⟩
  obtain ⟨p1, c1, rfl, hy1⟩ := ho1.byts byt7 (by decide)
  have HS := hid (wsame_any w1 _ _ p1 (some ⟨w.heap.size + 1 + 1, 0, none⟩) 7 c1 7 (fun j => want7.getD j 0) hy1 (HY.out w1 hb1))
  have HB1 := hid hb1
  clear ho1 hy1 HP hb1
  have e7 : want7.length = 7 := rfl
  rw [e7]
  clear e7
  go_wp2_with fail
  refine HS.out.mono ?_
  rintro x w2 ⟨rfl, hb2⟩
  have hb02 : Below W0.heap.size W0 w2 := HB1.out.trans (hb2.mono HB1.out.size)
  have hs2 := hb02.size
  have HG := hid (lawgetRec 1 (by decide) (by decide) (by decide) (by decide) w2 (.slice (some ⟨w.heap.size + 1 + 1, 0, none⟩) 7 7) (fun W t k w' => GetP recS RT.val zRT RT.In (fun t y => RT.Alike y t) W want7 t k w') (fun W t k w' h => h.bel) (fun W hW => getRec W (fun b => b = w.heap.size + 1 + 1) (some ⟨w.heap.size + 1 + 1, 0, none⟩) 7 want7 ((HY.out w2 hb02).kept hW.size fun b _ hl => hW.block b hl) (fun b hb => by have := HWs.out; have := hW.size; omega)))
  have HB2 := hid hb02
  clear hb2 hb02 HS
  go_wp2_with fail
  refine HG.out.mono ?_
  rintro x w3 ⟨t, e, W, wg, rfl, hbW, hWs, hg, hkg⟩
  obtain ⟨he, hal⟩ := hg.good _ rec7
  subst he
  have hsg := hg.bel.size
  have hs23 := hbW.size
  have hb3 : Below w2.heap.size w2 w3 := (hbW.trans (hg.bel.mono (by omega))).trans (hkg.below (by omega) (fun k hk h => by omega))
  have hin3 : RT.In w3 (fun b => W.heap.size ≤ b) t := hg.inn.but hkg (fun b hb _ h => by omega)
  have hb03 : Below W0.heap.size W0 w3 := HB2.out.trans (hb3.mono hs2)
  have hs3 := hb3.size
  have hBx := Box.new w3 zC 45
  have HBx := hid hBx
  have HX := hid (And.intro hb03 (And.intro hin3 hal))
  have hsW0 := HB0.out.size
  clear hBx hb3 hin3 hb03 hg hkg hbW hWs hal hsg hs23 HG
  go_wp2_with (refine wpList_store_any rfl 45 (.tmp 5) (.tmp 28) rfl w3.heap.size (thRT 1 t) rfl rfl 45 zC HBx.out (by rw [info45]; rfl) rfl (thRT_one 1 t) ?_)
  intro w4 ht4 hk4
  have hb4 : Below w3.heap.size w3 w4 := ((Below.refl _ _).alloc (Nat.le_refl _) _).trans (hk4.below (by simp) (fun k hk h => by omega))
  obtain ⟨hb03, hin3, hal⟩ := HX.out
  have c1 := (ht4.cell 1).trans (show (thRT 1 t)[1]? = some (.string t.key) from rfl)
  have c2 := (ht4.cell 2).trans (show (thRT 1 t)[2]? = some (.int .i64 t.v.kind) from rfl)
  have c3 := (ht4.cell 3).trans (show (thRT 1 t)[3]? = some (.int .i64 t.v.int) from rfl)
  have c4 := (ht4.cell 4).trans (show (thRT 1 t)[4]? = some (.string t.v.text) from rfl)
  have c5 := (ht4.cell 5).trans (show (thRT 1 t)[5]? = some (.slice t.v.p t.v.n t.v.c) from rfl)
  have c6 := (ht4.cell 6).trans (show (thRT 1 t)[6]? = some (.slice t.p t.n t.c) from rfl)
  have hF4 := (HF.out.below hb03).below hb4
  have d0 := hF4.cell 0
  have d1 := hF4.cell 1
  have d2 := hF4.cell 2
  have d3 := hF4.cell 3
  have d4 := hF4.cell 4
  have d5 := hF4.cell 5
  simp only [List.getElem?_toArray, List.getElem?_cons_zero, List.getElem?_cons_succ] at d0 d1 d2 d3 d4 d5
  have HR := hid (sameRecord_leaf t (r5 w.heap.size) (leaf7 w.heap.size hal) w4 (fun b => b < w3.heap.size) ((hin3.mono (S' := fun b => b < w3.heap.size) (fun b hb hl => hl)).below hb4) (((HI.out w3 hb03).mono (S' := fun b => b < w3.heap.size) (fun b hb hl => hl)).below hb4) (fun b hb => by have := hb4.size; omega))
  have hr5 : RT.val (r5 w.heap.size) = .agg #[.string ⟨#[97]⟩, .int .i64 1, .int .i64 5, .string ⟨#[]⟩, .slice none 0 0, .slice (some ⟨w.heap.size, 0, none⟩) 2 2] := rfl
  rw [hr5] at HR
  unfold RT.val at HR
  have HB4 := hid ((HB0.out.trans (hb03.mono hsW0)).trans (hb4.mono (by omega)))
  clear hr5 hb4 ht4 hF4 hb03 hin3 hal hk4
  go_wp2_with fail
  refine HR.out.mono ?_
  rintro x w5 ⟨rfl, hb5⟩
  have HB5 := hid (HB4.out.trans (hb5.mono HB4.out.size))
  clear hb5 HR
  go_wp2
  go_ret
  exact ⟨rfl, HB5.out⟩
end Go.Proofs.YtfonicphdejdlaaGreat

namespace Go.Proofs.YtfonicphdejdlaaGreat
open Go.RowKit
set_option maxRecDepth 8000
/-- what get and put of one kind come to -/
def OneK (k : Int) (B : List Int) (x : Ending) (W w' : World) : Prop :=
  ∃ (cT : Array Value) (e : Int), x = .returned (.tuple #[.agg cT, .int .i64 e]) ∧ cT.size = 30 ∧ cT.all (·.oneCell') = true ∧ Below W.heap.size W w' ∧ (e ≠ 0 → cT = kC k) ∧ (e = 0 → ∀ W2, Below w'.heap.size w' W2 → Calls Tryz.prog 11 #[.agg cT] W2 fun x w'' => PutP B W2 x w'')
set_option maxHeartbeats 8000000 in
theorem one_core (k : Int) (w : World) (S : Nat → Prop) (p : Option Addr) (c : Nat) (B : List Int) (hB : Byts w S p B.length c (fun j => B.getD j 0))
    (HG : ∀ W, Below w.heap.size w W → B.length ≤ 262144 → Calls Tryz.prog 12 #[.int .i64 k, .slice p B.length c] W fun x w' => OneK k B x W w') :
    Calls Tryz.prog 4 #[.int .i64 k, .slice p B.length c] w fun x w' => x = .returned (.bool true) ∧ Below w.heap.size w w' := by
  have hByt : Byt B := by
    intro x hx
    obtain ⟨j, hj, rfl⟩ := List.getElem_of_mem hx
    have := hB.fit j hj
    simpa [List.getD_eq_getElem?_getD, List.getElem?_eq_getElem hj] using this
  have hbnn := hB.nn
  have H := fun W => known_any W
  have HY := hid hB
  have HGt := hid HG
  have HBy := hid hByt
  clear hB HG hByt
  obtain ⟨n, hn⟩ : ∃ n, n = B.length := ⟨_, rfl⟩
  have HNn := hid hn
  rw [← hn] at HY HGt hbnn ⊢
  clear hn
  go_enter Tryz.func4, Tryz.ntmps4
  go_wp2_with fail
  refine (H _).mono ?_
  rintro x w1 ⟨rfl, hb1⟩
  have HB1 := hid hb1
  clear H hb1
  by_cases hbig : 262144 < n
  · have hbig' : (262144 : Int) < (n : Int) := by omega
    go_wp2
    go_ret
    exact ⟨rfl, HB1.out⟩
  · have hbig' : ¬ (262144 : Int) < (n : Int) := by omega
    have HC := hid (HGt.out w1 HB1.out (by omega))
    clear HGt
    go_wp2_with fail
    refine HC.out.mono ?_
    rintro x w2 ⟨cT, e, rfl, hsz, hon, hb2, he0, he1⟩
    have hBx := Box.new w2 zC 45
    have HBx := hid hBx
    have hs1 := HB1.out.size
    have HB2 := hid (HB1.out.trans (hb2.mono hs1))
    have hs2 := HB2.out.size
    have HE := hid (And.intro he0 he1)
    have HSz := hid hsz
    have HOn := hid hon
    clear hBx HC hb2 he0 he1 hsz hon
    go_wp2_with (refine wpList_store_any rfl 45 (.tmp 5) (.tmp 18) rfl w2.heap.size cT rfl rfl 45 zC HBx.out (by rw [info45, HSz.out]) (by rw [HSz.out]; rfl) HOn.out ?_)
    intro w3 ht3 hk3
    have hb3 : Below w2.heap.size w2 w3 := ((Below.refl _ _).alloc (Nat.le_refl _) _).trans (hk3.below (by simp) (fun k hk h => by omega))
    have HT3 := hid ht3
    have HB3 := hid hb3
    clear ht3 hk3 hb3
    by_cases he : e = 0
    · subst he
      have HP := hid (HE.out.2 rfl w3 HB3.out)
      clear HE
      go_wp2_with (refine wpList_load_row rfl 45 (.tmp 5) rfl w2.heap.size rfl 45 cT (0, 0) _ HT3.out Tryz.underlying45 rfl (by rw [info45, HSz.out]) ?_)
      refine HP.out.mono ?_
      rintro x w4 ⟨v4, rfl, ho4, hb4⟩
      obtain ⟨p4, c4, rfl, hy4⟩ := ho4.byts HBy.out (by have := HNn.out; omega)
      have hs3 := HB3.out.size
      have hbw : Below w.heap.size w w4 := (HB2.out.trans (HB3.out.mono hs2)).trans (hb4.mono (by omega))
      rw [← HNn.out] at hy4 ⊢
      have HS := hid (wsame_any w4 _ _ p p4 n c c4 (fun j => B.getD j 0) (HY.out.kept hbw.size fun b _ hl => hbw.block b hl) hy4)
      have HBw := hid hbw
      clear ho4 hy4 hb4 hbw HP
      go_wp2_with fail
      refine HS.out.mono ?_
      rintro x w5 ⟨rfl, hb5⟩
      have HB5 := hid (HBw.out.trans (hb5.mono HBw.out.size))
      clear hb5 HS
      go_wp2
      go_ret
      exact ⟨rfl, HB5.out⟩
    · have he' : (e == 0) = false := by simpa using he
      have hcT := HE.out.1 he
      subst hcT
      have HZ := hid (sameThing_zero k w3)
      clear HE
      go_wp2_with (refine wpList_load_row rfl 45 (.tmp 5) rfl w2.heap.size rfl 45 (kC k) (0, 0) _ HT3.out Tryz.underlying45 rfl (by rw [info45]; rfl) ?_)
      refine HZ.out.mono ?_
      rintro x w4 ⟨rfl, hb4⟩
      have hs3 := HB3.out.size
      have HB4 := hid ((HB2.out.trans (HB3.out.mono hs2)).trans (hb4.mono (by omega)))
      clear hb4 HZ
      go_wp2
      go_ret
      exact ⟨rfl, HB4.out⟩
end Go.Proofs.YtfonicphdejdlaaGreat
