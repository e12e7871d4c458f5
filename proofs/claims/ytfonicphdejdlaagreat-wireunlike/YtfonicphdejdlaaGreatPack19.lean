import Derived.Test.YtfonicphdejdlaaGreatPack16
import Derived.Test.YtfonicphdejdlaaGreatWpI
import Derived.Test.YtfonicphdejdlaaGreatPack5
namespace Go.Proofs.YtfonicphdejdlaaGreat
open Go.RowKit
set_option maxRecDepth 8000

theorem iter_ok {α σ : Type} {item : σ → RS α} {nx : σ → α → σ} {enc : α → List Int} {P : σ → α → Prop} (hI : ∀ s L y R, item s L = .ok (y, R) → Byt L → L = enc y ++ R ∧ P s y) : ∀ m s L ys s' R, iterS item nx m s L = .ok ((ys, s'), R) → Byt L → L = ys.flatMap enc ++ R ∧ ys.length = m ∧ s' = ys.foldl nx s ∧ ∀ (j : Nat) (y : α), ys[j]? = some y → P ((ys.take j).foldl nx s) y := by
  intro m
  induction m with
  | zero =>
    intro s L ys s' R h hL
    obtain ⟨h1, rfl⟩ := ret_ok h
    cases h1
    exact ⟨rfl, rfl, rfl, fun j y hj => by simp at hj⟩
  | succ m ih =>
    intro s L ys s' R h hL
    obtain ⟨⟨zs, s1⟩, M, h1, h⟩ := bind_ok h
    obtain ⟨x, M2, h2, h⟩ := bind_ok h
    obtain ⟨h3, rfl⟩ := ret_ok h
    simp only [Prod.mk.injEq] at h3
    obtain ⟨rfl, rfl⟩ := h3
    obtain ⟨a1, a2, a3, a4⟩ := ih s L zs s1 M h1 hL
    have hM : Byt M := by rw [a1] at hL; exact hL.right
    obtain ⟨b1, b2⟩ := hI s1 M x R h2 hM
    refine ⟨by rw [a1, b1]; simp, by simp [a2], by rw [a3]; simp, fun j y hj => ?_⟩
    by_cases hjl : j < zs.length
    · rw [List.getElem?_append_left hjl] at hj
      rw [List.take_append_of_le_length (by omega)]
      exact a4 j y hj
    · have hjm : j < (zs ++ [x]).length := by
        rcases Nat.lt_or_ge j (zs ++ [x]).length with h1 | h1
        · exact h1
        · rw [List.getElem?_eq_none h1] at hj; cases hj
      have he : j = zs.length := by simp only [List.length_append, List.length_singleton] at hjm hjl; omega
      subst he
      rw [List.getElem?_append_right (Nat.le_refl _)] at hj
      simp at hj
      subst hj
      rw [List.take_append_of_le_length (Nat.le_refl _), List.take_length, ← a3]
      exact b2
def lsB {α : Type} (enc : α → List Int) (ys : List α) : List Int := grpB ys.length ++ ys.flatMap enc
theorem list_ok {α σ : Type} {bound : Nat} {item : σ → RS α} {nx : σ → α → σ} {enc : α → List Int} {P : σ → α → Prop} (hI : ∀ s L y R, item s L = .ok (y, R) → Byt L → L = enc y ++ R ∧ P s y) {s : σ} {L R : List Int} {ys : List α} (h : listS bound item nx s L = .ok (ys, R)) (hL : Byt L) : L = lsB enc ys ++ R ∧ ys.length ≤ bound ∧ ∀ (j : Nat) (y : α), ys[j]? = some y → P ((ys.take j).foldl nx s) y := by
  obtain ⟨m, M, h1, h⟩ := bind_ok h
  obtain ⟨⟨zs, s1⟩, M2, h2, h⟩ := bind_ok h
  obtain ⟨h3, rfl⟩ := ret_ok h
  simp only at h3
  subst h3
  obtain ⟨a1, a2⟩ := num_ok h1 hL
  have hM : Byt M := by rw [a1] at hL; exact hL.right
  obtain ⟨b1, b2, _, b4⟩ := iter_ok hI m s M ys s1 R h2 hM
  refine ⟨?_, by omega, b4⟩
  unfold lsB
  rw [a1, b1, b2, List.append_assoc]
theorem range_getD' {α : Type} (d : α) (l : List α) (g : α → List Int) : ((List.range l.length).flatMap fun j => g (l.getD j d)) = l.flatMap g := by
  have e : (List.range l.length).map (fun j => l.getD j d) = l := by
    apply List.ext_getElem
    · simp
    · intro i h1 h2
      simp [List.getD_eq_getElem?_getD, List.getElem?_eq_getElem h2]
  have h := congrArg (fun z => z.flatMap g) e
  simpa [List.flatMap_map] using h
theorem listB_getD {α : Type} (d : α) (l : List α) (g : α → List Int) : listB g l.length (fun j => l.getD j d) = lsB g l := by
  unfold listB lsB
  rw [range_getD']
/-- a laid list's bytes -/
theorem isl_bytes {α : Type} {Al : α → α → Prop} {enc : α → List Int} {l : LT α} {ys : List α} (h : Isl Al l ys) (he : ∀ y u, Al y u → enc u = enc y) : listB enc l.n l.item = lsB enc ys := by
  obtain ⟨h1, h2⟩ := h
  unfold listB lsB
  rw [h1]
  congr 1
  have e : (List.range ys.length).map (fun j => enc (l.item j)) = ys.map enc := by
    apply List.ext_getElem
    · simp
    · intro i h3 h4
      simp at h3
      simp
      exact he _ _ (h2 i ys[i] (by rw [List.getElem?_eq_getElem h3]))
  rw [List.flatMap_def, List.flatMap_def, e]
theorem hop_ok {s : Unit} {x : Int} {L R : List Int} (h : hopI L = .ok (x, R)) (hL : Byt L) : L = hopB x ++ R ∧ (fun (_ : Unit) (x : Int) => 0 ≤ x ∧ x ≤ 9) s x := by
  obtain ⟨n, M, h1, h⟩ := bind_ok h
  obtain ⟨rfl, rfl⟩ := ret_ok h
  obtain ⟨a, b⟩ := num_ok h1 hL
  refine ⟨by unfold hopB; simpa using a, ?_⟩
  show (0 : Int) ≤ (n : Int) ∧ (n : Int) ≤ 9
  omega
theorem firstC_zero {g : Nat → Nat} : ∀ n, (∀ j, j < n → g j = 0) → firstC g n = 0 := by
  intro n
  induction n with
  | zero => intro _; rfl
  | succ n ih =>
    intro h
    show (if _ then _ else _) = 0
    rw [if_pos (ih fun j hj => h j (by omega))]
    exact h n (by omega)
theorem getD_get {α : Type} {d : α} {l : List α} {j : Nat} (h : j < l.length) : l[j]? = some (l.getD j d) := by
  simp [List.getD_eq_getElem?_getD, List.getElem?_eq_getElem h]
theorem rec_ok {r : RT} {L R : List Int} (h : recS L = .ok (r, R)) (hL : Byt L) : L = recB r ++ R ∧ chkRec r = 0 := by
  obtain ⟨k, M, h1, h⟩ := bind_ok h
  obtain ⟨v, M2, h2, h⟩ := bind_ok h
  obtain ⟨l, M3, h3, h⟩ := bind_ok h
  obtain ⟨rfl, rfl⟩ := ret_ok h
  obtain ⟨a1, a2⟩ := key_ok h1 hL
  have hM : Byt M := by rw [a1] at hL; exact hL.right
  obtain ⟨b1, b2⟩ := val_ok h2 hM
  have hM2 : Byt M2 := by rw [b1] at hM; exact hM.right
  obtain ⟨c1, c2, c3⟩ := list_ok (enc := hopB) (P := fun (_ : Unit) (x : Int) => 0 ≤ x ∧ x ≤ 9) (fun s _ _ _ h hL => hop_ok (s := s) h hL) h3 hM2
  refine ⟨?_, ?_⟩
  · unfold recB mkR
    simp only
    rw [listB_getD, a1, b1, c1]
    simp [List.append_assoc]
  · unfold chkRec mkR
    simp only
    rw [if_neg (by omega), if_neg (by simpa using b2), if_neg (by omega)]
    refine firstC_zero _ fun j hj => ?_
    obtain ⟨h4, h5⟩ := c3 j _ (getD_get (d := 0) hj)
    unfold chkLoop
    rw [if_neg (by omega)]
theorem recs_ok {ys : List RT} {L R : List Int} (h : recsS L = .ok (ys, R)) (hL : Byt L) : L = lsB recB ys ++ R ∧ ys.length ≤ 256 ∧ ∀ (j : Nat) (y : RT), ys[j]? = some y → chkRec y = 0 :=
  list_ok (P := fun (_ : Unit) y => chkRec y = 0) (fun _ _ _ _ h hL => rec_ok h hL) h hL
theorem recsL_ok {l : LT RT} {L R : List Int} (h : recsL L = .ok (l, R)) (hL : Byt L) : L = recsB l ++ R ∧ (l.n ≤ 256 ∧ ∀ j, j < l.n → chkRec (l.item j) = 0) := by
  obtain ⟨ys, M, h1, h⟩ := bind_ok h
  obtain ⟨rfl, rfl⟩ := ret_ok h
  obtain ⟨a, b, c⟩ := recs_ok h1 hL
  refine ⟨?_, b, fun j hj => c j _ (getD_get (d := zeroR) hj)⟩
  unfold recsB mkLT
  simp only
  rw [listB_getD]
  exact a
theorem logs_ok {ys : List (LT RT)} {L R : List Int} (h : logsL L = .ok (ys, R)) (hL : Byt L) : L = lsB recsB ys ++ R ∧ ys.length ≤ 4 ∧ ∀ (j : Nat) (y : LT RT), ys[j]? = some y → y.n ≤ 256 ∧ ∀ i, i < y.n → chkRec (y.item i) = 0 :=
  list_ok (P := fun (_ : Unit) (y : LT RT) => y.n ≤ 256 ∧ ∀ i, i < y.n → chkRec (y.item i) = 0) (fun _ _ _ _ h hL => recsL_ok h hL) h hL
theorem file_ok {s : Unit} {u : Nat × Nat} {L R : List Int} (h : fileS L = .ok (u, R)) (hL : Byt L) : L = fileB u ++ R ∧ (fun (_ : Unit) (u : Nat × Nat) => u.1 ≤ 65536 ∧ u.2 < 4294967296) s u := by
  obtain ⟨n, M, h1, h⟩ := bind_ok h
  obtain ⟨x, M2, h2, h⟩ := bind_ok h
  obtain ⟨rfl, rfl⟩ := ret_ok h
  obtain ⟨a1, a2⟩ := num_ok h1 hL
  have hM : Byt M := by rw [a1] at hL; exact hL.right
  obtain ⟨b1, b2⟩ := word_ok h2 hM
  refine ⟨?_, a2, b2⟩
  unfold fileB
  simp only
  rw [a1, b1, List.append_assoc]
/-- which key comes ahead of which -/
def rises (s : Option ByteArray) (k : ByteArray) : Prop := ∀ l, s = some l → Op.bytesLess l.toList k.toList = true
theorem rise_ok {s : Option ByteArray} {k : ByteArray} {L R : List Int} (h : riseS s L = .ok (k, R)) (hL : Byt L) : L = keyB k ++ R ∧ (k.size ≤ 12 ∧ rises s k) := by
  obtain ⟨k2, M, h1, h⟩ := bind_ok h
  obtain ⟨a1, a2⟩ := key_ok h1 hL
  cases s with
  | none =>
    obtain ⟨rfl, rfl⟩ := ret_ok (show retS k2 M = .ok (k, R) from h)
    exact ⟨a1, a2, fun l hl => by cases hl⟩
  | some l0 =>
    by_cases hc : Op.bytesLess l0.toList k2.toList = true
    · have h' : (if Op.bytesLess l0.toList k2.toList = true then retS k2 else failS 42) M = .ok (k, R) := h
      rw [if_pos hc] at h'
      obtain ⟨rfl, rfl⟩ := ret_ok h'
      exact ⟨a1, a2, fun l hl => by cases hl; exact hc⟩
    · have h' : (if Op.bytesLess l0.toList k2.toList = true then retS k2 else failS 42) M = .ok (k, R) := h
      rw [if_neg hc] at h'
      cases h'
theorem vals_ok {ys : List VT} {L R : List Int} (h : valsS L = .ok (ys, R)) (hL : Byt L) : L = lsB valB ys ++ R ∧ ys.length ≤ 6 ∧ ∀ (j : Nat) (y : VT), ys[j]? = some y → (chk y 0 0).1 = 0 :=
  list_ok (P := fun (_ : Unit) y => (chk y 0 0).1 = 0) (fun _ _ _ _ h hL => val_ok h hL) h hL
theorem cell_ok {s : Option ByteArray} {c : VT} {L R : List Int} (h : cellS s L = .ok (c, R)) (hL : Byt L) : L = cellB c ++ R ∧ (c.text.size ≤ 12 ∧ rises s c.text ∧ chkVals c = 0) := by
  obtain ⟨k, M, h1, h⟩ := bind_ok h
  obtain ⟨l, M2, h2, h⟩ := bind_ok h
  obtain ⟨rfl, rfl⟩ := ret_ok h
  obtain ⟨a1, a2, a3⟩ := rise_ok h1 hL
  have hM : Byt M := by rw [a1] at hL; exact hL.right
  obtain ⟨b1, b2, b3⟩ := vals_ok h2 hM
  refine ⟨?_, a2, a3, ?_⟩
  · unfold cellB mkC
    simp only [VT.text_mk, VT.n_mk, VT.item_mk]
    rw [listB_getD, a1, b1, List.append_assoc]
  · show (if 6 < l.length then 27 else firstC (fun q => (chk (l.getD q .nil) 0 0).1) l.length) = 0
    rw [if_neg (by omega)]
    exact firstC_zero _ fun j hj => b3 j _ (getD_get (d := .nil) hj)
theorem foldl_last {α : Type} (g : α → ByteArray) (ys : List α) (d : α) : ∀ j, 0 < j → j ≤ ys.length → (ys.take j).foldl (fun (_ : Option ByteArray) c => some (g c)) none = some (g (ys.getD (j - 1) d)) := by
  intro j hj hl
  obtain ⟨i, rfl⟩ : ∃ i, j = i + 1 := ⟨j - 1, by omega⟩
  have hi : i < ys.length := by omega
  rw [List.take_add_one, List.foldl_append]
  simp [List.getElem?_eq_getElem hi, List.getD_eq_getElem?_getD]
theorem cells_ok {ys : List VT} {L R : List Int} (h : cellsS L = .ok (ys, R)) (hL : Byt L) : L = lsB cellB ys ++ R ∧ ys.length ≤ 64 ∧ ∀ j, j < ys.length → chkCell (fun j => ys.getD j .nil) j = 0 := by
  obtain ⟨a, b, c⟩ := list_ok (P := fun s (y : VT) => y.text.size ≤ 12 ∧ rises s y.text ∧ chkVals y = 0) (fun _ _ _ _ h hL => cell_ok h hL) h hL
  refine ⟨a, b, fun j hj => ?_⟩
  obtain ⟨h1, h2, h3⟩ := c j _ (getD_get (d := .nil) hj)
  show (if 12 < (ys.getD j .nil).text.size then 24 else if 0 < j ∧ Op.bytesLess (ys.getD (j - 1) .nil).text.toList (ys.getD j .nil).text.toList = false then 27 else chkVals (ys.getD j .nil)) = 0
  rw [if_neg (by omega), if_neg (fun h4 => ?_), h3]
  have h5 := h2 _ (foldl_last VT.text ys .nil j h4.1 (by omega))
  rw [h5] at h4
  exact absurd h4.2 (by decide)
theorem chkState_of {n : Nat} {p : Option Addr} {c : Nat} {ys : List VT} (hn : n ≤ 1073741824) (hl : ys.length ≤ 64) (h : ∀ j, j < ys.length → chkCell (fun j => ys.getD j .nil) j = 0) : chkState ⟨(n : Int), p, ys.length, c, fun j => ys.getD j .nil⟩ = 0 := by
  unfold chkState
  simp only
  rw [if_neg (by omega), if_neg (by omega)]
  exact firstC_zero _ h
theorem state_ok {s : ST} {L R : List Int} (h : stateS L = .ok (s, R)) (hL : Byt L) : L = stateB s ++ R ∧ chkState s = 0 := by
  obtain ⟨n, M, h1, h⟩ := bind_ok h
  obtain ⟨ys, M2, h2, h⟩ := bind_ok h
  obtain ⟨rfl, rfl⟩ := ret_ok h
  obtain ⟨a1, a2⟩ := num_ok h1 hL
  have hM : Byt M := by rw [a1] at hL; exact hL.right
  obtain ⟨b1, b2, b3⟩ := cells_ok h2 hM
  refine ⟨?_, chkState_of a2 b2 b3⟩
  unfold stateB mkS
  simp only [Int.toNat_natCast]
  rw [listB_getD, a1, b1, List.append_assoc]
theorem gone_ok {ys : List ByteArray} {L R : List Int} (h : goneS L = .ok (ys, R)) (hL : Byt L) : L = lsB keyB ys ++ R ∧ ys.length ≤ 64 ∧ ∀ (j : Nat), j < ys.length → (ys.getD j ⟨#[]⟩).size ≤ 12 ∧ (0 < j → Op.bytesLess (ys.getD (j - 1) ⟨#[]⟩).toList (ys.getD j ⟨#[]⟩).toList = true) := by
  obtain ⟨a, b, c⟩ := list_ok (P := fun s (y : ByteArray) => y.size ≤ 12 ∧ rises s y) (fun _ _ _ _ h hL => rise_ok h hL) h hL
  refine ⟨a, b, fun j hj => ?_⟩
  obtain ⟨h1, h2⟩ := c j _ (getD_get (d := ⟨#[]⟩) hj)
  exact ⟨h1, fun h0 => h2 _ (foldl_last (fun x => x) ys ⟨#[]⟩ j h0 (by omega))⟩
end Go.Proofs.YtfonicphdejdlaaGreat

namespace Go.Proofs.YtfonicphdejdlaaGreat
open Go.RowKit
set_option maxRecDepth 8000
theorem encB_al : ∀ (t u : VT), VT.Alike t u → encB t = encB u := by
  intro t
  induction t with
  | nil => intro u h; rw [show u = .nil from h]
  | mk k i s n p c f ih =>
    intro u h
    cases u with
    | nil =>
      obtain ⟨h1, h2, h3, h4, h5⟩ := h
      simp only [VT.kind, VT.n] at h1 h4
      subst h1
      simp [encB]
    | mk k' i' s' n' p' c' f' =>
      obtain ⟨h1, h2, h3, h4, h5⟩ := h
      simp only [VT.kind_mk, VT.int_mk, VT.text_mk, VT.n_mk] at h1 h2 h3 h4
      subst h1 h2 h3 h4
      rw [encB_eq, encB_eq]
      have e : ((List.range n').flatMap fun j => encB (f j)) = ((List.range n').flatMap fun j => encB (f' j)) := by
        rw [List.flatMap_def, List.flatMap_def]
        congr 1
        apply List.map_congr_left
        intro j hj
        exact ih j _ (h5 j (List.mem_range.1 hj))
      rw [e]
theorem valB_al {t u : VT} (h : VT.Alike t u) : valB u = valB t := by
  unfold valB cleanT
  rw [chk_alike t u 0 0 h]
  split
  · exact (encB_al t u h).symm
  · rfl
theorem listB_congr {α : Type} {enc : α → List Int} {n : Nat} {f g : Nat → α} (h : ∀ j, j < n → enc (f j) = enc (g j)) : listB enc n f = listB enc n g := by
  unfold listB
  congr 1
  rw [List.flatMap_def, List.flatMap_def]
  congr 1
  apply List.map_congr_left
  intro j hj
  exact h j (List.mem_range.1 hj)
theorem recB_al {r u : RT} (h : RT.Alike r u) : recB u = recB r := by
  unfold recB
  rw [h.key, valB_al h.v, h.n, listB_congr fun j hj => by rw [h.loop j hj]]
theorem cellB_al {t u : VT} (h : VT.Alike t u) : cellB u = cellB t := by
  unfold cellB
  rw [h.text, h.n, listB_congr fun j hj => valB_al (h.item hj)]
theorem stateB_al {s t : ST} (h : ST.Alike s t) : stateB t = stateB s := by
  unfold stateB
  rw [h.num, h.n, listB_congr fun j hj => cellB_al (h.cell j hj)]
theorem recsB_al {l u : LT RT} (h : RecsAlike l u) : recsB u = recsB l := by
  unfold recsB
  rw [h.1, listB_congr fun j hj => recB_al (h.2 j hj)]
theorem one_rec {y t : RT} {B : List Int} (h : recS B = .ok (y, [])) (hB : Byt B) (ha : RT.Alike y t) : recB t = B ∧ chkRec t = 0 := by
  obtain ⟨a, b⟩ := rec_ok h hB
  rw [List.append_nil] at a
  exact ⟨by rw [recB_al ha, ← a], by rw [← chkRec_alike ha]; exact b⟩
theorem one_state {y t : ST} {B : List Int} (h : stateS B = .ok (y, [])) (hB : Byt B) (ha : ST.Alike y t) : stateB t = B ∧ chkState t = 0 := by
  obtain ⟨a, b⟩ := state_ok h hB
  rw [List.append_nil] at a
  exact ⟨by rw [stateB_al ha, ← a], by rw [← chkState_alike ha]; exact b⟩
theorem one_row {y : Nat × RT} {t : OT} {B : List Int} (h : outS B = .ok (y, [])) (hB : Byt B) (ha : t.num = y.1 ∧ RT.Alike y.2 t.rec_) : outB t = B ∧ t.num ≤ 1073741824 ∧ chkRec t.rec_ = 0 := by
  obtain ⟨_, M, h1, h⟩ := bind_ok h
  obtain ⟨n, M2, h2, h⟩ := bind_ok h
  obtain ⟨r, M3, h3, h⟩ := bind_ok h
  obtain ⟨rfl, rfl⟩ := ret_ok h
  have a := first_ok h1
  have hM : Byt M := by rw [a] at hB; exact hB.tail
  obtain ⟨b1, b2⟩ := num_ok h2 hM
  have hM2 : Byt M2 := by rw [b1] at hM; exact hM.right
  obtain ⟨c1, c2⟩ := rec_ok h3 hM2
  obtain ⟨d1, d2⟩ := ha
  simp only at d1 d2
  rw [List.append_nil] at c1
  refine ⟨?_, by omega, by rw [← chkRec_alike d2]; exact c2⟩
  unfold outB
  rw [d1, recB_al d2, a, b1, c1]
theorem one_man {y : Nat × Nat × List (Nat × Nat)} {t : MT} {B : List Int} (h : manS B = .ok (y, [])) (hB : Byt B) (ha : t.Is y) : manB t = B ∧ VM t := by
  obtain ⟨_, M, h1, h⟩ := bind_ok h
  obtain ⟨i, M2, h2, h⟩ := bind_ok h
  obtain ⟨u, M3, h3, h⟩ := bind_ok h
  obtain ⟨l, M4, h4, h⟩ := bind_ok h
  obtain ⟨rfl, rfl⟩ := ret_ok h
  have a := first_ok h1
  have hM : Byt M := by rw [a] at hB; exact hB.tail
  obtain ⟨b1, b2⟩ := num_ok h2 hM
  have hM2 : Byt M2 := by rw [b1] at hM; exact hM.right
  obtain ⟨c1, c2⟩ := word_ok h3 hM2
  have hM3 : Byt M3 := by rw [c1] at hM2; exact hM2.right
  obtain ⟨e1, e2, e3⟩ := list_ok (enc := fileB) (P := fun (_ : Unit) (u : Nat × Nat) => u.1 ≤ 65536 ∧ u.2 < 4294967296) (fun s _ _ _ h hL => file_ok (s := s) h hL) h4 hM3
  obtain ⟨d1, d2, d3⟩ := ha
  simp only at d1 d2 d3
  rw [List.append_nil] at e1
  have hl := isl_bytes (enc := fileB) d3 (fun y u h => by rw [h])
  refine ⟨?_, ⟨by omega, by omega, by rw [d3.1]; omega, fun j hj => ?_⟩⟩
  · unfold manB
    rw [d1, d2, hl, a, b1, c1, e1]
  · have hj' : j < l.length := by rw [← d3.1]; exact hj
    have h6 := d3.2 j l[j] (by rw [List.getElem?_eq_getElem hj'])
    rw [h6]
    exact e3 j l[j] (by rw [List.getElem?_eq_getElem hj'])
/-- the cells of a difference -/
theorem chkState_isl {n : Nat} {l : LT VT} {ys : List VT} (hn : n ≤ 1073741824) (hl : ys.length ≤ 64) (h : ∀ j, j < ys.length → chkCell (fun j => ys.getD j .nil) j = 0) (ha : Isl VT.Alike l ys) : chkState ⟨(n : Int), l.p, l.n, l.c, l.item⟩ = 0 := by
  have h1 := chkState_of (p := l.p) (c := l.c) hn hl h
  have hal : ST.Alike ⟨(n : Int), l.p, ys.length, l.c, fun j => ys.getD j .nil⟩ ⟨(n : Int), l.p, l.n, l.c, l.item⟩ := ⟨rfl, ha.1, fun j hj => ha.2 j _ (getD_get (d := .nil) hj)⟩
  rw [← chkState_alike hal]
  exact h1
theorem delta_ok {y : Nat × List VT × List ByteArray} {d : DT} {L R : List Int} (h : deltaS L = .ok (y, R)) (hL : Byt L) (ha : d.Is y) : L = deltaB d ++ R ∧ chkState ⟨(d.num : Int), d.set.p, d.set.n, d.set.c, d.set.item⟩ = 0 ∧ d.gone.n ≤ 64 ∧ Rises d.gone := by
  obtain ⟨n, M, h1, h⟩ := bind_ok h
  obtain ⟨c, M2, h2, h⟩ := bind_ok h
  obtain ⟨g, M3, h3, h⟩ := bind_ok h
  obtain ⟨rfl, rfl⟩ := ret_ok h
  obtain ⟨a1, a2⟩ := num_ok h1 hL
  have hM : Byt M := by rw [a1] at hL; exact hL.right
  obtain ⟨b1, b2, b3⟩ := cells_ok h2 hM
  have hM2 : Byt M2 := by rw [b1] at hM; exact hM.right
  obtain ⟨c1, c2, c3⟩ := gone_ok h3 hM2
  obtain ⟨d1, d2, d3⟩ := ha
  simp only at d1 d2 d3
  refine ⟨?_, by rw [d1]; exact chkState_isl a2 b2 b3 d2, by rw [d3.1]; omega, fun j hj => ?_⟩
  · unfold deltaB
    rw [d1, isl_bytes (enc := cellB) d2 (fun y u h => cellB_al h), isl_bytes (enc := keyB) d3 (fun y u h => by rw [h]), a1, b1, c1]
    simp [List.append_assoc]
  · have hj' : j < g.length := by rw [← d3.1]; exact hj
    have e : ∀ i, i < g.length → d.gone.item i = g.getD i ⟨#[]⟩ := fun i hi => d3.2 i _ (getD_get (d := ⟨#[]⟩) hi)
    obtain ⟨x1, x2⟩ := c3 j hj'
    rw [e j hj']
    refine ⟨x1, fun h0 => ?_⟩
    rw [e (j - 1) (by omega)]
    exact x2 h0
theorem isl_recs {l : LT RT} {ys : List RT} (h : Isl RT.Alike l ys) (hc : ∀ (j : Nat) (y : RT), ys[j]? = some y → chkRec y = 0) : ∀ j, j < l.n → chkRec (l.item j) = 0 := by
  intro j hj
  have hj' : j < ys.length := by rw [← h.1]; exact hj
  have h1 := h.2 j ys[j] (by rw [List.getElem?_eq_getElem hj'])
  rw [← chkRec_alike h1]
  exact hc j _ (by rw [List.getElem?_eq_getElem hj'])
theorem isl_logs {l : LT (LT RT)} {ys : List (LT RT)} (h : Isl RecsAlike l ys) (hc : ∀ (j : Nat) (y : LT RT), ys[j]? = some y → y.n ≤ 256 ∧ ∀ i, i < y.n → chkRec (y.item i) = 0) : ∀ j, j < l.n → (l.item j).n ≤ 256 ∧ ∀ i, i < (l.item j).n → chkRec ((l.item j).item i) = 0 := by
  intro j hj
  have hj' : j < ys.length := by rw [← h.1]; exact hj
  have h1 := h.2 j ys[j] (by rw [List.getElem?_eq_getElem hj'])
  obtain ⟨h2, h3⟩ := hc j _ (by rw [List.getElem?_eq_getElem hj'])
  refine ⟨by rw [h1.1]; exact h2, fun i hi => ?_⟩
  rw [h1.1] at hi
  rw [← chkRec_alike (h1.2 i hi)]
  exact h3 i hi
theorem one_seg {y : GP} {g : GT} {B : List Int} (h : segS B = .ok (y, [])) (hB : Byt B) (ha : g.Is y) : segB g = B ∧ FG g := by
  obtain ⟨_, M, h1, h⟩ := bind_ok h
  obtain ⟨i, M2, h2, h⟩ := bind_ok h
  obtain ⟨t, M3, h3, h⟩ := bind_ok h
  obtain ⟨b, M4, h4, h⟩ := bind_ok h
  have a := first_ok h1
  have hM : Byt M := by rw [a] at hB; exact hB.tail
  obtain ⟨a1, a2⟩ := num_ok h2 hM
  have hM2 : Byt M2 := by rw [a1] at hM; exact hM.right
  obtain ⟨b1, b2⟩ := num_ok h3 hM2
  have hM3 : Byt M3 := by rw [b1] at hM2; exact hM2.right
  obtain ⟨c1, c2⟩ := num_ok h4 hM3
  have hM4 : Byt M4 := by rw [c1] at hM3; exact hM3.right
  by_cases hb : b = 0
  · rw [if_pos hb] at h
    obtain ⟨s, M5, h5, h⟩ := bind_ok h
    obtain ⟨l, M6, h6, h⟩ := bind_ok h
    obtain ⟨p, M7, h7, h⟩ := bind_ok h
    obtain ⟨rfl, rfl⟩ := ret_ok h
    obtain ⟨d1, d2⟩ := state_ok h5 hM4
    have hM5 : Byt M5 := by rw [d1] at hM4; exact hM4.right
    obtain ⟨e1, e2, e3⟩ := logs_ok h6 hM5
    have hM6 : Byt M6 := by rw [e1] at hM5; exact hM5.right
    obtain ⟨f1, f2, f3⟩ := recs_ok h7 hM6
    rw [List.append_nil] at f1
    obtain ⟨g1, g2, g3, g4, g5, g6, g7, g8⟩ := ha
    simp only at g1 g2 g3 g4 g5 g6 g7 g8
    have hlg := isl_logs g7 e3
    refine ⟨?_, ⟨by omega, by omega, by omega, by omega, fun _ => ⟨g4, g6.1, by rw [g6.2.1.1]; rfl, by rw [g6.2.2.1]; rfl, by rw [← chkState_alike g5]; exact d2⟩, fun h0 => absurd g3 h0, by rw [g7.1]; omega, fun j hj => (hlg j hj).1, fun j hj => (hlg j hj).2, by rw [g8.1]; omega, isl_recs g8 f3⟩⟩
    unfold segB
    rw [if_pos g3, g1, g2, g3, stateB_al g5, isl_bytes (enc := recsB) g7 (fun y u h => recsB_al h), show recsB g.pend = lsB recB p from isl_bytes (enc := recB) g8 (fun y u h => recB_al h), a, a1, b1, c1, hb, d1, e1, f1]
  · rw [if_neg hb] at h
    obtain ⟨u, M5, h5, h⟩ := bind_ok h
    obtain ⟨dd, M6, h6, h⟩ := bind_ok h
    obtain ⟨l, M7, h7, h⟩ := bind_ok h
    obtain ⟨p, M8, h8, h⟩ := bind_ok h
    obtain ⟨rfl, rfl⟩ := ret_ok h
    obtain ⟨g1, g2, g3, g4, g5, g6, g7, g8⟩ := ha
    simp only at g1 g2 g3 g4 g5 g6 g7 g8
    obtain ⟨d1, d2⟩ := word_ok h5 hM4
    have hM5 : Byt M5 := by rw [d1] at hM4; exact hM4.right
    obtain ⟨x1, x2, x3, x4⟩ := delta_ok h6 hM5 g6
    have hM6 : Byt M6 := by rw [x1] at hM5; exact hM5.right
    obtain ⟨e1, e2, e3⟩ := logs_ok h7 hM6
    have hM7 : Byt M7 := by rw [e1] at hM6; exact hM6.right
    obtain ⟨f1, f2, f3⟩ := recs_ok h8 hM7
    rw [List.append_nil] at f1
    have hlg := isl_logs g7 e3
    have hgb : g.base ≠ 0 := by omega
    refine ⟨?_, ⟨by omega, by omega, by omega, by omega, fun h0 => absurd h0 hgb, fun _ => ⟨by rw [g5.num]; rfl, by rw [g5.n]; rfl, x2, x3, x4⟩, by rw [g7.1]; omega, fun j hj => (hlg j hj).1, fun j hj => (hlg j hj).2, by rw [g8.1]; omega, isl_recs g8 f3⟩⟩
    unfold segB
    rw [if_neg hgb, g1, g2, g3, g4, isl_bytes (enc := recsB) g7 (fun y u h => recsB_al h), show recsB g.pend = lsB recB p from isl_bytes (enc := recB) g8 (fun y u h => recB_al h), a, a1, b1, c1, d1, x1, e1, f1]
    simp [List.append_assoc]
end Go.Proofs.YtfonicphdejdlaaGreat

namespace Go.Proofs.YtfonicphdejdlaaGreat
open Go.RowKit
set_option maxRecDepth 8000

theorem chk_parts {k i : Int} {s : ByteArray} {n : Nat} {p : Option Addr} {c : Nat} {f : Nat → VT} {d q q' : Nat} (h : chk (.mk k i s n p c f) d q = (0, q')) :
    q < 12 ∧ fitB k i s n = true ∧ ¬ (k = 3 ∧ 3 ≤ d) ∧ s.size ≤ 24 ∧ n ≤ 6 ∧ stepN (fun j m => chk (f j) (d + 1) m) (q + 1) n = (0, q') := by
  rw [chk_eq] at h
  by_cases h1 : 12 ≤ q
  · rw [if_pos h1] at h; simp at h
  rw [if_neg h1] at h
  by_cases h2 : fitB k i s n = false
  · rw [if_pos h2] at h; simp at h
  rw [if_neg h2] at h
  by_cases h3 : k = 3 ∧ 3 ≤ d
  · rw [if_pos h3] at h; simp at h
  rw [if_neg h3] at h
  by_cases h4 : 24 < s.size
  · rw [if_pos h4] at h; simp at h
  rw [if_neg h4] at h
  by_cases h5 : 6 < n
  · rw [if_pos h5] at h; simp at h
  rw [if_neg h5] at h
  exact ⟨by omega, by simpa using h2, h3, by omega, by omega, h⟩
/-- the bytes of the first m items -/
def encM (f : Nat → VT) (m : Nat) : List Int := (List.range m).flatMap fun j => encB (f j)
theorem encM_succ (f : Nat → VT) (m : Nat) : encM f (m + 1) = encM f m ++ encB (f m) := by
  unfold encM
  rw [List.range_succ, List.flatMap_append]
  simp
theorem encM_pre (f : Nat → VT) {k N : Nat} (hk : k ≤ N) : ∃ r, encM f N = encM f k ++ r := by
  obtain ⟨e, rfl⟩ : ∃ e, N = k + e := ⟨N - k, by omega⟩
  clear hk
  induction e with
  | zero => exact ⟨[], by simp⟩
  | succ e ihe =>
    obtain ⟨r, hr⟩ := ihe
    exact ⟨r ++ encB (f (k + e)), by rw [← Nat.add_assoc, encM_succ, hr, List.append_assoc]⟩
theorem empty_toList : (⟨#[]⟩ : ByteArray).toList = [] := by rw [Go.Lib.toList_data]
theorem enc_pos (t : VT) : 0 < (encB t).length := by
  cases t with
  | nil => simp [encB]
  | mk k i s n p c f => rw [encB_eq]; simp
/-- what reading makes of a valid value's bytes, whole or cut -/
def Reads (f : Nat → Int) (n : Nat) (t : VT) (d : Nat) (g : Nat → Nat → DR) : Prop := ∀ a q q', chk t d q = (0, q') → (∀ j x, (encB t)[j]? = some x → f (a + j) = x) →
  (a + (encB t).length ≤ n → ∃ u, g a q = .ok (u, a + (encB t).length, q') ∧ VT.Alike t u) ∧ (n < a + (encB t).length → g a q = .error 28)
theorem stepN_zero {g : Nat → Nat → Nat × Nat} {m n q' : Nat} (h : stepN g m n = (0, q')) {j : Nat} (hj : j ≤ n) : (stepN g m j).1 = 0 := by
  by_cases hz : (stepN g m j).1 = 0
  · exact hz
  · have := stepN_stuck hj hz
    rw [this] at h
    rw [h] at hz
    exact absurd rfl hz
theorem items_read {f : Nat → Int} {n d : Nat} {g : Nat → Nat → DR} {h : Nat → VT} {N : Nat} (hg : ∀ j, j < N → Reads f n (h j) (d + 1) g) (a q : Nat) (hq : ∀ j, j ≤ N → (stepN (fun j m => chk (h j) (d + 1) m) q j).1 = 0)
    (hb : ∀ j x, (encM h N)[j]? = some x → f (a + j) = x) : ∀ m, m ≤ N →
    (a + (encM h m).length ≤ n → ∃ l, itemsS g m a q = .ok (l, a + (encM h m).length, (stepN (fun j m => chk (h j) (d + 1) m) q m).2) ∧ l.length = m ∧ ∀ j, j < m → VT.Alike (h j) (l.getD j .nil)) ∧ (n < a + (encM h m).length → a ≤ n → itemsS g m a q = .error 28) := by
  intro m
  induction m with
  | zero => intro _; exact ⟨fun _ => ⟨[], rfl, rfl, fun j hj => absurd hj (by omega)⟩, fun h1 h2 => by simp [encM] at h1; omega⟩
  | succ m ih =>
    intro hm
    obtain ⟨ih1, ih2⟩ := ih (by omega)
    obtain ⟨r, hr⟩ := encM_pre h hm
    have hbm : ∀ j x, (encB (h m))[j]? = some x → f (a + (encM h m).length + j) = x := by
      intro j x hj
      rw [Nat.add_assoc]
      apply hb
      rw [hr, encM_succ, List.append_assoc, List.getElem?_append_right (by omega), Nat.add_sub_cancel_left]
      have hlt : j < (encB (h m)).length := by
        rcases Nat.lt_or_ge j (encB (h m)).length with h1 | h1
        · exact h1
        · rw [List.getElem?_eq_none h1] at hj; cases hj
      rw [List.getElem?_append_left hlt]
      exact hj
    have hz := hq (m + 1) hm
    rw [stepN_succ (hq m (by omega))] at hz
    obtain ⟨q2, hq2⟩ : ∃ q2, chk (h m) (d + 1) (stepN (fun j m => chk (h j) (d + 1) m) q m).2 = (0, q2) := ⟨_, Prod.ext hz rfl⟩
    have hG := hg m (by omega) (a + (encM h m).length) _ q2 hq2 hbm
    have hst : (stepN (fun j m => chk (h j) (d + 1) m) q (m + 1)).2 = q2 := by rw [stepN_succ (hq m (by omega)), hq2]
    have hl : (encM h (m + 1)).length = (encM h m).length + (encB (h m)).length := by rw [encM_succ, List.length_append]
    rw [hl, hst]
    refine ⟨fun hn => ?_, fun hn ha => ?_⟩
    · obtain ⟨l, e1, e2, e3⟩ := ih1 (by omega)
      obtain ⟨u, e4, e5⟩ := hG.1 (by omega)
      refine ⟨l ++ [u], by rw [itemsS_next e1 e4, Nat.add_assoc], by simp [e2], fun j hj => ?_⟩
      by_cases hjm : j < m
      · have := e3 j hjm
        simpa [List.getD_eq_getElem?_getD, List.getElem?_append_left (show j < l.length by omega)] using this
      · obtain rfl : j = m := by omega
        simpa [List.getD_eq_getElem?_getD, List.getElem?_append_right (show l.length ≤ j by omega), e2] using e5
    · by_cases hn2 : a + (encM h m).length ≤ n
      · obtain ⟨l, e1, e2, e3⟩ := ih1 hn2
        exact itemsS_stuck e1 (hG.2 (by omega)) (by omega)
      · rw [itemsS, ih2 (by omega) ha]
theorem part_read {f : Nat → Int} {n d : Nat} {g : Nat → Nat → DR} {t : VT} (ht : Val t) (hg : d < 3 → ∀ j, j < t.n → Reads f n (t.item j) (d + 1) g) : Reads f n t d (partS f n g d) := by
  cases t with
  | nil => exact ht.elim
  | mk k i s N p c h =>
    intro a q q' hc hb
    obtain ⟨hq, hf, hk3, hs, hN, hst⟩ := chk_parts hc
    obtain ⟨⟨_, _, _, hi1, hi2⟩, hval⟩ := ht
    obtain ⟨⟨k0, k3⟩, fi, fs, fn⟩ := fit_facts hf
    simp only [VT.n_mk, VT.item_mk] at hg
    rw [encB_eq] at hb ⊢
    have h0 := hb 0 k rfl
    simp only [Nat.add_zero] at h0
    unfold partS
    rw [h0]
    have htail : ∀ j x, (if k = 1 then grpB (foldN i) else if k = 2 then (s.size : Int) :: txtB s else if k = 3 then (N : Int) :: (List.range N).flatMap fun j => encB (h j) else [])[j]? = some x → f (a + 1 + j) = x := by
      intro j x hj
      have := hb (j + 1) x (by simpa using hj)
      rw [← this]; congr 1; omega
    clear hb h0
    simp only [List.length_cons]
    rcases (by omega : k = 0 ∨ k = 1 ∨ k = 2 ∨ k = 3) with rfl | rfl | rfl | rfl
    · simp only [show ¬ (0 : Int) = 1 by decide, show ¬ (0 : Int) = 2 by decide, show ¬ (0 : Int) = 3 by decide, or_false, if_false, List.length_nil] at fi fs fn htail ⊢
      subst fi fn
      refine ⟨fun hn => ⟨mkN, ?_, ⟨rfl, rfl, nil_text empty_toList fs, rfl, fun j hj => absurd hj (by omega)⟩⟩, fun hn => if_pos (by omega)⟩
      have e : q' = q + 1 := by have := congrArg Prod.snd hst; simpa [stepN] using this.symm
      rw [if_neg (by omega), if_neg (by omega), if_neg (by decide), if_neg (by simp), if_pos (by decide), e]
    · simp only [show ¬ (1 : Int) = 2 by decide, show ¬ (1 : Int) = 3 by decide, or_false, if_true] at fs fn htail ⊢
      subst fn
      have e : q' = q + 1 := by have := congrArg Prod.snd hst; simpa [stepN] using this.symm
      have hfo := foldN_lt hi1 hi2
      obtain ⟨g1, g2⟩ := grp_full f n (foldN i) (a + 1) 0 0 (by simpa using hfo) (fun h => by omega) (by decide) (by omega) htail
      simp only [Nat.sub_zero, Nat.zero_add, Nat.mul_zero, Nat.pow_zero, Nat.mul_one] at g1 g2
      refine ⟨fun hn => ⟨mkI i, ?_, ⟨rfl, rfl, nil_text empty_toList fs, rfl, fun j hj => absurd hj (by omega)⟩⟩, fun hn => ?_⟩
      · rw [if_neg (by omega), if_neg (by omega), if_neg (by decide), if_neg (by simp), if_neg (by decide), if_pos (by decide), g1 (by omega), e]
        simp only [unfold_fold]
        congr 3
        omega
      · by_cases hn2 : n ≤ a
        · exact if_pos hn2
        · rw [if_neg hn2, if_neg (by omega), if_neg (by decide), if_neg (by simp), if_neg (by decide), if_pos (by decide), g2 (by omega)]
    · simp only [show ¬ (2 : Int) = 1 by decide, show ¬ (2 : Int) = 3 by decide, or_false, if_true, if_false] at fi fn htail ⊢
      subst fi fn
      have e : q' = q + 1 := by have := congrArg Prod.snd hst; simpa [stepN] using this.symm
      have h1 := htail 0 _ rfl
      simp only [Nat.add_zero] at h1
      have hby : bytesAt f (a + 2) s.size = txtB s := by
        apply List.ext_getElem?
        intro j
        rcases Nat.lt_or_ge j s.size with hj | hj
        · have hj2 : j < (txtB s).length := by rw [txtB_len]; exact hj
          have := htail (j + 1) ((txtB s)[j]'hj2) (by simp [List.getElem?_eq_getElem hj2])
          rw [List.getElem?_eq_getElem hj2, ← this]
          simp only [bytesAt, List.getElem?_map, List.getElem?_range hj, Option.map_some]
          congr 2
          omega
        · rw [List.getElem?_eq_none (by rw [bytesAt_len]; exact hj), List.getElem?_eq_none (by rw [txtB_len]; exact hj)]
      simp only [List.length_cons, txtB_len]
      rw [h1]
      refine ⟨fun hn => ⟨mkT s, ?_, ⟨rfl, rfl, rfl, rfl, fun j hj => absurd hj (by omega)⟩⟩, fun hn => ?_⟩
      · rw [if_neg (by omega), if_neg (by omega), if_neg (by decide), if_neg (by simp), if_neg (by decide), if_neg (by decide), if_neg (by omega), if_pos (by decide)]
        simp only [Int.toNat_natCast]
        rw [if_neg (by omega), if_neg (by omega), hby, strOf_txt, e]
        congr 3
        omega
      · by_cases hn2 : n ≤ a
        · exact if_pos hn2
        · rw [if_neg hn2, if_neg (by omega), if_neg (by decide), if_neg (by simp), if_neg (by decide), if_neg (by decide)]
          by_cases hn3 : n ≤ a + 1
          · exact if_pos hn3
          · rw [if_neg hn3, if_pos (by decide)]
            simp only [Int.toNat_natCast]
            rw [if_neg (by omega), if_pos (by omega)]
    · simp only [show ¬ (3 : Int) = 1 by decide, show ¬ (3 : Int) = 2 by decide, or_false, if_true, if_false] at fi fs htail ⊢
      subst fi
      have hd : d < 3 := by
        rcases Nat.lt_or_ge d 3 with h1 | h1
        · exact h1
        · exact absurd ⟨rfl, h1⟩ hk3
      have h1 := htail 0 _ rfl
      simp only [Nat.add_zero] at h1
      have hz : ∀ j, j ≤ N → (stepN (fun j m => chk (h j) (d + 1) m) (q + 1) j).1 = 0 := fun j hj => stepN_zero hst hj
      obtain ⟨r1, r2⟩ := items_read (hg hd) (a + 2) (q + 1) hz (fun j x hj => by
        have := htail (j + 1) x (by simpa [encM] using hj)
        rw [← this]; congr 1; omega) N (Nat.le_refl _)
      simp only [List.length_cons]
      rw [show ((List.range N).flatMap fun j => encB (h j)) = encM h N from rfl, h1]
      rw [hst] at r1
      simp only at r1
      have hd3 : ¬ ((3 : Int).toNat = 3 ∧ 3 ≤ d) := fun hx => by omega
      refine ⟨fun hn => ?_, fun hn => ?_⟩
      · obtain ⟨l, e1, e2, e3⟩ := r1 (by omega)
        refine ⟨mkL l, ?_, ⟨rfl, rfl, nil_text empty_toList fs, by show l.length = N; exact e2, fun j hj => e3 j hj⟩⟩
        rw [if_neg (by omega), if_neg (by omega), if_neg (by decide), if_neg hd3, if_neg (by decide), if_neg (by decide), if_neg (by omega), if_neg (by decide)]
        simp only [Int.toNat_natCast]
        rw [if_neg (by omega), e1]
        simp only
        congr 3
        omega
      · by_cases hn2 : n ≤ a
        · exact if_pos hn2
        · rw [if_neg hn2, if_neg (by omega), if_neg (by decide), if_neg hd3, if_neg (by decide), if_neg (by decide)]
          by_cases hn3 : n ≤ a + 1
          · exact if_pos hn3
          · rw [if_neg hn3, if_neg (by decide)]
            simp only [Int.toNat_natCast]
            rw [if_neg (by omega), r2 (by omega) (by omega)]
theorem dec_read {f : Nat → Int} {n : Nat} : ∀ (t : VT) (d : Nat), Val t → d ≤ 3 → Reads f n t d (decS f n (3 - d) d) := by
  intro t
  induction t with
  | nil => intro d h; exact h.elim
  | mk k i s N p c h ih =>
    intro d hv hd
    by_cases h3 : d = 3
    · subst h3
      exact part_read hv (fun h => by omega)
    · rw [show 3 - d = (3 - (d + 1)) + 1 by omega]
      exact part_read hv (fun hd2 j hj => ih j (d + 1) (hv.2 j hj) (by omega))
end Go.Proofs.YtfonicphdejdlaaGreat

namespace Go.Proofs.YtfonicphdejdlaaGreat
open Go.RowKit
set_option maxRecDepth 8000

/-- the bytes are read back, whole; cut short they are refused, never for what follows them -/
structure Back {α : Type} (s : RS α) (B : List Int) (Q : α → Prop) : Prop where
  whole : ∀ R, ∃ y, s (B ++ R) = .ok (y, R) ∧ Q y
  short : ∀ A C, B = A ++ C → C ≠ [] → ∃ e, s A = .error e ∧ e ≠ 0 ∧ e ≠ 44
theorem Back.bind {α β : Type} {s : RS α} {g : α → RS β} {B C : List Int} {Q : α → Prop} {Q2 : β → Prop} (h : Back s B Q) (h2 : ∀ y, Q y → Back (g y) C Q2) : Back (bindS s g) (B ++ C) Q2 := by
  refine ⟨fun R => ?_, fun A D hA hD => ?_⟩
  · obtain ⟨y, h3, h4⟩ := h.whole (C ++ R)
    obtain ⟨z, h5, h6⟩ := (h2 y h4).whole R
    refine ⟨z, ?_, h6⟩
    unfold bindS
    rw [List.append_assoc, h3]
    exact h5
  · rcases List.append_eq_append_iff.1 hA with ⟨X, h3, h4⟩ | ⟨X, h3, h4⟩
    · obtain ⟨y, h5, h6⟩ := h.whole X
      obtain ⟨e, h7, h8⟩ := (h2 y h6).short X D h4 hD
      refine ⟨e, ?_, h8⟩
      unfold bindS
      rw [h3, h5]
      exact h7
    · by_cases hX : X = []
      · subst hX
        obtain ⟨y, h5, h6⟩ := h.whole []
        obtain ⟨e, h7, h8⟩ := (h2 y h6).short [] D (by simpa using h4.symm) hD
        refine ⟨e, ?_, h8⟩
        unfold bindS
        rw [List.append_nil] at h3 h5
        rw [← h3, h5]
        exact h7
      · obtain ⟨e, h7, h8⟩ := h.short A X h3 hX
        refine ⟨e, ?_, h8⟩
        unfold bindS
        rw [h7]
theorem Back.ret {α : Type} {y : α} {Q : α → Prop} (h : Q y) : Back (retS y) [] Q :=
  ⟨fun R => ⟨y, rfl, h⟩, fun A C hA hC => by
    have : A = [] ∧ C = [] := by simpa using hA.symm
    exact absurd this.2 hC⟩
theorem Back.mono {α : Type} {s : RS α} {B : List Int} {Q Q2 : α → Prop} (h : Back s B Q) (hQ : ∀ y, Q y → Q2 y) : Back s B Q2 :=
  ⟨fun R => by obtain ⟨y, h1, h2⟩ := h.whole R; exact ⟨y, h1, hQ y h2⟩, h.short⟩
theorem Back.map {α β : Type} {s : RS α} {f : α → β} {B : List Int} {Q : α → Prop} {Q2 : β → Prop} (h : Back s B Q) (hQ : ∀ y, Q y → Q2 (f y)) : Back (bindS s fun y => retS (f y)) B Q2 := by
  have := h.bind (g := fun y => retS (f y)) (C := []) (fun y hy => Back.ret (hQ y hy))
  rwa [List.append_nil] at this
theorem back_take (l : List Int) : Back (takeS l.length) l (· = l) := by
  refine ⟨fun R => ⟨l, ?_, rfl⟩, fun A C hA hC => ⟨40, ?_, by decide, by decide⟩⟩
  · unfold takeS
    rw [if_pos (by simp)]
    simp
  · unfold takeS
    have : 0 < C.length := List.length_pos_iff.2 hC
    rw [if_neg (by rw [hA, List.length_append]; omega)]
theorem back_numG (bound : Nat) : ∀ k i u j, u < 2 ^ (7 * i) → (0 < i → 1 ≤ j) → u + j * 2 ^ (7 * i) ≤ bound → j < 128 ^ (k + 1) → Back (numG bound (k + 1) i u) (grpB j) (· = u + j * 2 ^ (7 * i)) := by
  intro k
  induction k with
  | zero =>
    intro i u j hu hi hb hj
    have hj : j < 128 := by simpa using hj
    have hm : u ||| j % 128 * 2 ^ (7 * i) = u + j * 2 ^ (7 * i) := by rw [Nat.mod_eq_of_lt hj, or_plus hu]
    rw [grpB_small hj]
    refine ⟨fun R => ⟨_, ?_, rfl⟩, fun A C hA hC => ⟨40, ?_, by decide, by decide⟩⟩
    · rw [List.singleton_append, numG_lo hj, hm]
      unfold endS
      rw [if_neg (by simp; omega), if_neg (by omega)]
      rfl
    · cases A with
      | nil => exact numG_nil ..
      | cons a A =>
        simp only [List.cons_append, List.cons.injEq] at hA
        exact absurd (List.append_eq_nil_iff.1 hA.2.symm).2 hC
  | succ k ih =>
    intro i u j hu hi hb hj
    by_cases hs : j < 128
    · have hm : u ||| j % 128 * 2 ^ (7 * i) = u + j * 2 ^ (7 * i) := by rw [Nat.mod_eq_of_lt hs, or_plus hu]
      rw [grpB_small hs]
      refine ⟨fun R => ⟨_, ?_, rfl⟩, fun A C hA hC => ⟨40, ?_, by decide, by decide⟩⟩
      · rw [List.singleton_append, numG_lo hs, hm]
        unfold endS
        rw [if_neg (by simp; omega), if_neg (by omega)]
        rfl
      · cases A with
        | nil => exact numG_nil ..
        | cons a A =>
          simp only [List.cons_append, List.cons.injEq] at hA
          exact absurd (List.append_eq_nil_iff.1 hA.2.symm).2 hC
    · have hp : 0 < 2 ^ (7 * i) := Nat.two_pow_pos _
      have hq : j % 128 * 2 ^ (7 * i) ≤ 127 * 2 ^ (7 * i) := Nat.mul_le_mul (by omega) (Nat.le_refl _)
      have e1 : j / 128 * (128 * 2 ^ (7 * i)) = (128 * (j / 128)) * 2 ^ (7 * i) := by rw [← Nat.mul_assoc, Nat.mul_comm (j / 128) 128]
      have e2 : j * 2 ^ (7 * i) = (128 * (j / 128)) * 2 ^ (7 * i) + j % 128 * 2 ^ (7 * i) := by
        rw [← Nat.add_mul]
        congr 1
        omega
      have hv : u + j % 128 * 2 ^ (7 * i) + j / 128 * 2 ^ (7 * (i + 1)) = u + j * 2 ^ (7 * i) := by
        rw [pow7, e1, e2]
        omega
      have hu2 : u + j % 128 * 2 ^ (7 * i) < 2 ^ (7 * (i + 1)) := by
        rw [pow7]
        omega
      have hlt : j / 128 < 128 ^ (k + 1) := by
        rw [Nat.pow_succ] at hj
        exact Nat.div_lt_of_lt_mul (by rw [Nat.mul_comm]; exact hj)
      have H := ih (i + 1) (u + j % 128 * 2 ^ (7 * i)) (j / 128) hu2 (fun _ => by omega) (by rw [hv]; exact hb) hlt
      rw [hv] at H
      have hc : ¬ (j % 128 + 128) < 128 := by omega
      have hm : (j % 128 + 128) % 128 = j % 128 := by omega
      rw [grpB_great hs]
      refine ⟨fun R => ?_, fun A C hA hC => ?_⟩
      · obtain ⟨y, h1, h2⟩ := H.whole R
        refine ⟨y, ?_, h2⟩
        rw [List.cons_append, numG_hi hc, hm, or_plus hu]
        exact h1
      · cases A with
        | nil => exact ⟨40, numG_nil .., by decide, by decide⟩
        | cons a A =>
          simp only [List.cons_append, List.cons.injEq] at hA
          obtain ⟨e, h1, h2⟩ := H.short A C hA.2 hC
          refine ⟨e, ?_, h2⟩
          rw [← hA.1, numG_hi hc, hm, or_plus hu]
          exact h1
theorem back_num {bound m : Nat} (h : m ≤ bound) (hm : m < 34359738368) : Back (numS bound) (grpB m) (· = m) := by
  have := back_numG bound 4 0 0 m (by decide) (fun h => absurd h (by decide)) (by simpa using h) (Nat.lt_of_lt_of_le hm (by decide))
  simpa [numS] using this
theorem back_word {u : Nat} (h : u < 4294967296) : Back wordS (wordB u) (· = u) := by
  refine Back.map (back_take (wordB u)) fun y hy => ?_
  subst hy
  simp only [wordB, wordN, List.getD_cons_zero, List.getD_cons_succ, Int.toNat_natCast]
  omega
theorem back_first (x : Int) : Back (firstS x) [x] (fun _ => True) := by
  have := (back_take [x]).bind (g := fun l => if l.headD 0 = x then retS () else failS 41) (C := []) (Q2 := fun _ => True) (fun y hy => by
    subst hy
    simp only [List.headD_cons, if_true]
    exact Back.ret trivial)
  exact this
theorem back_key {k : ByteArray} (h : k.size ≤ 12) : Back keyS (keyB k) (· = k) := by
  refine (back_num h (by omega)).bind fun n hn => ?_
  subst hn
  have := back_take (txtB k)
  rw [txtB_len] at this
  refine Back.map this fun y hy => ?_
  subst hy
  exact strOf_txt k
theorem grpS_same {f g : Nat → Int} {n : Nat} (h : ∀ j, j < n → f j = g j) : ∀ k a i u, grpS f n k a i u = grpS g n k a i u := by
  intro k
  induction k with
  | zero => intro a i u; rfl
  | succ k ih =>
    intro a i u
    rw [grpS, grpS]
    by_cases ha : n ≤ a
    · rw [if_pos ha, if_pos ha]
    · rw [if_neg ha, if_neg ha, h a (by omega), ih]
theorem itemsS_same {f g : Nat → Nat → DR} (h : ∀ a q, f a q = g a q) : ∀ m a q, itemsS f m a q = itemsS g m a q := by
  have e : f = g := funext fun a => funext fun q => h a q
  intro m a q
  rw [e]
theorem partS_same {f g : Nat → Int} {n : Nat} (h : ∀ j, j < n → f j = g j) {r s : Nat → Nat → DR} (hr : ∀ a q, r a q = s a q) (d a q : Nat) : partS f n r d a q = partS g n s d a q := by
  unfold partS
  by_cases ha : n ≤ a
  · rw [if_pos ha, if_pos ha]
  · rw [if_neg ha, if_neg ha, h a (by omega), grpS_same h]
    by_cases ha1 : n ≤ a + 1
    · rw [if_pos ha1, if_pos ha1]
    · rw [if_neg ha1, if_neg ha1, h (a + 1) (by omega), itemsS_same hr]
      by_cases hb : n < a + 2 + (g (a + 1)).toNat
      · rw [if_pos hb, if_pos hb]
      · rw [if_neg hb, if_neg hb]
        have e : bytesAt f (a + 2) (g (a + 1)).toNat = bytesAt g (a + 2) (g (a + 1)).toNat := by
          unfold bytesAt
          apply List.map_congr_left
          intro j hj
          exact h _ (by have := List.mem_range.1 hj; omega)
        rw [e]
theorem decS_same {f g : Nat → Int} {n : Nat} (h : ∀ j, j < n → f j = g j) : ∀ k d a q, decS f n k d a q = decS g n k d a q := by
  intro k
  induction k with
  | zero => intro d a q; exact partS_same h (fun _ _ => rfl) d a q
  | succ k ih => intro d a q; exact partS_same h (fun a q => ih (d + 1) a q) d a q
theorem back_val {t : VT} (ht : Val t) (hc : (chk t 0 0).1 = 0) : Back valS (valB t) (fun y => VT.Alike t y) := by
  have e : valB t = encB t := by unfold valB cleanT; rw [if_pos hc]
  have hq : chk t 0 0 = (0, (chk t 0 0).2) := Prod.ext hc rfl
  rw [e]
  refine ⟨fun R => ?_, fun A C hA hC => ⟨28, ?_, by decide, by decide⟩⟩
  · have H := dec_read (f := fun j => (encB t ++ R).getD j 0) (n := (encB t ++ R).length) t 0 ht (by decide) 0 0 _ hq (fun j x hx => by
      have hj : j < (encB t).length := by
        rcases Nat.lt_or_ge j (encB t).length with h1 | h1
        · exact h1
        · rw [List.getElem?_eq_none h1] at hx; cases hx
      show (encB t ++ R).getD (0 + j) 0 = x
      rw [Nat.zero_add, List.getD_eq_getElem?_getD, List.getElem?_append_left hj, hx]
      rfl)
    obtain ⟨u, h1, h2⟩ := H.1 (by simp)
    refine ⟨u, ?_, h2⟩
    unfold valS
    have h1 : decS (fun j => (encB t ++ R).getD j 0) (encB t ++ R).length 3 0 0 0 = _ := h1
    rw [h1]
    simp
  · have hl : 0 < C.length := List.length_pos_iff.2 hC
    have H := dec_read (f := fun j => (encB t).getD j 0) (n := A.length) t 0 ht (by decide) 0 0 _ hq (fun j x hx => by
      show (encB t).getD (0 + j) 0 = x
      rw [Nat.zero_add, List.getD_eq_getElem?_getD, hx]
      rfl)
    have h1 := H.2 (by rw [hA, List.length_append]; omega)
    have h1 : decS (fun j => (encB t).getD j 0) A.length 3 0 0 0 = .error 28 := h1
    unfold valS
    rw [decS_same (g := fun j => (encB t).getD j 0) (fun j hj => by
      show A.getD j 0 = (encB t).getD j 0
      rw [hA, List.getD_eq_getElem?_getD, List.getD_eq_getElem?_getD, List.getElem?_append_left hj]), h1]
end Go.Proofs.YtfonicphdejdlaaGreat

namespace Go.Proofs.YtfonicphdejdlaaGreat
open Go.RowKit
set_option maxRecDepth 8000

theorem Back.eq {α : Type} {s : RS α} {B C : List Int} {Q : α → Prop} (h : Back s B Q) (e : B = C) : Back s C Q := e ▸ h
theorem back_iter {α β σ : Type} (d : α) {item : σ → RS α} {nx : σ → α → σ} {enc : β → List Int} {f : Nat → β} {Q : β → α → Prop} {St : Nat → σ → Prop} {n : Nat} {s : σ} (h0 : St 0 s)
    (hI : ∀ j, j < n → ∀ t, St j t → Back (item t) (enc (f j)) (fun x => Q (f j) x ∧ St (j + 1) (nx t x))) :
    ∀ m, m ≤ n → Back (iterS item nx m s) ((List.range m).flatMap fun j => enc (f j)) (fun y => y.1.length = m ∧ (∀ j, j < m → Q (f j) (y.1.getD j d)) ∧ St m y.2) := by
  intro m
  induction m with
  | zero => intro _; exact Back.ret ⟨rfl, fun j hj => absurd hj (by omega), h0⟩
  | succ m ih =>
    intro hm
    have h1 := ih (by omega)
    have h2 : Back (iterS item nx (m + 1) s) (((List.range m).flatMap fun j => enc (f j)) ++ enc (f m)) (fun y => y.1.length = m + 1 ∧ (∀ j, j < m + 1 → Q (f j) (y.1.getD j d)) ∧ St (m + 1) y.2) := by
      refine h1.bind fun y hy => ?_
      obtain ⟨a1, a2, a3⟩ := hy
      refine Back.map (hI m (by omega) y.2 a3) fun x hx => ?_
      refine ⟨by simp [a1], fun j hj => ?_, hx.2⟩
      by_cases hjm : j < m
      · have e : (y.1 ++ [x]).getD j d = y.1.getD j d := by
          rw [List.getD_eq_getElem?_getD, List.getD_eq_getElem?_getD, List.getElem?_append_left (by omega)]
        show Q (f j) ((y.1 ++ [x]).getD j d)
        rw [e]
        exact a2 j hjm
      · have hj' : j = m := by omega
        subst hj'
        have e : (y.1 ++ [x]).getD j d = x := by
          rw [List.getD_eq_getElem?_getD, List.getElem?_append_right (by omega)]
          simp [a1]
        show Q (f j) ((y.1 ++ [x]).getD j d)
        rw [e]
        exact hx.1
    exact h2.eq (by simp [List.range_succ])
theorem back_list {α β σ : Type} (d : α) {bound : Nat} {item : σ → RS α} {nx : σ → α → σ} {enc : β → List Int} {f : Nat → β} {Q : β → α → Prop} (St : Nat → σ → Prop) {n : Nat} {s : σ} (hn : n ≤ bound) (hb : n < 34359738368) (h0 : St 0 s)
    (hI : ∀ j, j < n → ∀ t, St j t → Back (item t) (enc (f j)) (fun x => Q (f j) x ∧ St (j + 1) (nx t x))) :
    Back (listS bound item nx s) (listB enc n f) (fun ys => ys.length = n ∧ ∀ j, j < n → Q (f j) (ys.getD j d)) := by
  refine (back_num hn hb).bind fun m hm => ?_
  subst hm
  exact Back.map (back_iter d h0 hI m (Nat.le_refl _)) fun y hy => ⟨hy.1, hy.2.1⟩
theorem back_plain {α β : Type} (d : α) {bound : Nat} {item : RS α} {enc : β → List Int} {f : Nat → β} {Q : β → α → Prop} {n : Nat} (hn : n ≤ bound) (hb : n < 34359738368) (hI : ∀ j, j < n → Back item (enc (f j)) (fun x => Q (f j) x)) :
    Back (listS bound (fun _ : Unit => item) (fun _ _ => ()) ()) (listB enc n f) (fun ys => ys.length = n ∧ ∀ j, j < n → Q (f j) (ys.getD j d)) :=
  back_list d (fun _ _ => True) hn hb trivial fun j hj _ _ => (hI j hj).mono fun _ h => ⟨h, trivial⟩
theorem back_hop {i : Int} (h0 : 0 ≤ i) (h9 : i ≤ 9) : Back hopI (hopB i) (fun x => x = i) := by
  refine Back.map (back_num (m := i.toNat) (by omega) (by omega)) fun y hy => ?_
  subst hy
  omega
theorem back_rec {w : World} {S : Nat → Prop} {r : RT} (hin : RT.In w S r) (h : chkRec r = 0) : Back recS (recB r) (fun y => RT.Alike r y) := by
  have hv := vr_of h
  have hc : (chk r.v 0 0).1 = 0 := by
    unfold chkRec at h
    split at h
    · cases h
    split at h
    · rename_i h2; exact absurd h h2
    · rename_i h2; exact Decidable.not_not.1 h2
  refine (back_key hv.key).bind fun k hk => (back_val (val_of r.v 0 0 hin.v hc) hc).bind fun v hv2 => ?_
  subst hk
  refine Back.map (back_plain (enc := hopB) (Q := fun i x => x = i) (0 : Int) hv.n (by have := hv.n; omega) fun j hj => back_hop (hv.loop j hj).1 (hv.loop j hj).2) fun l hl => ?_
  exact ⟨rfl, hv2, hl.1, hl.2⟩
theorem back_recs {w : World} {S : Nat → Prop} {l : LT RT} (hin : ∀ j, j < l.n → RT.In w S (l.item j)) (hn : l.n ≤ 256) (h : ∀ j, j < l.n → chkRec (l.item j) = 0) : Back recsS (recsB l) (fun ys => ys.length = l.n ∧ ∀ j, j < l.n → RT.Alike (l.item j) (ys.getD j zeroR)) :=
  back_plain zeroR hn (by omega) fun j hj => back_rec (hin j hj) (h j hj)
theorem back_recsL {w : World} {S : Nat → Prop} {l : LT RT} (hin : ∀ j, j < l.n → RT.In w S (l.item j)) (hn : l.n ≤ 256) (h : ∀ j, j < l.n → chkRec (l.item j) = 0) : Back recsL (recsB l) (fun y => RecsAlike l y) :=
  Back.map (back_recs hin hn h) fun _ hl => ⟨hl.1, hl.2⟩
theorem back_logs {w : World} {S : Nat → Prop} {l : LT (LT RT)} (hin : ∀ j, j < l.n → ∀ i, i < (l.item j).n → RT.In w S ((l.item j).item i)) (hn : l.n ≤ 4) (hn2 : ∀ j, j < l.n → (l.item j).n ≤ 256) (h : ∀ j, j < l.n → ∀ i, i < (l.item j).n → chkRec ((l.item j).item i) = 0) : Back logsL (listB recsB l.n l.item) (fun ys => ys.length = l.n ∧ ∀ j, j < l.n → RecsAlike (l.item j) (ys.getD j (mkLT zeroR []))) :=
  back_plain (mkLT zeroR []) hn (by omega) fun j hj => back_recsL (hin j hj) (hn2 j hj) (h j hj)
/-- a state's cells, alike: their key and values -/
structure CAlike (t u : VT) : Prop where
  text : u.text = t.text
  n : u.n = t.n
  item : ∀ j, j < t.n → VT.Alike (t.item j) (u.item j)
theorem back_rise {s : Option ByteArray} {k : ByteArray} (h : k.size ≤ 12) (hr : rises s k) : Back (riseS s) (keyB k) (· = k) := by
  have := (back_key h).bind (g := fun k => if (match s with | none => true | some l => Op.bytesLess l.toList k.toList) = true then retS k else failS 42) (C := []) (Q2 := (· = k)) (fun y hy => by
    subst hy
    cases s with
    | none => exact Back.ret rfl
    | some l =>
      show Back (if Op.bytesLess l.toList y.toList = true then retS y else failS 42) [] _
      rw [if_pos (hr l rfl)]
      exact Back.ret rfl)
  rw [List.append_nil] at this
  exact this
theorem back_cell {w : World} {S : Nat → Prop} {s : Option ByteArray} {t : VT} (hin : VT.In w S t) (hk : t.text.size ≤ 12) (hr : rises s t.text) (hc : chkVals t = 0) : Back (cellS s) (cellB t) (fun x => CAlike t x) := by
  refine (back_rise hk hr).bind fun k hk => ?_
  subst hk
  have hn : t.n ≤ 6 := by
    unfold chkVals at hc
    split at hc
    · cases hc
    · omega
  have hv : ∀ j, j < t.n → (chk (t.item j) 0 0).1 = 0 := by
    unfold chkVals at hc
    rw [if_neg (by omega)] at hc
    exact firstC_all _ hc
  have hl := cell_vals hin
  refine Back.map (back_plain (enc := valB) (Q := fun t x => VT.Alike t x) VT.nil hn (by omega) fun j hj => back_val (val_of _ 0 0 (hl.each j hj) (hv j hj)) (hv j hj)) fun l hl => ?_
  exact ⟨rfl, hl.1, hl.2⟩
/-- the key ahead of item j -/
def Ahead (g : Nat → ByteArray) (j : Nat) (s : Option ByteArray) : Prop := (j = 0 → s = none) ∧ (0 < j → s = some (g (j - 1)))
theorem Ahead.rises {g : Nat → ByteArray} {j : Nat} {s : Option ByteArray} (h : Ahead g j s) (hr : 0 < j → Op.bytesLess (g (j - 1)).toList (g j).toList = true) : rises s (g j) := by
  intro l hl
  by_cases hj : j = 0
  · rw [h.1 hj] at hl; cases hl
  · rw [h.2 (by omega)] at hl
    cases hl
    exact hr (by omega)
theorem back_cells {w : World} {S : Nat → Prop} {n : Nat} {f : Nat → VT} (hin : ∀ j, j < n → VT.In w S (f j)) (hn : n ≤ 64) (hc : ∀ j, j < n → chkCell f j = 0) : Back cellsS (listB cellB n f) (fun ys => ys.length = n ∧ ∀ j, j < n → CAlike (f j) (ys.getD j .nil)) := by
  refine back_list VT.nil (Ahead fun j => (f j).text) hn (by omega) ⟨fun _ => rfl, fun h => absurd h (by decide)⟩ fun j hj s hs => ?_
  have h1 := hc j hj
  unfold chkCell at h1
  split at h1
  · cases h1
  rename_i h2
  split at h1
  · cases h1
  rename_i h3
  refine (back_cell (hin j hj) (by omega) (Ahead.rises (g := fun j => (f j).text) hs fun h0 => ?_) h1).mono fun x hx => ⟨hx, fun h => absurd h (by omega), fun _ => ?_⟩
  · cases hb : Op.bytesLess (f (j - 1)).text.toList (f j).text.toList
    · exact absurd ⟨h0, hb⟩ h3
    · rfl
  · show some x.text = some (f (j + 1 - 1)).text
    rw [hx.text]
    rfl
theorem back_gone {l : LT ByteArray} (hn : l.n ≤ 64) (h : Rises l) : Back goneS (listB keyB l.n l.item) (fun ys => ys.length = l.n ∧ ∀ j, j < l.n → ys.getD j ⟨#[]⟩ = l.item j) := by
  refine back_list (Q := fun k x => x = k) (⟨#[]⟩ : ByteArray) (Ahead l.item) hn (by omega) ⟨fun _ => rfl, fun h => absurd h (by decide)⟩ fun j hj s hs => ?_
  refine (back_rise (h j hj).1 (hs.rises (h j hj).2)).mono fun x hx => ⟨hx, fun h => absurd h (by omega), fun _ => ?_⟩
  show some x = some (l.item (j + 1 - 1))
  rw [hx]
  rfl
structure SAlike (s t : ST) : Prop where
  num : t.num = s.num
  n : t.n = s.n
  cell : ∀ j, j < s.n → CAlike (s.cell j) (t.cell j)
theorem back_state {w : World} {S : Nat → Prop} {s : ST} (hin : ∀ j, j < s.n → VT.In w S (s.cell j)) (h : chkState s = 0) : Back stateS (stateB s) (fun y => SAlike s y) := by
  have hv := vs_of h
  have hc : ∀ j, j < s.n → chkCell s.cell j = 0 := by
    unfold chkState at h
    split at h
    · cases h
    split at h
    · cases h
    exact firstC_all _ h
  have h0 := hv.num0
  have h1 := hv.num1
  refine (back_num (m := s.num.toNat) (by omega) (by omega)).bind fun n hn => ?_
  subst hn
  refine Back.map (back_cells hin hv.n hc) fun l hl => ⟨?_, hl.1, hl.2⟩
  show ((s.num.toNat : Nat) : Int) = s.num
  omega
theorem back_delta {w : World} {S : Nat → Prop} {d : DT} (hin : ∀ j, j < d.set.n → VT.In w S (d.set.item j)) (h : chkState ⟨(d.num : Int), d.set.p, d.set.n, d.set.c, d.set.item⟩ = 0) (hn : d.gone.n ≤ 64) (hr : Rises d.gone) :
    Back deltaS (deltaB d) (fun y => y.1 = d.num ∧ (y.2.1.length = d.set.n ∧ ∀ j, j < d.set.n → CAlike (d.set.item j) (y.2.1.getD j .nil)) ∧ (y.2.2.length = d.gone.n ∧ ∀ j, j < d.gone.n → y.2.2.getD j ⟨#[]⟩ = d.gone.item j)) := by
  have hv := vs_of h
  have hc : ∀ j, j < d.set.n → chkCell d.set.item j = 0 := by
    unfold chkState at h
    split at h
    · cases h
    split at h
    · cases h
    exact firstC_all _ h
  have h1 : (d.num : Int) ≤ 1073741824 := hv.num1
  refine (back_num (m := d.num) (by omega) (by omega)).bind fun n hn2 => (back_cells hin hv.n hc).bind fun c hcc => Back.map (back_gone hn hr) fun g hg => ⟨hn2, hcc, hg⟩
theorem back_file {u : Nat × Nat} (h1 : u.1 ≤ 65536) (h2 : u.2 < 4294967296) : Back fileS (fileB u) (fun y => y = u) := by
  refine (back_num h1 (by omega)).bind fun n hn => Back.map (back_word h2) fun x hx => ?_
  rw [hn, hx]
theorem back_man {m : MT} (h : VM m) : Back manS (manB m) (fun y => y.1 = m.id ∧ y.2.1 = m.sum ∧ y.2.2.length = m.rows.n ∧ ∀ j, j < m.rows.n → y.2.2.getD j (0, 0) = m.rows.item j) := by
  have h1 := h.id
  have h2 := h.n
  exact (back_first 77).bind fun _ _ => (back_num h1 (by omega)).bind fun i hi => (back_word h.sum).bind fun u hu => Back.map (back_plain (enc := fileB) (Q := fun u x => x = u) ((0, 0) : Nat × Nat) h2 (by omega) fun j hj => back_file (h.rows j hj).1 (h.rows j hj).2) fun l hl => ⟨hi, hu, hl.1, hl.2⟩
theorem back_row {w : World} {S : Nat → Prop} {o : OT} (hin : RT.In w S o.rec_) (hn : o.num ≤ 1073741824) (hr : chkRec o.rec_ = 0) : Back outS (outB o) (fun y => y.1 = o.num ∧ RT.Alike o.rec_ y.2) :=
  (back_first 79).bind fun _ _ => (back_num hn (by omega)).bind fun _ ha => Back.map (back_rec hin hr) fun _ h => ⟨ha, h⟩
structure GAlike (g : GT) (y : GP) : Prop where
  id : y.id = g.id
  task : y.task = g.task
  base : y.base = g.base
  sum : y.sum = g.sum
  st : SAlike g.st y.st
  dnum : y.dl.1 = g.d.num
  set : y.dl.2.1.length = g.d.set.n ∧ ∀ j, j < g.d.set.n → CAlike (g.d.set.item j) (y.dl.2.1.getD j .nil)
  gone : y.dl.2.2.length = g.d.gone.n ∧ ∀ j, j < g.d.gone.n → y.dl.2.2.getD j ⟨#[]⟩ = g.d.gone.item j
  logs : y.logs.length = g.logs.n ∧ ∀ j, j < g.logs.n → RecsAlike (g.logs.item j) (y.logs.getD j (mkLT zeroR []))
  pend : y.pend.length = g.pend.n ∧ ∀ j, j < g.pend.n → RT.Alike (g.pend.item j) (y.pend.getD j zeroR)
theorem back_seg {w : World} {S : Nat → Prop} {g : GT} (hin : GT.In w S g) (h : FG g) : Back segS (segB g) (fun y => GAlike g y) := by
  have hid := h.id
  have htk := h.task
  have hbs := h.base
  have hlg : Back logsL (listB recsB g.logs.n g.logs.item) _ := back_logs (w := w) (S := S) (fun j hj i hi => (hin.logs.each j hj).each i hi) h.ln h.ln2 h.logs
  have hpd : Back recsS (recsB g.pend) _ := back_recs (w := w) (S := S) (fun j hj => hin.pend.each j hj) h.pn h.pend
  refine (back_first 83).bind fun _ _ => (back_num hid (by omega)).bind fun i hi => (back_num htk (by omega)).bind fun t ht => (back_num hbs (by omega)).bind fun b hb => ?_
  subst hi ht hb
  by_cases h0 : g.base = 0
  · rw [if_pos h0, if_pos h0]
    obtain ⟨z1, z2, z3, z4, z5⟩ := h.zero0 h0
    refine (back_state (fun j hj => hin.st.i.each j hj) z5).bind fun s hs => hlg.bind fun l hl => Back.map hpd fun p hp => ?_
    exact ⟨rfl, rfl, h0.symm, z1.symm, hs, z2.symm, ⟨z3.symm, fun j hj => absurd hj (by omega)⟩, ⟨z4.symm, fun j hj => absurd hj (by omega)⟩, hl, hp⟩
  · rw [if_neg h0, if_neg h0]
    obtain ⟨z1, z2, z3, z4, z5⟩ := h.zero1 h0
    have key : Back (bindS wordS fun u => bindS deltaS fun d => bindS logsL fun l => bindS recsS fun p => retS (⟨g.id, g.task, g.base, u, mkS 0 [], d, l, p⟩ : GP)) (wordB g.sum ++ (deltaB g.d ++ (listB recsB g.logs.n g.logs.item ++ recsB g.pend))) (fun y => GAlike g y) :=
      (back_word h.sum).bind fun u hu => (back_delta (fun j hj => hin.d.set.each j hj) z3 z4 z5).bind fun d hd => hlg.bind fun l hl => Back.map hpd fun p hp =>
        ⟨rfl, rfl, rfl, hu, ⟨z1.symm, z2.symm, fun j hj => absurd hj (by omega)⟩, hd.1, hd.2.1, hd.2.2, hl, hp⟩
    exact key.eq (by simp [List.append_assoc])
end Go.Proofs.YtfonicphdejdlaaGreat
