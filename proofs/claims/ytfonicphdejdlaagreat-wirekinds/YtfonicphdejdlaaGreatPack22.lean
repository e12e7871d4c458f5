import Derived.Test.YtfonicphdejdlaaGreatPack21
import Derived.Test.YtfonicphdejdlaaGreatPack20
import Derived.Test.YtfonicphdejdlaaGreatPack5
import Derived.Orders
namespace Go.Proofs.YtfonicphdejdlaaGreat
open Go.RowKit
set_option maxRecDepth 8000

theorem Back.eq {α : Type} {s : RS α} {B C : List Int} {Q : α → Prop} (h : Back s B Q) (e : B = C) : Back s C Q := e ▸ h
theorem back_iter {α β σ : Type} (d : α) {item : σ → RS α} {nx : σ → α → σ} {enc : β → List Int} {f : Nat → β} {Q : β → α → Prop} {St : Nat → σ → Prop} {n : Nat} {s : σ} (h0 : St 0 s)
    (hI : ∀ j, j < n → ∀ t, St j t → Back (item t) (enc (f j)) (fun x => Q (f j) x ∧ St (j + 1) (nx t x))) :
    ∀ m, m ≤ n → Back (iterS item nx m s) ((List.range m).flatMap fun j => enc (f j)) (fun y => y.1.length = m ∧ (∀ j, j < m → Q (f j) (y.1.getD j d)) ∧ St m y.2) := by
  intro m
  induction m with
  | zero => intro _; exact Back.ret ⟨rfl, fun j hj => absurd hj (by omega), h0⟩
  | succ m ih =>
    intro hm
    have h1 := ih (by omega)
    have h2 : Back (iterS item nx (m + 1) s) (((List.range m).flatMap fun j => enc (f j)) ++ enc (f m)) (fun y => y.1.length = m + 1 ∧ (∀ j, j < m + 1 → Q (f j) (y.1.getD j d)) ∧ St (m + 1) y.2) := by
      refine h1.bind fun y hy => ?_
      obtain ⟨a1, a2, a3⟩ := hy
      refine Back.map (hI m (by omega) y.2 a3) fun x hx => ?_
      refine ⟨by simp [a1], fun j hj => ?_, hx.2⟩
      by_cases hjm : j < m
      · have e : (y.1 ++ [x]).getD j d = y.1.getD j d := by
          rw [List.getD_eq_getElem?_getD, List.getD_eq_getElem?_getD, List.getElem?_append_left (by omega)]
        show Q (f j) ((y.1 ++ [x]).getD j d)
        rw [e]
        exact a2 j hjm
      · have hj' : j = m := by omega
        subst hj'
        have e : (y.1 ++ [x]).getD j d = x := by
          rw [List.getD_eq_getElem?_getD, List.getElem?_append_right (by omega)]
          simp [a1]
        show Q (f j) ((y.1 ++ [x]).getD j d)
        rw [e]
        exact hx.1
    exact h2.eq (by simp [List.range_succ])
theorem back_list {α β σ : Type} (d : α) {bound : Nat} {item : σ → RS α} {nx : σ → α → σ} {enc : β → List Int} {f : Nat → β} {Q : β → α → Prop} (St : Nat → σ → Prop) {n : Nat} {s : σ} (hn : n ≤ bound) (hb : n < 34359738368) (h0 : St 0 s)
    (hI : ∀ j, j < n → ∀ t, St j t → Back (item t) (enc (f j)) (fun x => Q (f j) x ∧ St (j + 1) (nx t x))) :
    Back (listS bound item nx s) (listB enc n f) (fun ys => ys.length = n ∧ ∀ j, j < n → Q (f j) (ys.getD j d)) := by
  refine (back_num hn hb).bind fun m hm => ?_
  subst hm
  exact Back.map (back_iter d h0 hI m (Nat.le_refl _)) fun y hy => ⟨hy.1, hy.2.1⟩
theorem back_plain {α β : Type} (d : α) {bound : Nat} {item : RS α} {enc : β → List Int} {f : Nat → β} {Q : β → α → Prop} {n : Nat} (hn : n ≤ bound) (hb : n < 34359738368) (hI : ∀ j, j < n → Back item (enc (f j)) (fun x => Q (f j) x)) :
    Back (listS bound (fun _ : Unit => item) (fun _ _ => ()) ()) (listB enc n f) (fun ys => ys.length = n ∧ ∀ j, j < n → Q (f j) (ys.getD j d)) :=
  back_list d (fun _ _ => True) hn hb trivial fun j hj _ _ => (hI j hj).mono fun _ h => ⟨h, trivial⟩
theorem back_hop {i : Int} (h0 : 0 ≤ i) (h9 : i ≤ 9) : Back hopI (hopB i) (fun x => x = i) := by
  refine Back.map (back_num (m := i.toNat) (by omega) (by omega)) fun y hy => ?_
  subst hy
  omega
theorem back_rec {w : World} {S : Nat → Prop} {r : RT} (hin : RT.In w S r) (h : chkRec r = 0) : Back recS (recB r) (fun y => RT.Alike r y) := by
  have hv := vr_of h
  have hc : (chk r.v 0 0).1 = 0 := by
    unfold chkRec at h
    split at h
    · cases h
    split at h
    · rename_i h2; exact absurd h h2
    · rename_i h2; exact Decidable.not_not.1 h2
  refine (back_key hv.key).bind fun k hk => (back_val (val_of r.v 0 0 hin.v hc) hc).bind fun v hv2 => ?_
  subst hk
  refine Back.map (back_plain (enc := hopB) (Q := fun i x => x = i) (0 : Int) hv.n (by have := hv.n; omega) fun j hj => back_hop (hv.loop j hj).1 (hv.loop j hj).2) fun l hl => ?_
  exact ⟨rfl, hv2, hl.1, hl.2⟩
theorem back_recs {w : World} {S : Nat → Prop} {l : LT RT} (hin : ∀ j, j < l.n → RT.In w S (l.item j)) (hn : l.n ≤ 256) (h : ∀ j, j < l.n → chkRec (l.item j) = 0) : Back recsS (recsB l) (fun ys => ys.length = l.n ∧ ∀ j, j < l.n → RT.Alike (l.item j) (ys.getD j zeroR)) :=
  back_plain zeroR hn (by omega) fun j hj => back_rec (hin j hj) (h j hj)
theorem back_recsL {w : World} {S : Nat → Prop} {l : LT RT} (hin : ∀ j, j < l.n → RT.In w S (l.item j)) (hn : l.n ≤ 256) (h : ∀ j, j < l.n → chkRec (l.item j) = 0) : Back recsL (recsB l) (fun y => RecsAlike l y) :=
  Back.map (back_recs hin hn h) fun _ hl => ⟨hl.1, hl.2⟩
theorem back_logs {w : World} {S : Nat → Prop} {l : LT (LT RT)} (hin : ∀ j, j < l.n → ∀ i, i < (l.item j).n → RT.In w S ((l.item j).item i)) (hn : l.n ≤ 4) (hn2 : ∀ j, j < l.n → (l.item j).n ≤ 256) (h : ∀ j, j < l.n → ∀ i, i < (l.item j).n → chkRec ((l.item j).item i) = 0) : Back logsL (listB recsB l.n l.item) (fun ys => ys.length = l.n ∧ ∀ j, j < l.n → RecsAlike (l.item j) (ys.getD j (mkLT zeroR []))) :=
  back_plain (mkLT zeroR []) hn (by omega) fun j hj => back_recsL (hin j hj) (hn2 j hj) (h j hj)
/-- a state's cells, alike: their key and values -/
structure CAlike (t u : VT) : Prop where
  text : u.text = t.text
  n : u.n = t.n
  item : ∀ j, j < t.n → VT.Alike (t.item j) (u.item j)
theorem back_rise {s : Option ByteArray} {k : ByteArray} (h : k.size ≤ 12) (hr : rises s k) : Back (riseS s) (keyB k) (· = k) := by
  have := (back_key h).bind (g := fun k => if (match s with | none => true | some l => Op.bytesLess l.toList k.toList) = true then retS k else failS 42) (C := []) (Q2 := (· = k)) (fun y hy => by
    subst hy
    cases s with
    | none => exact Back.ret rfl
    | some l =>
      show Back (if Op.bytesLess l.toList y.toList = true then retS y else failS 42) [] _
      rw [if_pos (hr l rfl)]
      exact Back.ret rfl)
  rw [List.append_nil] at this
  exact this
theorem back_cell {w : World} {S : Nat → Prop} {s : Option ByteArray} {t : VT} (hin : VT.In w S t) (hk : t.text.size ≤ 12) (hr : rises s t.text) (hc : chkVals t = 0) : Back (cellS s) (cellB t) (fun x => CAlike t x) := by
  refine (back_rise hk hr).bind fun k hk => ?_
  subst hk
  have hn : t.n ≤ 6 := by
    unfold chkVals at hc
    split at hc
    · cases hc
    · omega
  have hv : ∀ j, j < t.n → (chk (t.item j) 0 0).1 = 0 := by
    unfold chkVals at hc
    rw [if_neg (by omega)] at hc
    exact firstC_all _ hc
  have hl := cell_vals hin
  refine Back.map (back_plain (enc := valB) (Q := fun t x => VT.Alike t x) VT.nil hn (by omega) fun j hj => back_val (val_of _ 0 0 (hl.each j hj) (hv j hj)) (hv j hj)) fun l hl => ?_
  exact ⟨rfl, hl.1, hl.2⟩
/-- the key ahead of item j -/
def Ahead (g : Nat → ByteArray) (j : Nat) (s : Option ByteArray) : Prop := (j = 0 → s = none) ∧ (0 < j → s = some (g (j - 1)))
theorem Ahead.rises {g : Nat → ByteArray} {j : Nat} {s : Option ByteArray} (h : Ahead g j s) (hr : 0 < j → Op.bytesLess (g (j - 1)).toList (g j).toList = true) : rises s (g j) := by
  intro l hl
  by_cases hj : j = 0
  · rw [h.1 hj] at hl; cases hl
  · rw [h.2 (by omega)] at hl
    cases hl
    exact hr (by omega)
theorem back_cells {w : World} {S : Nat → Prop} {n : Nat} {f : Nat → VT} (hin : ∀ j, j < n → VT.In w S (f j)) (hn : n ≤ 64) (hc : ∀ j, j < n → chkCell f j = 0) : Back cellsS (listB cellB n f) (fun ys => ys.length = n ∧ ∀ j, j < n → CAlike (f j) (ys.getD j .nil)) := by
  refine back_list VT.nil (Ahead fun j => (f j).text) hn (by omega) ⟨fun _ => rfl, fun h => absurd h (by decide)⟩ fun j hj s hs => ?_
  have h1 := hc j hj
  unfold chkCell at h1
  split at h1
  · cases h1
  rename_i h2
  split at h1
  · cases h1
  rename_i h3
  refine (back_cell (hin j hj) (by omega) (Ahead.rises (g := fun j => (f j).text) hs fun h0 => ?_) h1).mono fun x hx => ⟨hx, fun h => absurd h (by omega), fun _ => ?_⟩
  · cases hb : Op.bytesLess (f (j - 1)).text.toList (f j).text.toList
    · exact absurd ⟨h0, hb⟩ h3
    · rfl
  · show some x.text = some (f (j + 1 - 1)).text
    rw [hx.text]
    rfl
theorem back_gone {l : LT ByteArray} (hn : l.n ≤ 64) (h : Rises l) : Back goneS (listB keyB l.n l.item) (fun ys => ys.length = l.n ∧ ∀ j, j < l.n → ys.getD j ⟨#[]⟩ = l.item j) := by
  refine back_list (Q := fun k x => x = k) (⟨#[]⟩ : ByteArray) (Ahead l.item) hn (by omega) ⟨fun _ => rfl, fun h => absurd h (by decide)⟩ fun j hj s hs => ?_
  refine (back_rise (h j hj).1 (hs.rises (h j hj).2)).mono fun x hx => ⟨hx, fun h => absurd h (by omega), fun _ => ?_⟩
  show some x = some (l.item (j + 1 - 1))
  rw [hx]
  rfl
structure SAlike (s t : ST) : Prop where
  num : t.num = s.num
  n : t.n = s.n
  cell : ∀ j, j < s.n → CAlike (s.cell j) (t.cell j)
theorem back_state {w : World} {S : Nat → Prop} {s : ST} (hin : ∀ j, j < s.n → VT.In w S (s.cell j)) (h : chkState s = 0) : Back stateS (stateB s) (fun y => SAlike s y) := by
  have hv := vs_of h
  have hc : ∀ j, j < s.n → chkCell s.cell j = 0 := by
    unfold chkState at h
    split at h
    · cases h
    split at h
    · cases h
    exact firstC_all _ h
  have h0 := hv.num0
  have h1 := hv.num1
  refine (back_num (m := s.num.toNat) (by omega) (by omega)).bind fun n hn => ?_
  subst hn
  refine Back.map (back_cells hin hv.n hc) fun l hl => ⟨?_, hl.1, hl.2⟩
  show ((s.num.toNat : Nat) : Int) = s.num
  omega
theorem back_delta {w : World} {S : Nat → Prop} {d : DT} (hin : ∀ j, j < d.set.n → VT.In w S (d.set.item j)) (h : chkState ⟨(d.num : Int), d.set.p, d.set.n, d.set.c, d.set.item⟩ = 0) (hn : d.gone.n ≤ 64) (hr : Rises d.gone) :
    Back deltaS (deltaB d) (fun y => y.1 = d.num ∧ (y.2.1.length = d.set.n ∧ ∀ j, j < d.set.n → CAlike (d.set.item j) (y.2.1.getD j .nil)) ∧ (y.2.2.length = d.gone.n ∧ ∀ j, j < d.gone.n → y.2.2.getD j ⟨#[]⟩ = d.gone.item j)) := by
  have hv := vs_of h
  have hc : ∀ j, j < d.set.n → chkCell d.set.item j = 0 := by
    unfold chkState at h
    split at h
    · cases h
    split at h
    · cases h
    exact firstC_all _ h
  have h1 : (d.num : Int) ≤ 1073741824 := hv.num1
  refine (back_num (m := d.num) (by omega) (by omega)).bind fun n hn2 => (back_cells hin hv.n hc).bind fun c hcc => Back.map (back_gone hn hr) fun g hg => ⟨hn2, hcc, hg⟩
theorem back_file {u : Nat × Nat} (h1 : u.1 ≤ 65536) (h2 : u.2 < 4294967296) : Back fileS (fileB u) (fun y => y = u) := by
  refine (back_num h1 (by omega)).bind fun n hn => Back.map (back_word h2) fun x hx => ?_
  rw [hn, hx]
theorem back_man {m : MT} (h : VM m) : Back manS (manB m) (fun y => y.1 = m.id ∧ y.2.1 = m.sum ∧ y.2.2.length = m.rows.n ∧ ∀ j, j < m.rows.n → y.2.2.getD j (0, 0) = m.rows.item j) := by
  have h1 := h.id
  have h2 := h.n
  exact (back_first 77).bind fun _ _ => (back_num h1 (by omega)).bind fun i hi => (back_word h.sum).bind fun u hu => Back.map (back_plain (enc := fileB) (Q := fun u x => x = u) ((0, 0) : Nat × Nat) h2 (by omega) fun j hj => back_file (h.rows j hj).1 (h.rows j hj).2) fun l hl => ⟨hi, hu, hl.1, hl.2⟩
theorem back_row {w : World} {S : Nat → Prop} {o : OT} (hin : RT.In w S o.rec_) (hn : o.num ≤ 1073741824) (hr : chkRec o.rec_ = 0) : Back outS (outB o) (fun y => y.1 = o.num ∧ RT.Alike o.rec_ y.2) :=
  (back_first 79).bind fun _ _ => (back_num hn (by omega)).bind fun _ ha => Back.map (back_rec hin hr) fun _ h => ⟨ha, h⟩
structure GAlike (g : GT) (y : GP) : Prop where
  id : y.id = g.id
  task : y.task = g.task
  base : y.base = g.base
  sum : y.sum = g.sum
  st : SAlike g.st y.st
  dnum : y.dl.1 = g.d.num
  set : y.dl.2.1.length = g.d.set.n ∧ ∀ j, j < g.d.set.n → CAlike (g.d.set.item j) (y.dl.2.1.getD j .nil)
  gone : y.dl.2.2.length = g.d.gone.n ∧ ∀ j, j < g.d.gone.n → y.dl.2.2.getD j ⟨#[]⟩ = g.d.gone.item j
  logs : y.logs.length = g.logs.n ∧ ∀ j, j < g.logs.n → RecsAlike (g.logs.item j) (y.logs.getD j (mkLT zeroR []))
  pend : y.pend.length = g.pend.n ∧ ∀ j, j < g.pend.n → RT.Alike (g.pend.item j) (y.pend.getD j zeroR)
theorem back_seg {w : World} {S : Nat → Prop} {g : GT} (hin : GT.In w S g) (h : FG g) : Back segS (segB g) (fun y => GAlike g y) := by
  have hid := h.id
  have htk := h.task
  have hbs := h.base
  have hlg : Back logsL (listB recsB g.logs.n g.logs.item) _ := back_logs (w := w) (S := S) (fun j hj i hi => (hin.logs.each j hj).each i hi) h.ln h.ln2 h.logs
  have hpd : Back recsS (recsB g.pend) _ := back_recs (w := w) (S := S) (fun j hj => hin.pend.each j hj) h.pn h.pend
  refine (back_first 83).bind fun _ _ => (back_num hid (by omega)).bind fun i hi => (back_num htk (by omega)).bind fun t ht => (back_num hbs (by omega)).bind fun b hb => ?_
  subst hi ht hb
  by_cases h0 : g.base = 0
  · rw [if_pos h0, if_pos h0]
    obtain ⟨z1, z2, z3, z4, z5⟩ := h.zero0 h0
    refine (back_state (fun j hj => hin.st.i.each j hj) z5).bind fun s hs => hlg.bind fun l hl => Back.map hpd fun p hp => ?_
    exact ⟨rfl, rfl, h0.symm, z1.symm, hs, z2.symm, ⟨z3.symm, fun j hj => absurd hj (by omega)⟩, ⟨z4.symm, fun j hj => absurd hj (by omega)⟩, hl, hp⟩
  · rw [if_neg h0, if_neg h0]
    obtain ⟨z1, z2, z3, z4, z5⟩ := h.zero1 h0
    have key : Back (bindS wordS fun u => bindS deltaS fun d => bindS logsL fun l => bindS recsS fun p => retS (⟨g.id, g.task, g.base, u, mkS 0 [], d, l, p⟩ : GP)) (wordB g.sum ++ (deltaB g.d ++ (listB recsB g.logs.n g.logs.item ++ recsB g.pend))) (fun y => GAlike g y) :=
      (back_word h.sum).bind fun u hu => (back_delta (fun j hj => hin.d.set.each j hj) z3 z4 z5).bind fun d hd => hlg.bind fun l hl => Back.map hpd fun p hp =>
        ⟨rfl, rfl, rfl, hu, ⟨z1.symm, z2.symm, fun j hj => absurd hj (by omega)⟩, hd.1, hd.2.1, hd.2.2, hl, hp⟩
    exact key.eq (by simp [List.append_assoc])
end Go.Proofs.YtfonicphdejdlaaGreat

namespace Go.Proofs.YtfonicphdejdlaaGreat
open Go.RowKit
set_option maxRecDepth 8000

theorem first_bad {x y : Int} {L : List Int} (h : y ≠ x) : firstS x (y :: L) = .error 41 := by
  have e : takeS 1 (y :: L) = .ok ([y], L) := by simp [takeS]
  unfold firstS bindS
  rw [e]
  show (if y = x then retS () else failS 41) L = _
  rw [if_neg h]
  rfl
theorem seg_bad {y : Int} {L : List Int} (h : y ≠ 83) : segS (y :: L) = .error 41 := by
  unfold segS bindS
  rw [first_bad h]
theorem man_bad {y : Int} {L : List Int} (h : y ≠ 77) : manS (y :: L) = .error 41 := by
  unfold manS bindS
  rw [first_bad h]
theorem out_bad {y : Int} {L : List Int} (h : y ≠ 79) : outS (y :: L) = .error 41 := by
  unfold outS bindS
  rw [first_bad h]
theorem in_nilL {α : Type} {E : El α} (w : World) (S : Nat → Prop) (d : α) : LT.In E w S (noL d) :=
  ⟨fun h => absurd h (Nat.lt_irrefl 0), fun j h => absurd h (Nat.not_lt_zero j), Nat.le_refl 0, Nat.zero_le _, Nat.zero_le _, fun _ => ⟨rfl, rfl⟩⟩
theorem in_nilG (w : World) (S : Nat → Prop) : GI.In w S nilG := ⟨by decide, by decide, by decide, by decide, by decide, by decide, by decide, in_noS w S, by decide, by decide, in_nilL w S _, in_nilL w S _, in_nilL w S _, in_nilL w S _⟩
theorem in_nilR (w : World) (S : Nat → Prop) : RT.In w S nilR := by
  refine ⟨?_, ⟨fun h => absurd h (Nat.lt_irrefl 0), Nat.le_refl 0, Nat.zero_le _, Nat.zero_le _, fun j h => absurd h (Nat.not_lt_zero j), fun _ => ⟨rfl, rfl⟩⟩, by decide⟩
  have h := in_zero w S
  exact h

theorem in_nilM (w : World) (S : Nat → Prop) : LT.In elRowI w S nilM.rows := in_nilL w S _
theorem HI.only_in {w : World} {S : Nat → Prop} {t : HI} (h : HI.In w S t) : HI.In w S t.only := by
  unfold HI.only
  split
  · exact ⟨by simp, by simp, in_nilR w S, h.s, in_nilG w S, in_nilM w S, by simp [nilM], by simp [nilM], by simp [nilM], in_nilR w S, by simp [nilO], by simp [nilO]⟩
  split
  · exact ⟨by simp, by simp, in_nilR w S, in_noS w S, h.g, in_nilM w S, by simp [nilM], by simp [nilM], by simp [nilM], in_nilR w S, by simp [nilO], by simp [nilO]⟩
  split
  · exact ⟨by simp, by simp, in_nilR w S, in_noS w S, in_nilG w S, h.m, h.msum, h.m0, h.m1, in_nilR w S, by simp [nilO], by simp [nilO]⟩
  split
  · exact ⟨by simp, by simp, in_nilR w S, in_noS w S, in_nilG w S, in_nilM w S, by simp [nilM], by simp [nilM], by simp [nilM], h.o, h.o0, h.o1⟩
  · exact ⟨by simp, by simp, h.r, in_noS w S, in_nilG w S, in_nilM w S, by simp [nilM], by simp [nilM], by simp [nilM], in_nilR w S, by simp [nilO], by simp [nilO]⟩
theorem only_any (t : HI) (w : World) : Calls Tryz.prog 10 #[.agg t.cells] w fun x w' => x = .returned (.agg t.only.cells) ∧ Below w.heap.size w w' := by
  unfold HI.only
  split
  · rename_i h; exact only_2 t w h
  split
  · rename_i h; exact only_3 t w h
  split
  · rename_i h; exact only_4 t w h
  split
  · rename_i h; exact only_5 t w h
  · rename_i h2 h3 h4 h5; exact only_1 t w h2 h3 h4 h5
end Go.Proofs.YtfonicphdejdlaaGreat

namespace Go.Proofs.YtfonicphdejdlaaGreat
open Go.RowKit
set_option maxRecDepth 8000

/-- how many are not done -/
def unl : List Bool → Nat
  | [] => 0
  | b :: r => (if b then 0 else 1) + unl r
theorem unl_set : ∀ (l : List Bool) (i : Nat), l[i]? = some false → unl (l.set i true) + 1 = unl l
  | [], i, h => by simp at h
  | b :: r, 0, h => by
    simp at h
    subst h
    simp [unl]
    omega
  | b :: r, i + 1, h => by
    have := unl_set r i (by simpa using h)
    simp only [List.set_cons_succ, unl]
    omega
theorem unl_zero : ∀ (l : List Bool), unl l = 0 → ∀ (i : Nat) (b : Bool), l[i]? = some b → b = true
  | [], _, i, b, h => by simp at h
  | c :: r, hu, 0, b, h => by
    simp at h
    subst h
    cases c with
    | true => rfl
    | false => simp [unl] at hu
  | c :: r, hu, i + 1, b, h => by
    refine unl_zero r ?_ i b (by simpa using h)
    simp only [unl] at hu
    omega

/-- WHATEVER ORDER IS DRAWN: a statement about what is done, that each operation keeps -/
theorem wpAny_inv {P : Program} {ops : Array Oper} {Q : Exit → Act → World → Prop} (I : (Nat → Prop) → Act → World → Prop)
    (hext : ∀ D D' a w, (∀ j, D j ↔ D' j) → I D a w → I D' a w)
    (hac : ∀ (i : Nat) (o : Oper), ops[i]? = some o → ∀ e ∈ o.after, Region.binds .any e = true → e.on < i)
    (hstep : ∀ D a w, I D a w → ∀ (i : Nat) (o : Oper), ops[i]? = some o → ¬ D i → (∀ e ∈ o.after, Region.binds .any e = true → D e.on) → wpOp P ops Q i (I fun j => D j ∨ j = i) a w)
    (hend : ∀ D a w, I D a w → (∀ i, i < ops.size → D i) → Q .normal a w) :
    ∀ (fuel : Nat) (listed : Array Bool) (a : Act) (w : World), listed.size = ops.size → unl listed.toList ≤ fuel → I (fun j => listed[j]? = some true) a w → wpAny P .any ops Q fuel listed a w := by
  have hall : ∀ (listed : Array Bool), listed.size = ops.size → Region.ready .any ops listed = [] → ∀ i, i < ops.size → listed[i]? = some true := by
    intro listed hs hr i
    induction i using Nat.strongRecOn with
    | _ i ih =>
      intro hi
      cases hb : listed[i]? with
      | none => rw [Array.getElem?_eq_none_iff] at hb; omega
      | some b =>
        cases b with
        | true => rfl
        | false =>
          exfalso
          have hm : i ∈ Region.ready .any ops listed := by
            rw [mem_ready]
            refine ⟨by simp [Array.getD_eq_getD_getElem?, hb], ops[i], by simp [hi], fun e he hbd => ?_⟩
            have hlt := hac i ops[i] (by simp [hi]) e he hbd
            have := ih e.on hlt (by omega)
            simp [Array.getD_eq_getD_getElem?, this]
          rw [hr] at hm
          cases hm
  intro fuel
  induction fuel with
  | zero =>
    intro listed a w hs hu hI
    have hl : ∀ i, i < ops.size → listed[i]? = some true := by
      intro i hi
      cases hb : listed[i]? with
      | none => rw [Array.getElem?_eq_none_iff] at hb; omega
      | some b => rw [unl_zero listed.toList (by omega) i b (by simpa using hb)]
    refine ⟨?_, hend _ a w hI hl⟩
    cases hr : Region.ready .any ops listed with
    | nil => rfl
    | cons j r =>
      have hj : j ∈ Region.ready .any ops listed := by rw [hr]; simp
      rw [mem_ready] at hj
      obtain ⟨h0, o, ho, _⟩ := hj
      have hlt : j < ops.size := (Array.getElem?_eq_some_iff.1 ho).1
      rw [Array.getD_eq_getD_getElem?, hl j hlt] at h0
      cases h0
  | succ fuel ih =>
    intro listed a w hs hu hI
    refine ⟨fun hr => hend _ a w hI (hall listed hs hr), fun i hi => ?_⟩
    rw [mem_ready] at hi
    obtain ⟨h0, o, ho, hdep⟩ := hi
    have hlt : i < ops.size := (Array.getElem?_eq_some_iff.1 ho).1
    have hli : listed[i]? = some false := by
      cases hb : listed[i]? with
      | none => rw [Array.getElem?_eq_none_iff] at hb; omega
      | some b => rw [Array.getD_eq_getD_getElem?, hb] at h0; simp at h0; rw [h0]
    refine wpOp_mono ?_ (hstep _ a w hI i o ho (by rw [hli]; simp) (fun e he hb => ?_))
    · intro a' w' h'
      refine ih _ a' w' (by simpa using hs) ?_ (hext _ _ _ _ ?_ h')
      · have := unl_set listed.toList i (by simpa using hli)
        rw [Array.toList_setIfInBounds]
        omega
      · intro j
        by_cases hji : j = i
        · subst hji
          simp [hs, hlt]
        · simp [hji, Ne.symm hji]
    · have := hdep e he hb
      rw [Array.getD_eq_getD_getElem?] at this
      cases hb2 : listed[e.on]? with
      | none => rw [hb2] at this; simp at this
      | some b => rw [hb2] at this; simp at this; rw [this]

theorem unl_replicate : ∀ n, unl (List.replicate n false) = n
  | 0 => rfl
  | n + 1 => by
    have := unl_replicate n
    simp only [List.replicate_succ, unl]
    simp
    omega

/-- what comes behind is laid behind -/
def acB (ops : Array Oper) : Bool := (List.range ops.size).all fun i => match ops[i]? with
  | none => true
  | some o => o.after.all fun e => !(Region.binds .any e) || decide (e.on < i)
theorem acB_spec {ops : Array Oper} (h : acB ops = true) : ∀ (i : Nat) (o : Oper), ops[i]? = some o → ∀ e ∈ o.after, Region.binds .any e = true → e.on < i := by
  intro i o ho e he hb
  have hlt : i < ops.size := (Array.getElem?_eq_some_iff.1 ho).1
  have h1 := List.all_eq_true.1 h i (List.mem_range.2 hlt)
  simp only [ho] at h1
  have h2 := Array.all_eq_true_iff_forall_mem.1 h1 e he
  rw [hb] at h2
  simpa using h2

theorem wp_region_inv {P : Program} {ops : Array Oper} {Q : Exit → Act → World → Prop} {id : Nat} {a : Act} {w : World} (hm : P.follows .mixedOrders = true) (I : (Nat → Prop) → Act → World → Prop)
    (hext : ∀ D D' a w, (∀ j, D j ↔ D' j) → I D a w → I D' a w)
    (hac : acB ops = true)
    (h0 : ∀ D, (∀ j, ¬ D j) → I D a w.drew)
    (hstep : ∀ D a w, I D a w → ∀ (i : Nat) (o : Oper), ops[i]? = some o → ¬ D i → (∀ e ∈ o.after, Region.binds .any e = true → D e.on) → wpOp P ops Q i (I fun j => D j ∨ j = i) a w)
    (hend : ∀ D a w, I D a w → (∀ i, i < ops.size → D i) → Q .normal a w) : (Code.region id ops true).wp P Q a w := by
  refine wp_region_any hm (wpAny_inv I hext (acB_spec hac) hstep hend ops.size _ a _ (by simp) ?_ (h0 _ ?_))
  · rw [Array.toList_replicate, unl_replicate]
    exact Nat.le_refl _
  · intro j h
    rw [Array.getElem?_replicate] at h
    split at h <;> simp at h
end Go.Proofs.YtfonicphdejdlaaGreat

namespace Go.Proofs.YtfonicphdejdlaaGreat
open Go.RowKit
set_option maxRecDepth 8000
theorem wpOp_wp {P : Program} {ops : Array Oper} {Q : Exit → Act → World → Prop} {i : Nat} {K : Act → World → Prop} {a : Act} {w : World} {o : Oper} (h : ops[i]? = some o) (hg : o.guard = none) (hw : o.wp P a w K Q) : wpOp P ops Q i K a w := by
  unfold wpOp
  simp only [h]
  rw [if_pos (by simp [Region.wanted, hg])]
  exact Or.inl hw
/-- what is done of the last statement of get -/
structure Tl (W : World) (tb rb : Nat) (cT : Array Value) (k : Int) (D : Nat → Prop) (w : World) (t5 t49 t50 t51 : Value) : Prop where
  kp : But (fun y => y = rb) W w
  bx : Box w tb cT 45
  f0 : D 0 → t49 = .agg cT
  f1 : D 1 → t50 = .int .i64 k
  f2 : D 2 → t51 = .int .i64 k
  f3 : D 3 → Box w rb cT 45
  f3n : ¬ D 3 → Box w rb zC 45
  f4 : D 4 → t5 = .int .i64 k
def TlI (T : Value → Value → Value → Value → Array Value) (W : World) (tb rb : Nat) (cT : Array Value) (k : Int) (D : Nat → Prop) (c : Act) (w : World) : Prop :=
  ∃ t5 t49 t50 t51, c = { tmps := T t5 t49 t50 t51, defers := [] } ∧ Tl W tb rb cT k D w t5 t49 t50 t51
theorem or_of {D : Nat → Prop} {i j : Nat} (h : D i ∨ i = j) (hne : i ≠ j) : D i := h.resolve_right hne
set_option maxHeartbeats 4000000 in
theorem get_tail (x0 x1 x2 x3 x8 x9 x10 x11 x12 x13 x14 x15 x16 x17 x18 x19 x20 x21 x22 x23 x24 x25 x26 x27 x28 x29 x30 x31 x32 x33 x34 x35 x36 x37 x38 x39 x40 x41 x42 x43 x44 x45 x46 x47 x48 : Value) (W : World) (tb rb : Nat) (hne : tb ≠ rb) (cT : Array Value) (hs : cT.size = 30) (ho : cT.all (·.oneCell') = true) (k : Int) (y5 y49 y50 y51 : Value) (hT : Box W tb cT 45) (hR : Box W rb zC 45) (Q : Exit → Act → World → Prop)
    (hQ : ∀ w', Box w' rb cT 45 → But (fun y => y = rb) W w' → Q .normal { tmps := #[x0, x1, x2, x3, .pointer (some ⟨rb, 0, none⟩), .int .i64 k, .pointer (some ⟨tb, 0, none⟩), .int .i64 k, x8, x9, x10, x11, x12, x13, x14, x15, x16, x17, x18, x19, x20, x21, x22, x23, x24, x25, x26, x27, x28, x29, x30, x31, x32, x33, x34, x35, x36, x37, x38, x39, x40, x41, x42, x43, x44, x45, x46, x47, x48, .agg cT, .int .i64 k, .int .i64 k], defers := [] } w') :
    (Code.region 13 #[{ dst := some 49, op := Op.load 45 (Operand.tmp 6), type := 45, pos := "exact.go:101", after := #[], guard := none },
        { dst := some 50, op := Op.move (Operand.tmp 7), type := 60, pos := "exact.go:101", after := #[], guard := none },
        { dst := some 51, op := Op.call { callee := Callee.value (Operand.func 19), args := #[Operand.tmp 50], argTypes := #[60] }, type := 3, pos := "exact.go:101", after := #[{ on := 1, ground := Ground.data }], guard := none },
        { dst := none, op := Op.store 45 (Operand.tmp 4) (Operand.tmp 49), type := 0, pos := "exact.go:101", after := #[{ on := 0, ground := Ground.data }, { on := 2, ground := Ground.chain }, { on := 0, ground := Ground.phase }, { on := 1, ground := Ground.textOnly Departure.lateStores }, { on := 2, ground := Ground.textOnly Departure.lateStoresUnsure }], guard := none },
        { dst := some 5, op := Op.assign (Operand.tmp 51), type := 3, pos := "exact.go:101", after := #[{ on := 2, ground := Ground.data }, { on := 3, ground := Ground.chain }, { on := 0, ground := Ground.phase }, { on := 1, ground := Ground.phase }, { on := 2, ground := Ground.phase }, { on := 3, ground := Ground.phase }], guard := none }] true).wp Tryz.prog Q { tmps := #[x0, x1, x2, x3, .pointer (some ⟨rb, 0, none⟩), y5, .pointer (some ⟨tb, 0, none⟩), .int .i64 k, x8, x9, x10, x11, x12, x13, x14, x15, x16, x17, x18, x19, x20, x21, x22, x23, x24, x25, x26, x27, x28, x29, x30, x31, x32, x33, x34, x35, x36, x37, x38, x39, x40, x41, x42, x43, x44, x45, x46, x47, x48, y49, y50, y51], defers := [] } W := by
  refine wp_region_inv (by kernel_rfl) (TlI (fun t5 t49 t50 t51 => #[x0, x1, x2, x3, .pointer (some ⟨rb, 0, none⟩), t5, .pointer (some ⟨tb, 0, none⟩), .int .i64 k, x8, x9, x10, x11, x12, x13, x14, x15, x16, x17, x18, x19, x20, x21, x22, x23, x24, x25, x26, x27, x28, x29, x30, x31, x32, x33, x34, x35, x36, x37, x38, x39, x40, x41, x42, x43, x44, x45, x46, x47, x48, t49, t50, t51]) W tb rb cT k) ?_ (by kernel_rfl) ?_ ?_ ?_
  · rintro D D' c w1 hD ⟨t5, t49, t50, t51, h, hK⟩
    have e : D = D' := funext fun j => propext (hD j)
    subst e
    exact ⟨t5, t49, t50, t51, h, hK⟩
  · intro D hD
    exact ⟨_, _, _, _, rfl, (But.refl _ _).drew, hT.below (Below.refl _ _).drew, fun h => absurd h (hD _), fun h => absurd h (hD _), fun h => absurd h (hD _), fun h => absurd h (hD _), fun _ => hR.below (Below.refl _ _).drew, fun h => absurd h (hD _)⟩
  · intro D c w1 hI j o hi hnd hdep
    obtain ⟨t5, t49, t50, t51, rfl, hK⟩ := hI
    have hlt : j < 5 := (Array.getElem?_eq_some_iff.1 hi).1
    match j, hlt with
    | 0, _ =>
      cases hi
      refine wpOp_wp rfl rfl (wp_load_row 45 (.tmp 6) rfl tb rfl 45 cT (0, 0) _ hK.bx Tryz.underlying45 rfl (by rw [hs]; exact info45) ?_)
      exact ⟨_, _, _, _, rfl, hK.kp, hK.bx, fun _ => rfl, fun h => hK.f1 (or_of h (by decide)), fun h => hK.f2 (or_of h (by decide)), fun h => hK.f3 (or_of h (by decide)), fun h => hK.f3n (fun h2 => h (Or.inl h2)), fun h => hK.f4 (or_of h (by decide))⟩
    | 1, _ =>
      cases hi
      refine wpOp_wp rfl rfl ?_
      simp [Oper.wp, execOp, go_sem, Oper.upon, Act.eval, Act.put]
      exact ⟨_, _, _, _, rfl, hK.kp, hK.bx, fun h => hK.f0 (or_of h (by decide)), fun _ => rfl, fun h => hK.f2 (or_of h (by decide)), fun h => hK.f3 (or_of h (by decide)), fun h => hK.f3n (fun h2 => h (Or.inl h2)), fun h => hK.f4 (or_of h (by decide))⟩
    | 2, _ =>
      cases hi
      simp [Region.binds] at hdep
      obtain rfl := hK.f1 hdep
      have hst := step_call (Q := Q) (E := False) (ops := #[{ dst := some 49, op := Op.load 45 (Operand.tmp 6), type := 45, pos := "exact.go:101", after := #[], guard := none },
        { dst := some 50, op := Op.move (Operand.tmp 7), type := 60, pos := "exact.go:101", after := #[], guard := none },
        { dst := some 51, op := Op.call { callee := Callee.value (Operand.func 19), args := #[Operand.tmp 50], argTypes := #[60] }, type := 3, pos := "exact.go:101", after := #[{ on := 1, ground := Ground.data }], guard := none },
        { dst := none, op := Op.store 45 (Operand.tmp 4) (Operand.tmp 49), type := 0, pos := "exact.go:101", after := #[{ on := 0, ground := Ground.data }, { on := 2, ground := Ground.chain }, { on := 0, ground := Ground.phase }, { on := 1, ground := Ground.textOnly Departure.lateStores }, { on := 2, ground := Ground.textOnly Departure.lateStoresUnsure }], guard := none },
        { dst := some 5, op := Op.assign (Operand.tmp 51), type := 3, pos := "exact.go:101", after := #[{ on := 2, ground := Ground.data }, { on := 3, ground := Ground.chain }, { on := 0, ground := Ground.phase }, { on := 1, ground := Ground.phase }, { on := 2, ground := Ground.phase }, { on := 3, ground := Ground.phase }], guard := none }]) (a := { tmps := #[x0, x1, x2, x3, .pointer (some ⟨rb, 0, none⟩), t5, .pointer (some ⟨tb, 0, none⟩), .int .i64 k, x8, x9, x10, x11, x12, x13, x14, x15, x16, x17, x18, x19, x20, x21, x22, x23, x24, x25, x26, x27, x28, x29, x30, x31, x32, x33, x34, x35, x36, x37, x38, x39, x40, x41, x42, x43, x44, x45, x46, x47, x48, t49, (.int .i64 k), t51], defers := [] }) (w := w1) (K := TlI (fun t5 t49 t50 t51 => #[x0, x1, x2, x3, .pointer (some ⟨rb, 0, none⟩), t5, .pointer (some ⟨tb, 0, none⟩), .int .i64 k, x8, x9, x10, x11, x12, x13, x14, x15, x16, x17, x18, x19, x20, x21, x22, x23, x24, x25, x26, x27, x28, x29, x30, x31, x32, x33, x34, x35, x36, x37, x38, x39, x40, x41, x42, x43, x44, x45, x46, x47, x48, t49, t50, t51]) W tb rb cT k fun j => D j ∨ j = 2) (o := { dst := some 51, op := Op.call { callee := Callee.value (Operand.func 19), args := #[Operand.tmp 50], argTypes := #[60] }, type := 3, pos := "exact.go:101", after := #[{ on := 1, ground := Ground.data }], guard := none }) rfl 19 #[.tmp 50] _ rfl Tryz.f19 Tryz.func19 (by kernel_rfl) rfl #[.int .i64 k] rfl _ (num_any k w1) (fun e w' h => by
        obtain ⟨rfl, hw⟩ := h
        subst hw
        exact ⟨_, rfl, _, _, _, _, rfl, hK.kp, hK.bx, fun h => hK.f0 (or_of h (by decide)), fun _ => rfl, fun _ => rfl, fun h => hK.f3 (or_of h (by decide)), fun h => hK.f3n (fun h2 => h (Or.inl h2)), fun h => hK.f4 (or_of h (by decide))⟩)
      rw [if_pos (by simp [Region.wanted])] at hst
      exact wpOp_wp rfl rfl hst
    | 3, _ =>
      cases hi
      simp [Region.binds] at hdep
      obtain rfl := hK.f0 (by first | exact hdep | exact hdep.1 | exact hdep.2 | exact hdep.2.1)
      have hzb := hK.f3n hnd
      refine wpOp_wp rfl rfl (wp_store_row 45 (.tmp 4) (.tmp 49) rfl rb cT rfl rfl 45 zC hzb (by rw [hs]; exact info45) (by rw [hs]; rfl) ho ?_)
      refine ⟨_, _, _, _, rfl, hK.kp.trans (setRow_but _ _ _), hK.bx.but (setRow_but _ _ _) hne, fun _ => rfl, fun h => hK.f1 (or_of h (by decide)), fun h => hK.f2 (or_of h (by decide)), fun _ => setRow_box hzb, fun h => absurd (Or.inr rfl) h, fun h => hK.f4 (or_of h (by decide))⟩
    | 4, _ =>
      cases hi
      simp [Region.binds] at hdep
      obtain rfl := hK.f2 (by first | exact hdep | exact hdep.1 | exact hdep.2 | exact hdep.2.1)
      refine wpOp_wp rfl rfl ?_
      simp [Oper.wp, execOp, go_sem, Oper.upon, Act.eval, Act.put]
      exact ⟨_, _, _, _, rfl, hK.kp, hK.bx, fun h => hK.f0 (or_of h (by decide)), fun h => hK.f1 (or_of h (by decide)), fun _ => rfl, fun h => hK.f3 (or_of h (by decide)), fun h => hK.f3n (fun h2 => h (Or.inl h2)), fun _ => rfl⟩
  · rintro D c w1 ⟨t5, t49, t50, t51, rfl, hK⟩ hall
    obtain rfl := hK.f0 (hall 0 (by decide))
    obtain rfl := hK.f1 (hall 1 (by decide))
    obtain rfl := hK.f2 (hall 2 (by decide))
    obtain rfl := hK.f4 (hall 4 (by decide))
    exact hQ w1 (hK.f3 (hall 3 (by decide))) hK.kp
end Go.Proofs.YtfonicphdejdlaaGreat
