import Derived.Test.YtbkikbhodgjijaaYJ
import Derived.Test.YtbkikbhodgjijaaYF
namespace Go.Proofs.Ytbkikbhodgjijaa
open Go.RowKit
set_option maxRecDepth 8000
/-- ahead of its task's copy, or behind it -/
def befP (f : Nat → TR) (m : Nat → Nat) (first : Bool) (q : Nat) : Bool := decide (q < m (f q).task.toNat) == first
/-- what Split answers: the error, the events before, the events after -/
def SplitS (l : LT TR) (n i : Int) (err : Int) (xs ys : List EV) : Prop :=
  (¬ CanL n l ∧ err = 181 ∧ xs = [] ∧ ys = []) ∨ (CanL n l ∧ NoLife l.item l.n i ∧ err = 180 ∧ xs = [] ∧ ys = []) ∨
  (CanL n l ∧ ∃ a b, LifeAt l.item l.n i a b ∧ ¬ AllCp l.item a b i n.toNat ∧ err = 181 ∧ xs = [] ∧ ys = []) ∨
  (CanL n l ∧ ∃ a b m, LifeAt l.item l.n i a b ∧ (∀ k : Nat, k < n.toNat → OneCp l.item a b i (k : Int) (m k)) ∧ err = 0 ∧ xs = evsF l.item (befP l.item m true) a (b - a) ∧ ys = evsF l.item (befP l.item m false) a (b - a))
theorem evs_same {f : Nat → TR} {n i : Int} {a b N : Nat} {m m' : Nat → Nat} {first : Bool} (hc : ∀ q, q < N → Can n (f q)) (hb : b ≤ N) (h : ∀ k : Nat, k < n.toNat → OneCp f a b i (k : Int) (m k)) (g : ∀ k : Nat, k < n.toNat → OneCp f a b i (k : Int) (m' k)) : evsF f (befP f m first) a (b - a) = evsF f (befP f m' first) a (b - a) := by
  refine evsF_congr fun q h1 h2 h3 => ?_
  have hq := hc q (by omega)
  have hk : (f q).task.toNat < n.toNat := by have := hq.1; have := hq.2.1; omega
  unfold befP
  rw [(h _ hk).uniq (g _ hk)]
theorem SplitS.uniq {l : LT TR} {n i e e' : Int} {xs ys xs' ys' : List EV} (h : SplitS l n i e xs ys) (g : SplitS l n i e' xs' ys') : e = e' ∧ xs = xs' ∧ ys = ys' := by
  have key : ∀ {a b a' b' : Nat} {m : Nat → Nat}, LifeAt l.item l.n i a b → LifeAt l.item l.n i a' b' → ¬ AllCp l.item a b i n.toNat → (∀ k : Nat, k < n.toNat → OneCp l.item a' b' i (k : Int) (m k)) → False := by
    intro a b a' b' m h1 h2 h3 h4
    obtain ⟨rfl, rfl⟩ := h1.uniq h2
    exact h3 fun k hk => ⟨m k, h4 k hk⟩
  rcases h with ⟨c, rfl, rfl, rfl⟩ | ⟨c, d, rfl, rfl, rfl⟩ | ⟨c, a, b, d, o, rfl, rfl, rfl⟩ | ⟨c, a, b, m, d, o, rfl, rfl, rfl⟩ <;>
    rcases g with ⟨c', rfl, rfl, rfl⟩ | ⟨c', d', rfl, rfl, rfl⟩ | ⟨c', a', b', d', o', rfl, rfl, rfl⟩ | ⟨c', a', b', m', d', o', rfl, rfl, rfl⟩ <;>
    first
    | exact ⟨rfl, rfl, rfl⟩
    | exact (c c').elim
    | exact (c' c).elim
    | exact (d'.not d).elim
    | exact (d.not d').elim
    | exact (key d d' o o').elim
    | exact (key d' d o' o).elim
    | (obtain ⟨rfl, rfl⟩ := d.uniq d'
       exact ⟨rfl, evs_same c.2.2 (by have := d.bn; omega) o o', evs_same c.2.2 (by have := d.bn; omega) o o'⟩)
/-- what a Split answers, in memory: two rows in memory of their own -/
def SplitQ (l : LT TR) (n i : Int) (w : World) (e : Ending) (w' : World) : Prop := ∃ (v1 v2 : Value) (err : Int) (xs ys : List EV), SplitS l n i err xs ys ∧ e = .returned (.tuple #[v1, v2, .int .i64 err]) ∧ EvRow w.heap.size w' v1 xs ∧ EvRow w.heap.size w' v2 ys ∧ Below w.heap.size w w'
set_option maxHeartbeats 8000000 in
theorem rsplit_any (l : LT TR) (i n : Int) (w : World) (S : Nat → Prop) (hl : LT.In elTr w S l) (h47 : l.n * 32 ≤ 140737488355328) :
    Calls Try.prog 19 #[.slice l.p l.n l.c, .int .i64 i, .int .i64 n] w fun e w' => SplitQ l n i w e w' := by
  have hnn := hl.nn
  have H := hid hl
  have H47 := hid h47
  have HCan := hid (rcan_any l n w S hl)
  clear hl h47
  go_enter Try.func19, Try.ntmps19
  go_wp2_with fail
  refine HCan.out.mono ?_
  rintro e w1 ⟨r, rfl, hr, hb1⟩
  have HB1 := hid hb1
  have H1 := hid (H.out.below hb1)
  clear hb1 HCan
  cases r with
  | false =>
    have HC : Hid (¬ CanL n l) := fun h => by have := hr.2 h; cases this
    clear hr
    go_wp2
    exact bodyPost_ret (v := .tuple #[.slice none 0 0, .slice none 0 0, .int .i64 181]) (by simp [results, Try.results19, go_sem]) rfl ⟨_, _, 181, [], [], .inl ⟨HC.out, rfl, rfl, rfl⟩, rfl, EvRow.nil _ _, EvRow.nil _ _, HB1.out⟩
  | true =>
    have HC : Hid (CanL n l) := hr.1 rfl
    clear hr
    obtain ⟨T, hT⟩ : ∃ T : Nat, n = (T : Int) := ⟨n.toNat, by have := HC.out.1; omega⟩
    have HT := hid hT
    have hT1 : 1 ≤ T := by have := HC.out.1; omega
    have hT12 : T ≤ 12 := by have := HC.out.2.1; omega
    rw [hT]
    rw [hT] at HC
    clear hT
    have HL := hid (rlifeOf_any l l.n i w1 S H1.out (Nat.le_refl _))
    go_wp2_with fail
    refine HL.out.mono ?_
    rintro e w2 ⟨hq, rfl⟩
    clear HL
    rcases hq with ⟨hno, rfl⟩ | ⟨a, b, hlf, rfl⟩
    · have HNo := hid hno
      clear hno
      go_wp2
      exact bodyPost_ret (v := .tuple #[.slice none 0 0, .slice none 0 0, .int .i64 180]) (by simp [results, Try.results19, go_sem]) rfl ⟨_, _, 180, [], [], .inr (.inl ⟨by rw [HT.out]; exact HC.out, HNo.out, rfl, rfl, rfl⟩), rfl, EvRow.nil _ _, EvRow.nil _ _, HB1.out⟩
    · have hab := hlf.ab
      have hbn := hlf.bn
      have ha0 : ¬ (a : Int) < 0 := by omega
      have HLf := hid hlf
      have HCp := hid (copies_any l a b i T w2 S H1.out hab (by omega) hT12)
      clear hlf
      go_wp2_with fail
      refine HCp.out.mono ?_
      rintro e w3 ⟨hb3, hq⟩
      have HB3 := hid hb3
      have H3 := hid (H1.out.below hb3)
      clear hb3 HCp
      rcases hq with ⟨m, v, rfl, hrow, hone⟩ | ⟨hno, rfl⟩
      · have HOne := hid hone
        obtain ⟨g, c, rfl, hg1, hg2, _, hgc⟩ := hrow.at_ (by simp; omega)
        have hlen : ((List.range T).map fun k => (m k : Int)).length = T := by simp
        rw [hlen]
        have hcell : ∀ t, t < T → w3.cell? ⟨g, t, none⟩ = some (.int .i64 (m t : Int)) := fun t ht => (hgc t _ (by simp [ht])).1
        have hk1 : ∀ q, a ≤ q → q < b → (l.item q).kind = 1 → 0 ≤ (l.item q).task ∧ (l.item q).task < (T : Int) := fun q _ h2 _ => by
          have := HC.out.2.2 q (by omega)
          exact ⟨this.1, this.2.1⟩
        have hm : ∀ t, t < T → m t ≤ l.n := fun t ht => by have := (hone t ht).2.1; omega
        have HS1 := hid (sides_any l a b T g c m true w3 S H3.out H47.out hab (by omega) hT12 hg2 hcell hm hk1)
        have HS2 := fun (w4 : World) (h4 : Below w3.heap.size w3 w4) => hid (sides_any l a b T g c m false w4 S (H3.out.below h4) H47.out hab (by omega) hT12 (Nat.lt_of_lt_of_le hg2 h4.size) (fun t ht => (World.cell?_of_block (a := ⟨g, t, none⟩) (h4.block g hg2)).trans (hcell t ht)) hm hk1)
        clear hone hrow hgc hlen hcell hk1 hm
        go_wp2_with fail
        refine HS1.out.mono ?_
        rintro e w4 ⟨v1, rfl, hr1, hb4⟩
        have HS2' := HS2 w4 hb4
        have HR1 := hid hr1
        have HB4 := hid hb4
        clear hr1 hb4 HS2 HS1
        go_wp2_with fail
        refine HS2'.out.mono ?_
        rintro e w5 ⟨v2, rfl, hr2, hb5⟩
        have HR2 := hid hr2
        have HB5 := hid hb5
        clear hr2 hb5 HS2'
        go_wp2
        have e1 : n.toNat = T := by have := HT.out; omega
        have s3 : w.heap.size ≤ w3.heap.size := Nat.le_trans HB1.out.size HB3.out.size
        have s4 : w.heap.size ≤ w4.heap.size := Nat.le_trans s3 HB4.out.size
        refine bodyPost_ret (v := .tuple #[v1, v2, .int .i64 0]) (by simp [results, Try.results19, go_sem]) rfl ⟨v1, v2, 0, _, _, .inr (.inr (.inr ⟨?_, a, b, m, HLf.out, ?_, rfl, rfl, rfl⟩)), rfl, ?_, ?_, ?_⟩
        · rw [HT.out]; exact HC.out
        · rw [e1]; exact HOne.out
        · exact (HR1.out.below HB5.out).mono s3
        · exact HR2.out.mono s4
        · exact ((HB1.out.trans (HB3.out.mono HB1.out.size)).trans (HB4.out.mono s3)).trans (HB5.out.mono s4)
      · have HNo := hid hno
        clear hno
        go_wp2
        have e1 : n.toNat = T := by have := HT.out; omega
        refine bodyPost_ret (v := .tuple #[.slice none 0 0, .slice none 0 0, .int .i64 181]) (by simp [results, Try.results19, go_sem]) rfl ⟨_, _, 181, [], [], .inr (.inr (.inl ⟨?_, a, b, HLf.out, ?_, rfl, rfl, rfl⟩)), rfl, EvRow.nil _ _, EvRow.nil _ _, HB1.out.trans (HB3.out.mono HB1.out.size)⟩
        · rw [HT.out]; exact HC.out
        · rw [e1]; exact HNo.out
end Go.Proofs.Ytbkikbhodgjijaa
