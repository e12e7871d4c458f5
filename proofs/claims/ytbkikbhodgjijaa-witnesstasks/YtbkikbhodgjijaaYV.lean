import Derived.Test.YtbkikbhodgjijaaYU
namespace Go.Proofs.Ytbkikbhodgjijaa
open Go.RowKit
set_option maxRecDepth 8000
theorem LT.In.src {α : Type} {E : El α} {w : World} {S : Nat → Prop} {l : LT α} (h : LT.In E w S l) : Src w l.p l.n l.c E.size ((List.range l.n).flatMap fun j => E.cells (l.item j)) := by
  cases hp : l.p with
  | none =>
    obtain ⟨h1, h2⟩ := h.nil hp
    rw [h1, h2]
    exact .inl ⟨rfl, rfl, rfl, rfl⟩
  | some ad =>
    refine .inr ⟨ad, rfl, range_flat_len E l.item l.n, fun j u hu => ?_⟩
    have hj : j < l.n * E.size := by
      rcases Nat.lt_or_ge j (l.n * E.size) with h1 | h1
      · exact h1
      · rw [List.getElem?_eq_none (by rw [range_flat_len]; exact h1)] at hu; cases hu
    have hs : 0 < E.size := by
      rcases Nat.eq_zero_or_pos E.size with h1 | h1
      · rw [h1] at hj; omega
      · exact h1
    have hq : j / E.size < l.n := Nat.div_lt_of_lt_mul (by rw [Nat.mul_comm]; exact hj)
    have hr : j % E.size < E.size := Nat.mod_lt _ hs
    have e : j / E.size * E.size + j % E.size = j := by rw [Nat.mul_comm]; exact Nat.div_add_mod j E.size
    obtain ⟨b, o, e1, _, _, ha⟩ := h.at_ (Nat.lt_of_le_of_lt (Nat.zero_le _) hq)
    rw [hp] at e1
    cases e1
    rw [← e, range_flat_get E l.item l.n _ _ hq hr] at hu
    have := ha _ hq _ u hu
    rw [Nat.add_assoc, e] at this
    rw [Go.WideShapes.add_plain]
    exact this
theorem oneTr (l : LT TR) : ∀ u ∈ ((List.range l.n).flatMap fun j => elTr.cells (l.item j)), u.oneCell' = true := by
  intro u hu
  obtain ⟨j, _, hj⟩ := List.mem_flatMap.1 hu
  exact elTr.one _ u hj
/-- a row that was appended to nothing, as a list -/
theorem copied_in {base : Nat} {w : World} {v : Value} {l : LT TR} (hl : l.n ≤ 140737488355328) (h : w.ownsRow base 37 4 v l.n ((List.range l.n).flatMap fun j => elTr.cells (l.item j))) : ∃ p c, v = .slice p l.n c ∧ LT.In elTr w (fun b => base ≤ b) ⟨p, l.n, c, l.item⟩ := by
  exact OwnL.in_ (E := elTr) ⟨h, fun _ _ => trivial⟩ hl
theorem SplitS.len {l : LT TR} {n i e : Int} {xs ys : List EV} (h : SplitS l n i e xs ys) : xs.length ≤ l.n ∧ ys.length ≤ l.n := by
  rcases h with ⟨_, _, rfl, rfl⟩ | ⟨_, _, _, rfl, rfl⟩ | ⟨_, _, _, _, _, _, rfl, rfl⟩ | ⟨_, a, b, m, h, _, _, rfl, rfl⟩
  · exact ⟨Nat.zero_le _, Nat.zero_le _⟩
  · exact ⟨Nat.zero_le _, Nat.zero_le _⟩
  · exact ⟨Nat.zero_le _, Nat.zero_le _⟩
  · have := h.bn
    have h1 := evsF_len l.item (befP l.item m true) a (b - a)
    have h2 := evsF_len l.item (befP l.item m false) a (b - a)
    exact ⟨by omega, by omega⟩
set_option maxHeartbeats 8000000 in
theorem witnessSplit_walk (l : LT TR) (i n : Int) (w : World) (hl : LT.In elTr w (fun b => b < w.heap.size) l) (h47 : l.n * 32 ≤ 140737488355328) :
    Calls Try.prog 6 #[.slice l.p l.n l.c, .int .i64 i, .int .i64 n] w fun e w' => e = .returned (.bool true) ∧ Below w.heap.size w w' := by
  have hnn := hl.nn
  obtain ⟨i0, Kd⟩ := kindTr
  have HKd := hid Kd
  have HSrc := hid hl.src
  have HL := hid hl
  have H47 := hid h47
  clear hl Kd h47
  have hb47 : (0 + l.n) * 32 ≤ 140737488355328 := by have := H47.out; omega
  go_enter Try.func6, Try.ntmps6
  go_wp2_with (at_builtin; refine wpList_appS rfl (.const (.slice none 0 0)) (.tmp 14) 22 37 i0 _ 4 32 HKd.out rfl w.heap.size (.slice none 0 0) 0 [] rfl (World.ownsRow_nil _ _ _ _) l.p l.n l.c _ rfl HSrc.out (oneTr l) (by omega) hb47 (Nat.le_refl _) ?_)
  intro v1 w1 ho1 hg1 _
  obtain ⟨p1, c1, rfl, hin1⟩ := copied_in hnn ho1
  have hb1 : Below w.heap.size w w1 := (Below.refl _ _).grown hg1 (Nat.le_refl _) (fun k hk => by cases hk)
  have HSp := hid (split_any ⟨p1, l.n, c1, l.item⟩ i n w1 _ hin1 H47.out)
  dsimp only at HSp
  have HB1 := hid hb1
  clear ho1 hg1 hb1 hin1
  go_wp2_with fail
  refine HSp.out.mono ?_
  rintro e w2 ⟨v1, v2, err, xs, ys, hS, rfl, hr1, hr2, _, hb2⟩
  have hb02 : Below w.heap.size w w2 := HB1.out.trans (hb2.mono HB1.out.size)
  have HRs := hid (rsplit_any l i n w2 _ (HL.out.below hb02) H47.out)
  have HB02 := hid hb02
  have HR1 := hid hr1
  have HR2 := hid hr2
  have HS := hid hS
  clear hb2 hb02 hr1 hr2 hS HSp
  go_wp2_with fail
  refine HRs.out.mono ?_
  rintro e w3 ⟨u1, u2, err', xs', ys', hS', rfl, hq1, hq2, hb3⟩
  obtain ⟨rfl, rfl, rfl⟩ := SplitS.uniq HS.out hS'
  obtain ⟨hx1, hy1⟩ := hS'.len
  have hb03 : Below w.heap.size w w3 := HB02.out.trans (hb3.mono HB02.out.size)
  have HC1 := hid (sameRows v1 u1 xs w3 _ _ (HR1.out.below hb3) hq1 (by omega))
  have HC2 := fun (w4 : World) (h4 : Below w3.heap.size w3 w4) => hid (sameRows v2 u2 ys w4 _ _ ((HR2.out.below hb3).below h4) (hq2.below h4) (by omega))
  have HB03 := hid hb03
  have herr : (err == err) = true := by simp
  clear hS' hq1 hq2 hb3 hb03 hx1 hy1 HRs
  go_wp2_with fail
  refine HC1.out.mono ?_
  rintro e w4 ⟨rfl, hb4⟩
  have HC2' := HC2 w4 hb4
  have HB04 : Hid (Below w.heap.size w w4) := HB03.out.trans (hb4.mono HB03.out.size)
  clear hb4 HC1 HC2
  go_wp2_with fail
  refine HC2'.out.mono ?_
  rintro e w5 ⟨rfl, hb5⟩
  have HB05 : Hid (Below w.heap.size w w5) := HB04.out.trans (hb5.mono HB04.out.size)
  clear hb5 HC2'
  go_wp2
  go_ret
  exact ⟨rfl, HB05.out⟩
end Go.Proofs.Ytbkikbhodgjijaa
