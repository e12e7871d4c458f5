import Derived.Test.YtjkfihngkfphfaaDoorDkX
import Derived.Shelf.SlSortCmp.NoneTotal
namespace Go.Proofs.YtjkfihngkfphfaaDoor
open Go.RowKit
set_option maxRecDepth 8000
theorem sort0_any (p : Option Addr) (c : Nat) (fv : Value) (w : World) : Calls Tryd.prog 30 #[.slice p 0 c, fv] w fun e w' => e = .returned (.tuple #[]) ∧ w' = w := by
  have h := AnyF.slices_SortFunc_none Tryd.sortL p c fv w
  change Calls Tryd.prog 30 _ _ _ at h
  exact h
theorem collect_any (w : World) (bm b : Nat) (E : List (ByteArray × Value)) (hbx : Box w bm #[.map (some b)] 52) (hm : MpI w b E) (hle : E.length ≤ 1000) :
    Calls Tryd.prog 29 #[.func (.func 31) #[] #[.pointer (some ⟨bm, 0, none⟩)]] w fun e w' => ∃ (p : Option Addr) (c : Nat) (XS : List ByteArray), e = .returned (.slice p XS.length c) ∧ XS.Perm (E.map (·.1)) ∧ w'.ownsRow w.heap.size 50 12 (.slice p XS.length c) XS.length (XS.flatMap labC) ∧ Below w.heap.size w w' := by
  have HC := hid (appseq_any w bm b E hbx hm hle)
  clear hbx hm
  go_enter Tryd.func29, Tryd.ntmps29
  go_wp2_with fail
  refine HC.out.mono ?_
  rintro e w' ⟨p, c, XS, rfl, h1, h2, h3⟩
  go_wp2
  exact bodyPost_ret (v := .slice p XS.length c) (by simp [results, Tryd.results29, go_sem]) rfl ⟨p, c, XS, rfl, h1, h2, h3⟩
set_option maxHeartbeats 1000000 in
theorem sorted_any (w : World) (bm b : Nat) (E : List (ByteArray × Value)) (hbx : Box w bm #[.map (some b)] 52) (hm : MpI w b E) (hle : E.length ≤ 1000) :
    Calls Tryd.prog 24 #[.func (.func 31) #[] #[.pointer (some ⟨bm, 0, none⟩)], .func (.func 26) #[] #[]] w fun e w' => ∃ (p : Option Addr) (c : Nat) (YS : List ByteArray), e = .returned (.slice p YS.length c) ∧ YS.Perm (E.map (·.1)) ∧ YS.Pairwise (fun a b => ¬ cmpN b a < 0) ∧ w'.ownsRow w.heap.size 50 12 (.slice p YS.length c) YS.length (YS.flatMap labC) ∧ Below w.heap.size w w' := by
  have HC := hid (collect_any w bm b E hbx hm hle)
  clear hbx hm
  go_enter Tryd.func24, Tryd.ntmps24
  go_wp2_with fail
  refine HC.out.mono ?_
  rintro e w1 ⟨p, c, XS, rfl, h1, h2, h3⟩
  have HP := hid (And.intro h1 (And.intro h2 h3))
  have HLn : Hid (XS.length = E.length) := by show XS.length = E.length; have := h1.length_eq; simpa using this
  clear h1 h2 h3 HC
  by_cases h0 : XS.length = 0
  · have HX : Hid (XS = []) := List.eq_nil_of_length_eq_zero h0
    rw [h0]
    go_wp2_with fail
    refine (sort0_any p c (.func (.func 26) #[] #[]) w1).mono ?_
    rintro e w2 ⟨rfl, rfl⟩
    go_wp2
    exact bodyPost_ret (v := .slice p 0 c) (by simp [results, Tryd.results24, go_sem]) rfl ⟨p, c, XS, by rw [h0], HP.out.1, by rw [HX.out]; exact List.Pairwise.nil, HP.out.2.1, HP.out.2.2⟩
  · obtain ⟨g, hg⟩ : ∃ g, p = some ⟨g, 0, none⟩ := by
      obtain ⟨_, ⟨hv, hz⟩ | ⟨g, cap, cur, hv, _⟩⟩ := HP.out.2.1
      · exact absurd hz h0
      · simp only [Value.slice.injEq] at hv
        exact ⟨g, hv.1⟩
    subst hg
    have HS := hid (sortF_any w.heap.size g c XS w1 (by omega) (by have := HLn.out; omega) HP.out.2.1)
    have hge : w.heap.size ≤ g := (HP.out.2.1.lt g rfl).1
    go_wp2_with fail
    refine HS.out.mono ?_
    rintro e w2 ⟨rfl, YS, q1, q2, q3, q4⟩
    have hly : YS.length = XS.length := q1.length_eq
    go_wp2
    refine bodyPost_ret (v := .slice (some ⟨g, 0, none⟩) XS.length c) (by simp [results, Tryd.results24, go_sem]) rfl ⟨_, c, YS, by rw [hly], q1.trans HP.out.1, q2, by rw [hly]; exact q3, HP.out.2.2.trans (q4.below HP.out.2.2.size fun k hk e => by omega)⟩
/-- the labels of all files, in their order -/
theorem order_any (w : World) (db mb : Nat) (E : List (ByteArray × Value)) (hd : w.cell? ⟨db, 0, none⟩ = some (.map (some mb))) (hm : MpI w mb E) (hle : E.length ≤ 1000) :
    Calls Tryd.prog 14 #[.pointer (some ⟨db, 0, none⟩)] w fun e w' => ∃ (p : Option Addr) (c : Nat) (YS : List ByteArray), e = .returned (.slice p YS.length c) ∧ YS.Perm (E.map (·.1)) ∧ YS.Pairwise (fun a b => ¬ cmpN b a < 0) ∧ w'.ownsRow w.heap.size 50 12 (.slice p YS.length c) YS.length (YS.flatMap labC) ∧ Below w.heap.size w w' := by
  obtain ⟨V, hV⟩ : ∃ V, V = w.alloc (.cells #[.map (some mb)] 52) := ⟨_, rfl⟩
  have hB : Below w.heap.size w V := by rw [hV]; exact (Below.refl _ _).alloc (Nat.le_refl _) _
  have hbx : Box V w.heap.size #[.map (some mb)] 52 := by rw [hV]; exact Box.new _ _ _
  have HS := hid (sorted_any V w.heap.size mb E hbx (hm.kept (hB.block mb hm.lt)) hle)
  have HV := hid hV
  have HB := hid hB
  clear hV hB hbx hm
  go_enter Tryd.func14, Tryd.ntmps14
  go_wp2_with fail
  refine (mkeys_any mb w).mono ?_
  rintro e w1 ⟨rfl, hw1⟩
  rw [← HV.out] at hw1
  subst hw1
  go_wp2_with fail
  refine HS.out.mono ?_
  rintro e w2 ⟨p, c, YS, rfl, h1, h2, h3, h4⟩
  go_wp2
  exact bodyPost_ret (v := .slice p YS.length c) (by simp [results, Tryd.results14, go_sem]) rfl ⟨p, c, YS, rfl, h1, h2, own_low h3 HB.out.size, HB.out.trans (h4.mono HB.out.size)⟩
end Go.Proofs.YtjkfihngkfphfaaDoor
