import Derived.Test.YtkfcilandmhomaaDoorEfI
namespace Go.Proofs.YtkfcilandmhomaaDoor
open Go.RowKit
set_option maxRecDepth 8000
/-- how much of the j-th file's unsure bytes is kept -/
def kpU (K : LT Int) (j : Nat) : Int := if K.n = 0 then 0 else K.item (j % K.n)
def FT.svd (f : FT) (u : Int) : Key := (f.name, f.zs.take (f.svN u), ((f.zs.take (f.svN u)).length : Int))
theorem svd_key (f : FT) (u : Int) (p : Option Addr) (c : Nat) : ((f.cutd (f.svN u) p c).syn).key = f.svd u := rfl
theorem fnd_upd (D : DK) (s t : ByteArray) (f f' : FT) (hs : fnd D s = some f) (hn : f'.name = s) : fnd (D.upd s f') t = if t = s then some f' else fnd D t := by
  unfold fnd DK.upd
  obtain ⟨_, hfs⟩ := fnd_at hs
  unfold fnd at hs
  revert hs
  generalize D.fs = L
  intro hs
  induction L with
  | nil => cases hs
  | cons g L ih =>
    simp only [List.map_cons, List.find?_cons]
    by_cases eg : g.name = s
    · simp only [if_pos eg, hn]
      by_cases et : t = s
      · subst et; simp
      · have e1 : decide (s = t) = false := by simpa using fun e : s = t => et e.symm
        have e2 : decide (g.name = t) = false := by rw [eg]; exact e1
        rw [e1, e2, if_neg et]
        simp only
        clear ih hs
        induction L with
        | nil => rfl
        | cons h L ih =>
          simp only [List.map_cons, List.find?_cons]
          by_cases eh : h.name = s
          · rw [if_pos eh, hn, show decide (h.name = t) = false by rw [eh]; exact e1, e1]
            exact ih
          · simp only [if_neg eh]
            cases decide (h.name = t) with
            | true => rfl
            | false => exact ih
    · simp only [if_neg eg]
      have hs' : L.find? (fun f => decide (f.name = s)) = some f := by
        rw [List.find?_cons, show decide (g.name = s) = false by simpa using eg] at hs
        exact hs
      by_cases et : t = s
      · subst et
        rw [show decide (g.name = t) = false by simpa using eg, if_pos rfl]
        have := ih hs'
        rw [if_pos rfl] at this
        exact this
      · rw [if_neg et]
        cases decide (g.name = t) with
        | true => rfl
        | false =>
          have := ih hs'
          rw [if_neg et] at this
          exact this
end Go.Proofs.YtkfcilandmhomaaDoor
