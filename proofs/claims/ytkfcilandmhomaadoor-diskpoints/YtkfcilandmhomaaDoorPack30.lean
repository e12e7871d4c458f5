import Derived.Test.YtkfcilandmhomaaDoorPack29
namespace Go.Proofs.YtkfcilandmhomaaDoor
open Go.RowKit
set_option maxRecDepth 8000
def RF.ro (f : RF) : RO := ⟨f.name, f.sp, f.su.length, f.sc, fun j => f.su.getD j 0, f.lp, f.lo.length, f.lc, fun j => f.lo.getD j 0⟩
def insF (f : RF) : List RF → List RF
  | [] => [f]
  | a :: l => if lessN f.name a.name = true then f :: a :: l else a :: insF f l
theorem insF_ro (f : RF) : ∀ l : List RF, (insF f l).map RF.ro = insR f.ro (l.map RF.ro)
  | [] => rfl
  | a :: l => by
    have h : lessN f.ro.name a.ro.name = lessN f.name a.name := rfl
    simp only [insF, List.map_cons, insR, h]
    split
    · rfl
    · rw [List.map_cons, insF_ro f l]
theorem insF_key (f : RF) : ∀ l : List RF, (insF f l).map RF.key = insK f.key (l.map RF.key)
  | [] => rfl
  | a :: l => by
    have h : lessN f.key.1 a.key.1 = lessN f.name a.name := rfl
    simp only [insF, List.map_cons, insK, h]
    split
    · rfl
    · rw [List.map_cons, insF_key f l]
theorem insF_perm (f : RF) : ∀ l : List RF, (insF f l).Perm (f :: l)
  | [] => List.Perm.refl _
  | a :: l => by
    simp only [insF]
    split
    · exact List.Perm.refl _
    · exact ((insF_perm f l).cons a).trans (List.Perm.swap _ _ _)
def z0R : RO := ⟨⟨#[]⟩, none, 0, 0, fun _ => 0, none, 0, 0, fun _ => 0⟩
/-- the list as the older texts have it -/
def RK.lt (R : RK) : LT RO := lOf R.p R.c z0R (R.fs.map RF.ro)
theorem RK.lt_lst (R : RK) : R.lt.lst R.lt.n = R.fs.map RF.ro := lOf_lst R.p R.c z0R (R.fs.map RF.ro)
theorem RK.lt_n (R : RK) : R.lt.n = R.fs.length := by simp [RK.lt, lOf]
end Go.Proofs.YtkfcilandmhomaaDoor

namespace Go.Proofs.YtkfcilandmhomaaDoor
open Go.RowKit
set_option maxRecDepth 8000
theorem But.cc {C : Nat → Prop} {w w1 w2 : World} (hb : But C w w1) (h3 : But (fun k => C k ∨ w.heap.size ≤ k) w1 w2) : But C w w2 :=
  ⟨h3.os.trans hb.os, h3.tape.trans hb.tape, h3.output.trans hb.output, Nat.le_trans hb.size h3.size, fun k hk hx => (h3.block k (Nat.lt_of_lt_of_le hk hb.size) fun e => e.elim hx fun h => by omega).trans (hb.block k hk hx)⟩
theorem updK_ins (s : ByteArray) (a : List Int × Int) (b : Key) (ks : List Key) (h : ∀ k ∈ ks, k.1 ≠ s) (hb : b.1 = s := by rfl) : updK s b (insK (s, a.1, a.2) ks) = insK b ks := by
  induction ks with
  | nil => simp [insK, updK]
  | cons x l ih =>
    have hx : x.1 ≠ s := h x (by simp)
    have hl : ∀ k ∈ l, k.1 ≠ s := fun k hk => h k (List.mem_cons_of_mem _ hk)
    have hm : l.map (fun k => if k.1 = s then b else k) = l := by
      conv => rhs; rw [← List.map_id l]
      exact List.map_congr_left fun k hk => by simp [hl k hk]
    have ih' := ih hl
    unfold updK at ih' ⊢
    simp only [insK]
    have e : lessN (s, a.1, a.2).1 x.1 = lessN b.1 x.1 := by rw [hb]
    rw [e]
    split
    · simp [hx, hm]
    · simp [hx]
      exact ih'
def apE (R : RK) (n : Nat) : Int := if pyB R ((n : Int) + 1) = true then 0 else 100
def apR (R : RK) (n : Nat) : RK := if pyB R ((n : Int) + 1) = true then pyR R ((n : Int) + 1) else R.fallen
def apN (R : RK) (n : Nat) : Nat := if pyB R ((n : Int) + 1) = true then n else R.left.toNat
end Go.Proofs.YtkfcilandmhomaaDoor
