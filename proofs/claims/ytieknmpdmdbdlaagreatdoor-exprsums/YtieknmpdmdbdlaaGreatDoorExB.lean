import Derived.Test.YtieknmpdmdbdlaaGreatDoorExA
namespace Go.Proofs.YtieknmpdmdbdlaaGreatDoor
open Go.RowKit
set_option maxRecDepth 8000

theorem cell_lt {w : World} {a : Addr} {v : Value} (h : w.cell? a = some v) : a.block < w.heap.size := by
  rcases Nat.lt_or_ge a.block w.heap.size with h1 | h1
  · exact h1
  · simp [World.cell?, Array.getElem?_eq_none h1] at h
/-- a cell stays where new blocks are laid -/
theorem cell_al {w : World} {a : Addr} {v : Value} (h : w.cell? a = some v) (o : Obj) : (w.alloc o).cell? a = some v :=
  (((Below.refl w.heap.size w).alloc (Nat.le_refl _) o).cell (cell_lt h)).trans h
theorem cell_al2 {w : World} {a : Addr} {v : Value} (h : w.cell? a = some v) (o o' : Obj) : ((w.alloc o).alloc o').cell? a = some v := cell_al (cell_al h o) o'
theorem cell_al3 {w : World} {a : Addr} {v : Value} (h : w.cell? a = some v) (o o' o'' : Obj) : (((w.alloc o).alloc o').alloc o'').cell? a = some v := cell_al (cell_al2 h o o') o''
theorem cell_on {w w' : World} {a : Addr} {v : Value} (h : w.cell? a = some v) (hb : Below w.heap.size w w') : w'.cell? a = some v := (hb.cell (cell_lt h)).trans h
def intV (n : Int) : Value := .agg #[.int .i64 1, .int .i64 n, .string ⟨#[]⟩, .slice none 0 0]
def noneV : Value := .agg #[.int .i64 0, .int .i64 0, .string ⟨#[]⟩, .slice none 0 0]

theorem intOf_any (n : Int) (w : World) : Calls Tryz.prog 37 #[.int .i64 n] w fun e w' => w' = w.alloc (.cells #[.int .i64 1, .int .i64 n, .string ⟨#[]⟩, .slice none 0 0] 24) ∧ e = .returned (intV n) := by
  go_enter Tryz.func37, Tryz.ntmps37
  go_wp2
  exact bodyPost_ret (v := intV n) (by simp [results, Tryz.results37, go_sem, intV]) rfl ⟨rfl, rfl⟩

/-- what ofInts hands back, kept in block p -/
def ofI (p : Nat) : Value := .func (.func 130) #[] #[.pointer (some ⟨p, 0, none⟩)]
def fnV (k : Nat) : Value := .func (.func k) #[] #[]

theorem ofInts_any (k : Nat) (w : World) : Calls Tryz.prog 106 #[fnV k] w fun e w' => Below w.heap.size w w' ∧ e = .returned (ofI w.heap.size) ∧ w'.cell? ⟨w.heap.size, 0, none⟩ = some (fnV k) ∧ w.heap.size < w'.heap.size := by
  have hmf : ∀ (fn : Fn) (first cap : Array Value) (w : World), (Instr.makeFunc fn first cap).run Tryz.prog w = .ok (.func fn first cap) w := fun _ _ _ _ => rfl
  unfold fnV ofI
  go_enter Tryz.func106, Tryz.ntmps106
  go_wp2
  go_ret
  exact ⟨(Below.refl _ _).alloc (Nat.le_refl _) _, rfl, by simp, by simp⟩

/-- function k has a body that is entered -/
def Enters (k : Nat) : Prop := ∀ (args : Array Value) (w : World), (callFunc k args).run Tryz.prog w = .ok (.enter k args) w
/-- what a sign for two ints comes to -/
def resV (n : Int) (ok : Bool) : Value := if ok then intV n else noneV

theorem ofIntsC_any (a b : Int) (p : Nat) (k : Nat) (w : World) (n : Int) (ok : Bool) (hp : w.cell? ⟨p, 0, none⟩ = some (fnV k)) (hk : Enters k)
    (HR : ∀ w1, Calls Tryz.prog k #[.int .i64 a, .int .i64 b] w1 fun e w' => w' = w1 ∧ e = pairO n ok) :
    Calls Tryz.prog 130 #[intV a, intV b, .pointer (some ⟨p, 0, none⟩)] w fun e w' => Below w.heap.size w w' ∧ e = .returned (resV n ok) := by
  have hp3 := cell_al3 hp
  have HH := hid HR
  clear HR
  unfold Enters at hk
  unfold intV fnV at *
  cases ok
  · go_enter Tryz.func130, Tryz.ntmps130
    go_wp2_with fail
    refine (HH.out _).mono ?_
    rintro e w1 ⟨rfl, rfl⟩
    unfold pairO
    go_wp2
    exact bodyPost_ret (v := noneV) (by simp [results, Tryz.results130, go_sem, noneV]) rfl ⟨(((Below.refl _ _).alloc (Nat.le_refl _) _).alloc (by simp) _).alloc (by simp; omega) _, rfl⟩
  · have HI := hid (intOf_any n)
    go_enter Tryz.func130, Tryz.ntmps130
    go_wp2_with fail
    refine (HH.out _).mono ?_
    rintro e w1 ⟨rfl, rfl⟩
    unfold pairO
    go_wp2_with fail
    refine (HI.out _).mono ?_
    rintro e w1 ⟨rfl, rfl⟩
    unfold intV
    go_wp2
    exact bodyPost_ret (v := intV n) (by simp [results, Tryz.results130, go_sem, intV]) rfl ⟨((((Below.refl _ _).alloc (Nat.le_refl _) _).alloc (by simp) _).alloc (by simp; omega) _).alloc (by simp; omega) _, rfl⟩
end Go.Proofs.YtieknmpdmdbdlaaGreatDoor
