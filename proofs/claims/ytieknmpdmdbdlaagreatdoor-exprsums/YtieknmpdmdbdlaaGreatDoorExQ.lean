import Derived.Test.YtieknmpdmdbdlaaGreatDoorExP
import Derived.Defers
import Derived.Recover
namespace Go.Proofs.YtieknmpdmdbdlaaGreatDoor
open Go.RowKit
set_option maxRecDepth 8000

theorem catch_idle (p0 p1 : Addr) (w : World) :
    CallsD Tryz.prog 12 #[.pointer (some p0), .pointer (some p1)] .returning w fun x u' w' => x = .returned (.tuple #[]) ∧ u' = .returning ∧ w' = w := by
  refine callsD_of_wpS Tryz.func12 rfl fun c₀ cs hu => ?_
  apply wpS_seq
  apply wpS_region
  simp [wpOpsS, go_sem, recoverD, hu, Tryz.ntmps12, Exit.thenS]
  simp only [Array.replicate, List.replicate]
  refine wpS_of_wp ?_
  go_wp2_with fail
  cases c₀
  simp_all [bodyPostS, results, Tryz.results12]

theorem parse_start (w : World) (s : ByteArray) : At (((w.alloc (.cells #[.nilIface] 39)).alloc (.cells #[.nilIface] 32)).alloc (.cells #[.string s, .int .i64 0, .int .i64 0, .int .i64 0, .string ⟨#[]⟩, .int .i64 0, .int .i64 0, .string ⟨#[]⟩, .slice none 0 0, .int .i64 0] 55)) (w.heap.size + 1 + 1) s ⟨0, 0, 0, ⟨#[]⟩⟩ ∧ Below w.heap.size w (((w.alloc (.cells #[.nilIface] 39)).alloc (.cells #[.nilIface] 32)).alloc (.cells #[.string s, .int .i64 0, .int .i64 0, .int .i64 0, .string ⟨#[]⟩, .int .i64 0, .int .i64 0, .string ⟨#[]⟩, .slice none 0 0, .int .i64 0] 55)) ∧ (((w.alloc (.cells #[.nilIface] 39)).alloc (.cells #[.nilIface] 32)).alloc (.cells #[.string s, .int .i64 0, .int .i64 0, .int .i64 0, .string ⟨#[]⟩, .int .i64 0, .int .i64 0, .string ⟨#[]⟩, .slice none 0 0, .int .i64 0] 55)).cell? ⟨w.heap.size, 0, none⟩ = some .nilIface ∧ (((w.alloc (.cells #[.nilIface] 39)).alloc (.cells #[.nilIface] 32)).alloc (.cells #[.string s, .int .i64 0, .int .i64 0, .int .i64 0, .string ⟨#[]⟩, .int .i64 0, .int .i64 0, .string ⟨#[]⟩, .slice none 0 0, .int .i64 0] 55)).cell? ⟨w.heap.size + 1, 0, none⟩ = some .nilIface ∧ (∀ o, (((w.alloc (.cells #[.nilIface] 39)).alloc (.cells #[.nilIface] 32)).alloc (.cells #[.string s, .int .i64 0, .int .i64 0, .int .i64 0, .string ⟨#[]⟩, .int .i64 0, .int .i64 0, .string ⟨#[]⟩, .slice none 0 0, .int .i64 0] 55)).frozen? ⟨w.heap.size, o, none⟩ = false) ∧ (∀ o, (((w.alloc (.cells #[.nilIface] 39)).alloc (.cells #[.nilIface] 32)).alloc (.cells #[.string s, .int .i64 0, .int .i64 0, .int .i64 0, .string ⟨#[]⟩, .int .i64 0, .int .i64 0, .string ⟨#[]⟩, .slice none 0 0, .int .i64 0] 55)).frozen? ⟨w.heap.size + 1, o, none⟩ = false) ∧ (((w.alloc (.cells #[.nilIface] 39)).alloc (.cells #[.nilIface] 32)).alloc (.cells #[.string s, .int .i64 0, .int .i64 0, .int .i64 0, .string ⟨#[]⟩, .int .i64 0, .int .i64 0, .string ⟨#[]⟩, .slice none 0 0, .int .i64 0] 55)).heap.size = w.heap.size + 3 := by
  refine ⟨⟨?_, ?_, ?_, ?_, ?_, ?_, ?_, ?_, ?_, ?_, ?_⟩, ?_, ?_, ?_, ?_, ?_, ?_⟩
  · simp [go_sem]
  · simp [go_sem]
  · simp [go_sem]
  · simp [go_sem]
  · simp [go_sem]
  · simp [go_sem]
  · simp [go_sem]
  · simp [go_sem]
  · simp [go_sem]
  · simp [go_sem]
  · intro o; simp [go_sem]
  · exact (((Below.refl _ _).alloc (Nat.le_refl _) _).alloc (by simp) _).alloc (by simp; omega) _
  · simp [go_sem]
  · simp [go_sem]
  · intro o; simp [go_sem]
  · intro o; simp [go_sem]
  · simp

def st0 : St := ⟨0, 0, 0, ⟨#[]⟩⟩
theorem parse_ok (s : ByteArray) (t u : St) (n1 : TypeId) (n2 : Value) (w : World) (hs : s.size ≤ 100) (hg : ∀ pb, Goes pb s st0 t) (HS : ∀ pb, Gives 16 pb s t u (.iface n1 n2)) (hu : u.k = 0) :
    Calls Tryz.prog 10 #[.string s] w fun e w' => Below w.heap.size w w' ∧ e = .returned (.tuple #[.iface n1 n2, .nilIface]) := by
  have hmf : ∀ (fn : Fn) (first cap : Array Value) (w : World), (Instr.makeFunc fn first cap).run Tryz.prog w = .ok (.func fn first cap) w := fun _ _ _ _ => rfl
  have HG := hid hg
  have HH := hid HS
  clear hg HS
  have h1 : ¬ (100 : Int) < (s.size : Int) := by omega
  have h2 : ¬ 100 < s.size := by omega
  go_enter_defers Tryz.func10, Tryz.ntmps10
  go_wp2_with fail
  obtain ⟨hA, hB, x0, x1, f0, f1, hz⟩ := parse_start w s
  generalize ((w.alloc (.cells #[.nilIface] 39)).alloc (.cells #[.nilIface] 32)).alloc (.cells #[.string s, .int .i64 0, .int .i64 0, .int .i64 0, .string ⟨#[]⟩, .int .i64 0, .int .i64 0, .string ⟨#[]⟩, .slice none 0 0, .int .i64 0] 55) = w0 at *
  have HA := hid hA
  have HB := hid hB
  have hG := HG.out (w.heap.size + 1 + 1)
  refine (advance_any (w.heap.size + 1 + 1) s 0 t.a 0 0 t.k t.ta ⟨#[]⟩ t.nm 0 w0 HA.out hG).mono ?_
  rintro e w1 ⟨ho1, hp1, rfl⟩
  have X0 := hid (ho1.cell x0 (by show w.heap.size ≠ _; omega))
  have X1 := hid (ho1.cell x1 (by show w.heap.size + 1 ≠ _; omega))
  have F0 : Hid (∀ o, w1.frozen? ⟨w.heap.size, o, none⟩ = false) := fun o => (ho1.frozen (p := ⟨w.heap.size, o, none⟩) (by simp; omega) (by simp; try omega)).trans (f0 o)
  have F1 : Hid (∀ o, w1.frozen? ⟨w.heap.size + 1, o, none⟩ = false) := fun o => (ho1.frozen (p := ⟨w.heap.size + 1, o, none⟩) (by simp; omega) (by simp; try omega)).trans (f1 o)
  have HO1 := hid ho1
  have HP1 : Hid (At w1 (w.heap.size + 1 + 1) s t) := hp1
  clear ho1 hp1 hA hB x0 x1 f0 f1 hG
  unfold tokV
  go_wp2_with fail
  refine (HH.out (w.heap.size + 1 + 1) w1 HP1.out).mono ?_
  rintro e w2 ⟨ho2, ha2, rfl⟩
  have hs1 := HO1.out.size
  have x0 := ho2.cell X0.out (by show w.heap.size ≠ _; omega)
  have x1 := ho2.cell X1.out (by show w.heap.size + 1 ≠ _; omega)
  have f0 : ∀ o, w2.frozen? ⟨w.heap.size, o, none⟩ = false := fun o => (ho2.frozen (p := ⟨w.heap.size, o, none⟩) (by simp; omega) (by simp; try omega)).trans (F0.out o)
  have f1 : ∀ o, w2.frozen? ⟨w.heap.size + 1, o, none⟩ = false := fun o => (ho2.frozen (p := ⟨w.heap.size + 1, o, none⟩) (by simp; omega) (by simp; try omega)).trans (F1.out o)
  have y2 : w2.cell? ⟨w.heap.size + 1 + 1, 2, none⟩ = some (.int .i64 0) := by have := ha2.c2; rw [hu] at this; exact this
  have HO2 := hid (HO1.out.trans ho2)
  clear ho2 ha2
  go_wp2_with fail
  refine leaves_cons (f := 12) (args := #[.pointer (some ⟨w.heap.size, 0, none⟩), .pointer (some ⟨w.heap.size + 1, 0, none⟩)]) (by simp) (by simp [go_sem]) ?_
  refine (catch_idle ⟨w.heap.size, 0, none⟩ ⟨w.heap.size + 1, 0, none⟩ _).mono ?_
  rintro x6 u6 w6 ⟨rfl, rfl, rfl⟩
  have hB : Below w.heap.size w w2 := HB.out.trans (HO2.out.below (by omega) (by omega))
  have hne : ¬ w.heap.size = w.heap.size + 1 := by omega
  refine ⟨.tuple #[.iface n1 n2, .nilIface], ?_, ((hB.setCell (p := ⟨w.heap.size, 0, none⟩) (Nat.le_refl _) _).setCell (p := ⟨w.heap.size, 0, none⟩) (Nat.le_refl _) _).setCell (p := ⟨w.heap.size + 1, 0, none⟩) (by simp) _, rfl⟩
  simp [results, Tryz.results10, go_sem, x0, x1]
end Go.Proofs.YtieknmpdmdbdlaaGreatDoor
