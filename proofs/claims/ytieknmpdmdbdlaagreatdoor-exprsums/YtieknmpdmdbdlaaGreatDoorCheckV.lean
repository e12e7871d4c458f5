import Derived.Test.YtieknmpdmdbdlaaGreatDoorCheck
namespace Go.Proofs.YtieknmpdmdbdlaaGreatDoor
open Go.RowKit
set_option maxRecDepth 8000

set_option maxHeartbeats 1000000 in
theorem check_any (t : VT) (w : World) (S : Nat → Prop) (hin : VT.In w S t) (hS : ∀ b, S b → b < w.heap.size) :
    Calls Tryz.prog 144 #[t.val] w fun e w' => e = .returned (.int .i64 (chk t 0 0).1) ∧ Below w.heap.size w w' := by
  have HC : Hid (∀ W b, Below w.heap.size w W → w.heap.size ≤ b → Box W b #[.int .i64 ((0 : Nat) : Int)] 3 → Calls Tryz.prog 170 #[t.val, .int .i64 ((0 : Nat) : Int), .pointer (some ⟨b, 0, none⟩)] W fun e w' => e = .returned (.int .i64 (chk t 0 0).1) ∧ Box w' b #[.int .i64 (chk t 0 0).2] 3 ∧ But (fun k => k = b) W w') :=
    fun W b hW hb hB => checkPart_any t W S b 0 0 (hin.below hW) (fun h => by have := hS b h; omega) hB (by omega) (by omega)
  obtain ⟨k, i, s, n, p, c, f, rfl⟩ := hin.mk_
  clear hin hS
  generalize chk (.mk k i s n p c f) 0 0 = r at *
  simp only [VT.val, VT.kind_mk, VT.int_mk, VT.text_mk, VT.p_mk, VT.n_mk, VT.c_mk] at HC ⊢
  go_enter Tryz.func144, Tryz.ntmps144
  go_wp2_with fail
  refine (HC.out _ (w.heap.size + 1) ?_ ?_ ?_).mono ?_
  · exact ((Below.refl _ _).alloc (Nat.le_refl _) _).alloc (by simp) _
  · omega
  · have h := Box.new (w.alloc (.cells #[.int .i64 k, .int .i64 i, .string s, .slice p n c] 24)) #[.int .i64 0] 3
    simpa using h
  · rintro e w1 ⟨rfl, _, hK⟩
    have hb1 : Below w.heap.size w w1 := (((Below.refl w.heap.size w).alloc (Nat.le_refl _) _).alloc (by simp) _).trans (hK.below (by simp; omega) (fun x hx => by omega))
    clear hK HC
    go_wp2
    go_ret
    exact ⟨rfl, hb1⟩
end Go.Proofs.YtieknmpdmdbdlaaGreatDoor
