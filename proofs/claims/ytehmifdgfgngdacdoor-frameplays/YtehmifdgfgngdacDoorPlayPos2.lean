import Derived.Test.YtehmifdgfgngdacDoorPlayBase
namespace Go.Proofs.YtehmifdgfgngdacDoor
open Go.RowKit
set_option maxRecDepth 8000

set_option maxHeartbeats 4000000 in
theorem plays_pos2 (s X Y : Nat) (_hs : s < 4294967296) (pa : Option Addr) (ca : Nat) (za : List Int) (w : World) (na : Nat) (hl : na ≤ 131072) (hn : ¬ na = 0) (H1 : Hid (RoomyDoes pa na ca za w)) (H2 : Hid (JoinedDoes s X Y pa na ca za w)) :
    Calls Tryd.prog 5 #[.agg #[.int .i64 (2 : Int), .int .u32 s, .slice pa na ca]] w fun e w' => e = .returned (.bool true) ∧ Below w.heap.size w w' := by
  go_enter Tryd.func5, Tryd.ntmps5
  go_wp2_with fail
  have hb0 : Below w.heap.size w (w.alloc (Obj.cells #[Value.int IntKind.i64 (2 : Int), Value.int IntKind.u32 (s : Int), Value.slice pa na ca] 26)) := (Below.refl _ _).alloc (Nat.le_refl _) _
  have z0 : (w.alloc (Obj.cells #[Value.int IntKind.i64 (2 : Int), Value.int IntKind.u32 (s : Int), Value.slice pa na ca] 26)).cell? ⟨w.heap.size, 0, none⟩ = some (.int .i64 (2 : Int)) := by unfold World.cell?; rw [heap_new]; rfl
  have z1 : (w.alloc (Obj.cells #[Value.int IntKind.i64 (2 : Int), Value.int IntKind.u32 (s : Int), Value.slice pa na ca] 26)).cell? ⟨w.heap.size, 1, none⟩ = some (.int .u32 (s : Int)) := by unfold World.cell?; rw [heap_new]; rfl
  have z2 : (w.alloc (Obj.cells #[Value.int IntKind.i64 (2 : Int), Value.int IntKind.u32 (s : Int), Value.slice pa na ca] 26)).cell? ⟨w.heap.size, 2, none⟩ = some (.slice pa na ca) := by unfold World.cell?; rw [heap_new]; rfl
  generalize (w.alloc (Obj.cells #[Value.int IntKind.i64 (2 : Int), Value.int IntKind.u32 (s : Int), Value.slice pa na ca] 26)) = w0 at *
  refine (H1.out w0 hb0).mono ?_
  rintro e w1 ⟨g, c, rfl, hc, hO1, hb1⟩
  have y0 := (hb1.cell (p := ⟨w.heap.size, 0, none⟩) (cell_lt z0)).trans z0
  have y1 := (hb1.cell (p := ⟨w.heap.size, 1, none⟩) (cell_lt z1)).trans z1
  have y2 := (hb1.cell (p := ⟨w.heap.size, 2, none⟩) (cell_lt z2)).trans z2
  have hb1w := hb0.trans (hb1.mono hb0.size)
  have HJ := H2.out w0.heap.size w1 g c hO1 hb1w
  clear z0 z1 z2 hO1 H1 H2 hb0 hb1
  have HJ' : Hid (Calls Tryd.prog 8 #[.slice (some ⟨g, 0, none⟩) (na + 60) c, .slice none 0 0] w1 fun e w' => ∃ pb cb, e = .returned (.slice pb (na + 60) cb) ∧ Below w1.heap.size w1 w' ∧
      Lent s X Y pa na ca (some ⟨g, 0, none⟩) (na + 60) (some ⟨g, 0, none⟩) c pb cb w' ∧ (na = 0 → Lent s X Y pa na ca none 0 (some ⟨g, 0, none⟩) c pb cb w')) := HJ
  clear HJ
  go_wp2_with fail
  refine HJ'.out.mono ?_
  rintro e w2 ⟨pb, cb, rfl, hb2, hL, hL0⟩
  have x0 := (hb2.cell (p := ⟨w.heap.size, 0, none⟩) (cell_lt y0)).trans y0
  have x1 := (hb2.cell (p := ⟨w.heap.size, 1, none⟩) (cell_lt y1)).trans y1
  have x2 := (hb2.cell (p := ⟨w.heap.size, 2, none⟩) (cell_lt y2)).trans y2
  have hb2w := hb1w.trans (hb2.mono hb1w.size)
  have L : Hid (Lent s X Y pa na ca (some ⟨g, 0, none⟩) (na + 60) (some ⟨g, 0, none⟩) c pb cb w2) := hL
  clear y0 y1 y2 HJ' hL hL0 hb1w hb2
  have hn' : ¬ (na : Int) = 0 := by omega
  have q1 : (na : Int) ≤ (na : Int) + 60 := by omega
  have q2 : (na : Int) + 60 ≤ (c : Int) := by omega
  go_wp2_with fail
  go_region_with (first | (go_at_call 11; refine (L.out.add _ ?_).mono ?_; exact (Below.refl _ _).drew; rintro e wa ⟨rfl, rfl⟩) | (go_at_call 12; refine (L.out.radd _ ?_).mono ?_; exact (Below.refl _ _).drew; rintro e wa ⟨rfl, rfl⟩))
  all_goals
    go_wp2_with (go_at_call 17; refine (L.out.like _ (Below.refl _ _).drew).mono ?_; rintro e w5 ⟨rfl, hb5⟩)
    go_ret
    exact ⟨rfl, hb2w.drew.trans (hb5.mono hb2w.size)⟩
end Go.Proofs.YtehmifdgfgngdacDoor
