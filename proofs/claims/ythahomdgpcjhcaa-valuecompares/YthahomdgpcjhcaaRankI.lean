import Derived.Test.YthahomdgpcjhcaaRankW
namespace Go.Proofs.Ythahomdgpcjhcaa
open Go.RowKit
set_option maxRecDepth 8000

set_option maxHeartbeats 2000000 in
theorem rank_int (s : ByteArray) (n len : Nat) (g c i : Nat) (j0 : Int) (p : Option Addr) (cc : Nat) (f : Nat → VT) (w : World) (hi : i < len) (hlen : len ≤ 12) (_hg : g < w.heap.size)
    (c0 : w.cell? ⟨g, i * 4, none⟩ = some (.int .i64 1)) (c1 : w.cell? ⟨g, i * 4 + 1, none⟩ = some (.int .i64 j0)) (c2 : w.cell? ⟨g, i * 4 + 2, none⟩ = some (.string s)) (c3 : w.cell? ⟨g, i * 4 + 3, none⟩ = some (.int .i64 n)) (hn : n = 0) (hj : -9223372036854775808 ≤ j0) (hj2 : j0 ≤ 9223372036854775807) :
    Calls Try.prog 45 #[.slice (some ⟨g, 0, none⟩) len c, .int .i64 i] w fun r w' => RankPost w (.mk 1 j0 s n p cc f) i r w' := by
  have hi' : (i : Int) < (len : Int) := by omega
  obtain ⟨i0, Kd⟩ := kindB
  subst hn
  have HP := fun W => place_any j0 hj hj2 W
  clear hj hj2
  go_enter Try.func45, Try.ntmps45
  go_wp2_with fail
  refine (HP _).mono ?_
  rintro e w1 ⟨v1, rfl, ho1, hb1⟩
  have hO1 : OwnBy _ w1 v1 (placeB j0) := ho1
  obtain ⟨b1, cp, hv1, hbb, hbl, hcell⟩ := hO1.slice (by simp [placeB, be8])
  have hR : OwnBy (w.heap.size + 1) w1 (.slice (some ⟨w.heap.size + 1, 0, none⟩) 1 1) [2] := by
    have h := row_one (w.alloc (.cells #[.int .i64 1, .int .i64 j0, .string s, .int .i64 0] 93)) 2
    rw [show (w.alloc (.cells #[.int .i64 1, .int .i64 j0, .string s, .int .i64 0] 93)).heap.size = w.heap.size + 1 by simp] at h
    exact OwnBy.below h hb1
  have hbw1 : Below w.heap.size w w1 := (((Below.refl w.heap.size w).alloc (Nat.le_refl _) _).alloc (by simp) _).trans (hb1.mono (by simp; omega))
  have hs1 : w.heap.size + 2 ≤ w1.heap.size := by have := hb1.size; simpa using this
  subst hv1
  have HN : Hid (∀ j u, ((placeB j0).map (Value.int .u8))[j]? = some u → w1.cell? ((⟨b1, 0, none⟩ : Addr).add j) = some u) := hcell
  have hlen8 : (placeB j0).length = 8 := by simp [placeB, be8]
  rw [hlen8]
  clear hcell ho1 hO1 hb1 HP
  go_wp2_with (at_builtin; refine wpList_app rfl (.tmp 28) (.tmp 31) 62 5 i0 _ 1 1 Kd rfl (w.heap.size + 1) (.slice (some ⟨w.heap.size + 1, 0, none⟩) 1 1) 1 [.int .u8 2] rfl hR ⟨b1, 0, none⟩ 8 cp ((placeB j0).map (Value.int .u8)) rfl ?_ HN.out (ints_oneCell _ _) ?_ ?_ ?_ ?_)
  · simp [hlen8]
  · omega
  · omega
  · omega
  intro v2 w2 ho2 hg2 hn2
  have hO2 : OwnBy (w.heap.size + 1) w2 v2 ([2] ++ placeB j0) := hR.app (by rw [hlen8]; exact ho2)
  have hbw2 : Below w.heap.size w w2 := hbw1.grown hg2 (by omega) (fun k hk => by have := (World.ownsRow.lt hR k hk).1; omega)
  clear ho2 hg2 hn2 hR HN hlen8
  go_wp2
  go_ret2
  refine ⟨v2, rfl, ?_, hbw2⟩
  exact ownsRow_mono hO2 (by omega)
end Go.Proofs.Ythahomdgpcjhcaa
