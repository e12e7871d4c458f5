import Derived.Test.YtehmifdgfgngdacDoorRef
import Derived.Test.YtehmifdgfgngdacDoorWrapAny
import Derived.Test.YtehmifdgfgngdacDoorScan
namespace Go.Proofs.YtehmifdgfgngdacDoor
open Go.RowKit
set_option maxRecDepth 8000

theorem own_lit (w : World) (zs : List Int) (hb : ∀ z ∈ zs, 0 ≤ z ∧ z < 256) (hm : zs.length ≤ 140737488355328) (o : Obj) (ho : o = .cells (zs.map (Value.int .u8)).toArray 5 (0, 0)) : OwnB w.heap.size (w.alloc o) (some ⟨w.heap.size, 0, none⟩) zs.length zs := by
  subst ho
  exact own_of_block (by show (w.heap.push _)[w.heap.size]? = _; simp) rfl (Nat.le_refl _) (by unfold maxLen; omega) hb

set_option maxHeartbeats 400000 in
theorem two_any (n : Nat) (hn : n ≤ 65535) (w : World) :
    Calls Tryd.prog 50 #[.int .i64 (n : Int)] w fun e w' => ∃ a c', e = .returned (.slice a 2 c') ∧ OwnB w.heap.size w' a c' [(n : Int) % 256, (n : Int) / 256] ∧ Below w.heap.size w w' := by
  go_enter Tryd.func50, Tryd.ntmps50
  go_wp2
  go_ret
  refine ⟨_, _, rfl, own_lit w [(n : Int) % 256, (n : Int) / 256] ?_ (by simp) _ rfl, (Below.refl _ _).alloc (Nat.le_refl _) _⟩
  intro z hz
  simp only [List.mem_cons, List.not_mem_nil, or_false] at hz
  rcases hz with rfl | rfl <;> omega

set_option maxHeartbeats 400000 in
theorem four_any (s : Nat) (hs : s < 4294967296) (w : World) :
    Calls Tryd.prog 51 #[.int .u32 (s : Int)] w fun e w' => ∃ a c', e = .returned (.slice a 4 c') ∧ OwnB w.heap.size w' a c' (tl s) ∧ Below w.heap.size w w' := by
  go_enter Tryd.func51, Tryd.ntmps51
  go_wp2
  go_ret
  exact ⟨_, _, rfl, own_lit w (tl s) (tl_byte s hs) (by simp [tl]) _ rfl, (Below.refl _ _).alloc (Nat.le_refl _) _⟩

set_option maxHeartbeats 400000 in
theorem rwrap_long (p : Option Addr) (n c : Nat) (w : World) (hn : 32768 < n) (hm : n ≤ 140737488355328) :
    Calls Tryd.prog 22 #[.slice p n c] w fun e w' => e = .returned (.tuple #[.slice none 0 0, .int .i64 10]) ∧ w' = w := by
  go_enter Tryd.func22, Tryd.ntmps22
  go_wp2_with fail
  go_ret2
  exact ⟨rfl, rfl⟩

set_option maxHeartbeats 1000000 in
theorem rwrap_any (p : Option Addr) (n c : Nat) (zs : List Int) (w : World) (hn : zs.length = n) (hB : Bytes w p zs) (hp : p = none → n = 0 ∧ c = 0) (hm : n ≤ 32768) :
    Calls Tryd.prog 22 #[.slice p n c] w fun e w' => ∃ a c', e = .returned (.tuple #[.slice a (n + 8) c', .int .i64 0]) ∧ OwnB w.heap.size w' a c' (frameOf zs) ∧ Below w.heap.size w w' := by
  have hs : Crc.add 0 zs < 4294967296 := by unfold Crc.add Crc.ones; omega
  have HS : Hid (∀ W, Below w.heap.size w W → Calls Tryd.prog 10 #[.slice p n c] W fun e w' => e = .returned (.int .u32 (Crc.add 0 zs : Nat)) ∧ w' = W) := by
    intro W hW
    have h := rsum_any p n c zs W hn (hB.later hW) (by omega)
    rw [Crc.refAdd_eq 0 zs (by omega) hB.byte] at h
    exact h
  have HB : Hid (∀ W, Below w.heap.size w W → Bytes W p zs) := fun W hW => hB.later hW
  have HFr : Hid (frameOf zs = ([(n : Int) % 256, (n : Int) / 256] ++ [(65535 - (n : Int)) % 256, (65535 - (n : Int)) / 256]) ++ zs ++ tl (Crc.add 0 zs)) := by show _ = _; unfold frameOf hd; rw [hn]; rfl
  have HFb : Hid (∀ z ∈ frameOf zs, 0 ≤ z ∧ z < 256) := frameOf_byte zs (by omega) hB.byte
  have HFl : Hid ((frameOf zs).length = n + 8) := by show _ = _; rw [frameOf_length, hn]
  have HTw : Hid (∀ W, Calls Tryd.prog 50 #[.int .i64 (65535 - (n : Int))] W fun e w' => ∃ a c', e = .returned (.slice a 2 c') ∧ OwnB W.heap.size w' a c' [(65535 - (n : Int)) % 256, (65535 - (n : Int)) / 256] ∧ Below W.heap.size W w') := by
    intro W
    have h := two_any (65535 - n) (by omega) W
    rw [show ((65535 - n : Nat) : Int) = 65535 - (n : Int) by omega] at h
    exact h
  clear hB
  generalize Crc.add 0 zs = s at *
  go_enter Tryd.func22, Tryd.ntmps22
  go_wp2_with (first
    | (go_at_call 50; refine (two_any n (by omega) _).mono ?_; rintro e w1 ⟨a1, c1, rfl, hO1, hb1⟩; have hn1 : a1 = none → 2 = 0 ∧ c1 = 0 := (fun h => absurd (hO1.nil h).1 (by simp)); have hs1 := hb1.size)
    | (at_builtin; refine wpList_append_bytes rfl (.tmp 11) (.tmp 13) rfl w.heap.size _ 0 [] rfl (World.ownsRow_nil _ _ _ _) a1 2 c1 [(n : Int) % 256, (n : Int) / 256] rfl rfl hO1.bytes hn1 (by omega) (by omega) ?_))
  intro v2 w2 ho2 hg2
  have hb2 : Below w.heap.size w w2 := hb1.grown hg2 hs1 (fun g hg => by cases hg)
  have hs2 := hb2.size
  have HO2 : Hid (w2.ownsRow w.heap.size 5 1 v2 2 (([(n : Int) % 256, (n : Int) / 256]).map (Value.int .u8))) := by show World.ownsRow _ _ _ _ _ _ _; simpa using ho2
  clear ho2 hg2 hO1 hb1 hs1
  go_wp2_with (first
    | (go_at_call 50; refine (HTw.out _).mono ?_; rintro e w3 ⟨a3, c3, rfl, hO3, hb3⟩; have hn3 : a3 = none → 2 = 0 ∧ c3 = 0 := (fun h => absurd (hO3.nil h).1 (by simp)); have hs3 := hb3.size; have ho3 := ownsRow_below HO2.out hb3)
    | (at_builtin; refine wpList_append_bytes rfl (.tmp 15) (.tmp 18) rfl w.heap.size _ 2 _ rfl ho3 a3 2 c3 [(65535 - (n : Int)) % 256, (65535 - (n : Int)) / 256] rfl rfl hO3.bytes hn3 (by omega) (by omega) ?_))
  intro v4 w4 ho4 hg4
  have hb4 : Below w.heap.size w w4 := (hb2.trans (hb3.mono hs2)).grown hg4 (by omega) (fun g hg => (ho3.lt g hg).1)
  have hs4 := hb4.size
  have hB4 := HB.out w4 hb4
  have HO4 : Hid (w4.ownsRow w.heap.size 5 1 v4 4 (([(n : Int) % 256, (n : Int) / 256] ++ [(65535 - (n : Int)) % 256, (65535 - (n : Int)) / 256]).map (Value.int .u8))) := by
    show World.ownsRow _ _ _ _ _ _ _
    rw [List.map_append]
    exact ho4
  clear ho4 hg4 hO3 hb3 hs3 HO2 ho3 hb2 hs2
  go_wp2_with (at_builtin; refine wpList_append_bytes rfl (.tmp 20) (.tmp 21) rfl w.heap.size _ 4 _ rfl HO4.out p n c zs rfl hn hB4 hp (by omega) (by omega) ?_)
  intro v5 w5 ho5 hg5
  have hb5 : Below w.heap.size w w5 := hb4.grown hg5 (by omega) (fun g hg => (HO4.out.lt g hg).1)
  have hs5 := hb5.size
  have HO5 : Hid (w5.ownsRow w.heap.size 5 1 v5 (4 + n) (([(n : Int) % 256, (n : Int) / 256] ++ [(65535 - (n : Int)) % 256, (65535 - (n : Int)) / 256] ++ zs).map (Value.int .u8))) := by
    show World.ownsRow _ _ _ _ _ _ _
    rw [List.map_append]
    exact ho5
  clear ho5 hg5 HO4 hb4 hs4 hB4
  go_wp2_with (first
    | (go_at_call 10; refine (HS.out _ hb5).mono ?_; rintro e wx ⟨rfl, rfl⟩)
    | (go_at_call 51; refine (four_any s hs _).mono ?_; rintro e w6 ⟨a6, c6, rfl, hO6, hb6⟩; have hn6 : a6 = none → 4 = 0 ∧ c6 = 0 := (fun h => absurd (hO6.nil h).1 (by simp [tl])); have hs6 := hb6.size; have ho6 := ownsRow_below HO5.out hb6)
    | (at_builtin; refine wpList_append_bytes rfl (.tmp 25) (.tmp 27) rfl w.heap.size _ (4 + n) _ rfl ho6 a6 4 c6 (tl s) rfl rfl hO6.bytes hn6 (by omega) (by omega) ?_))
  intro v7 w7 ho7 hg7
  have hb7 : Below w.heap.size w w7 := (hb5.trans (hb6.mono hs5)).grown hg7 (by omega) (fun g hg => (ho6.lt g hg).1)
  obtain ⟨p7, c7, rfl, hO7⟩ := own_of_row (zs := frameOf zs) (by rw [HFr.out, List.map_append]; exact ho7) HFb.out
  have HO7 : Hid (OwnB w.heap.size w7 p7 c7 (frameOf zs)) := hO7
  rw [HFl.out]
  clear ho7 hg7 ho6 hO6 hb6 hs6 HO5 hb5 hs5 hO7 HS HB HTw
  go_wp2
  go_ret2
  exact ⟨p7, c7, rfl, HO7.out, hb7⟩
end Go.Proofs.YtehmifdgfgngdacDoor
