import Derived.Test.YtjkfihngkfphfaaDoorEcA
namespace Go.Proofs.YtjkfihngkfphfaaDoor
open Go.RowKit
set_option maxRecDepth 8000
set_option maxHeartbeats 4000000 in
/-- the reference's fresh -/
theorem rfresh_any (p : Option Addr) (n c lo hi : Nat) (f : Nat → Int) (w : World) (S : Nat → Prop) (hb : Byts w S p n c f) (h1 : lo ≤ hi) (h2 : hi ≤ n) (hn : n ≤ 65536) :
    Calls Tryd.prog 17 #[.slice p n c, .int .i64 (lo : Int), .int .i64 (hi : Int)] w fun e w' => ∃ (p' : Option Addr) (c' : Nat), e = .returned (.slice p' (hi - lo) c') ∧ OwnBy w.heap.size w' (.slice p' (hi - lo) c') ((List.range (hi - lo)).map fun j => f (lo + j)) ∧ Below w.heap.size w w' := by
  obtain ⟨i0, Kd⟩ := kindB
  have HKd := hid Kd
  have HBy := hid hb
  clear hb Kd
  go_enter Tryd.func17, Tryd.ntmps17
  go_wp2_with fail
  go_loopw [7, 8] (fun v x wr => ∃ k : Nat, k ≤ hi - lo ∧ x = .int .i64 ((lo + k : Nat) : Int) ∧ OwnBy w.heap.size wr v ((List.range k).map fun j => f (lo + j)) ∧ Below w.heap.size w wr) (fun _ x _ => hi - (intOf x).toNat)
  case atStart => exact ⟨0, Nat.zero_le _, by simp, World.ownsRow_nil _ _ _ _, Below.refl _ _⟩
  case round =>
    obtain ⟨k, hk, rfl, hO, hbel⟩ := hrel
    have HO := hid hO
    have HB := hid hbel
    clear hO hbel
    by_cases hlt : lo + k < hi
    · have hlt' : (lo : Int) + (k : Int) < (hi : Int) := by omega
      have hltn : (lo : Int) + (k : Int) < (n : Int) := by omega
      obtain ⟨bb, o, hp, _, hbb, hat⟩ := HBy.out.at_ (by omega)
      subst hp
      have c0 : wr.cell? ⟨bb, o + (lo + k), none⟩ = some (.int .u8 (f (lo + k))) := (World.cell?_of_block (a := ⟨bb, o + (lo + k), none⟩) (HB.out.block bb hbb)).trans (hat (lo + k) (by omega))
      have hal : Below wr.heap.size wr (wr.alloc (.cells #[.int .u8 (f (lo + k))] 5)) := (Below.refl _ _).alloc (Nat.le_refl _) _
      have hO2 : (wr.alloc (.cells #[.int .u8 (f (lo + k))] 5)).ownsRow w.heap.size 5 1 u7 k (((List.range k).map fun j => f (lo + j)).map (Value.int .u8)) := by
        have h := HO.out
        unfold OwnBy at h
        simp only [List.length_map, List.length_range] at h
        exact ownsRow_keep h fun g _ hl => hal.block g hl
      have hnw : ∀ j u', [Value.int .u8 (f (lo + k))][j]? = some u' → (wr.alloc (.cells #[.int .u8 (f (lo + k))] 5)).cell? ((⟨wr.heap.size, 0, none⟩ : Addr).add j) = some u' := fun j u' hu => by
        rw [Go.WideShapes.add_plain, (Box.new wr #[.int .u8 (f (lo + k))] 5).cell]
        rw [show 0 + j = j by omega]
        simpa using hu
      have HAl := hid (And.intro hal (And.intro hO2 hnw))
      have hsz := HB.out.size
      clear hal hO2 hnw hat
      go_wp2_with (at_builtin; refine wpList_app rfl (.tmp 15) (.tmp 20) 33 5 i0 _ 1 1 HKd.out rfl w.heap.size u7 k _ rfl HAl.out.2.1 ⟨wr.heap.size, 0, none⟩ 1 1 [.int .u8 (f (lo + k))] rfl rfl HAl.out.2.2 (fun u hu => by obtain rfl := List.mem_singleton.1 hu; rfl) (by omega) (by omega) (by simp; omega) ?_)
      intro v' w' ho hg hn'
      have HO3 : Hid (OwnBy w.heap.size w' v' ((List.range (k + 1)).map fun j => f (lo + j))) := by
        show World.ownsRow _ _ _ _ _ _ _
        rw [List.range_succ]
        simpa using ho
      have HB3 : Hid (Below w.heap.size w w') := (HB.out.trans (HAl.out.1.mono HB.out.size)).grown hg (by simp; omega) (fun g hg2 => (HAl.out.2.1.lt g hg2).1)
      clear ho hg hn' HAl
      go_wp2
      go_roundw
      case rel => exact ⟨k + 1, by omega, by go_num, HO3.out, HB3.out⟩
      case measure => simp [intOf]; omega
    · have hlt' : ¬ (lo : Int) + (k : Int) < (hi : Int) := by omega
      obtain rfl : k = hi - lo := by omega
      obtain ⟨p', c', hv⟩ := ownsRow_slice HO.out
      simp only [List.length_map, List.length_range] at hv
      subst hv
      go_wp2
      exact bodyPost_ret (v := .slice p' (hi - lo) c') (by simp [results, Tryd.results17, go_sem]) rfl ⟨p', c', rfl, HO.out, HB.out⟩
end Go.Proofs.YtjkfihngkfphfaaDoor
