import Derived.Test.YtjkfihngkfphfaaDoorEaB
import Derived.Test.YtjkfihngkfphfaaDoorOwnB
import Derived.Test.YtjkfihngkfphfaaDoorRecT
import Derived.Lib.LazyBuf
import Derived.RangeFuncSeq
namespace Go.Proofs.YtjkfihngkfphfaaDoor
open Go.RowKit
set_option maxRecDepth 8000
theorem cellLt {w : World} {a : Addr} {v : Value} (h : w.cell? a = some v) : a.block < w.heap.size := by
  rcases Nat.lt_or_ge a.block w.heap.size with h1 | h1
  · exact h1
  · simp [World.cell?, Array.getElem?_eq_none h1] at h
theorem one_u8 (zs : List Int) : ∀ u ∈ zs.map (Value.int .u8), u.oneCell' = true := by
  intro u hu
  obtain ⟨j, _, rfl⟩ := List.mem_map.1 hu
  rfl
theorem OwnBy.src {base : Nat} {w : World} {p : Option Addr} {n c : Nat} {zs : List Int} (h : OwnBy base w (.slice p n c) zs) (hn : n = zs.length) : Src w p n c 1 (zs.map (.int .u8)) := by
  subst hn
  have hc := @World.ownsRow.cells _ _ _ _ _ _ _ h
  obtain ⟨hl, ⟨hv, h0⟩ | ⟨g, cap, cur, hv, _⟩⟩ := id h
  · simp only [Value.slice.injEq] at hv
    obtain ⟨rfl, h2, rfl⟩ := hv
    exact .inl ⟨rfl, h2, rfl, by rw [List.eq_nil_of_length_eq_zero h0]; rfl⟩
  · simp only [Value.slice.injEq] at hv
    obtain ⟨rfl, h2, rfl⟩ := hv
    exact .inr ⟨⟨g, 0, none⟩, rfl, by simp, fun j u hu => hc (g := g) rfl j u hu⟩
set_option maxHeartbeats 1000000 in
/-- bytes.Clone -/
theorem bclone_any (p : Option Addr) (c : Nat) (zs : List Int) (w : World) (hs : Src w p zs.length c 1 (zs.map (.int .u8))) (hle : zs.length ≤ 100000000) :
    Calls Tryd.prog 16 #[.slice p zs.length c] w fun e w' => ∃ (p' : Option Addr) (c' : Nat), e = .returned (.slice p' zs.length c') ∧ OwnBy w.heap.size w' (.slice p' zs.length c') zs ∧ Below w.heap.size w w' := by
  cases p with
  | none =>
    obtain ⟨_, h0, hc, _⟩ | ⟨ad, h, _⟩ := hs
    · rw [h0, hc]
      have hnil : ∀ W, (binOp .eql 33 (.slice none 0 0) (.slice none 0 0)).run Tryd.prog W = .ok (.bool true) W := fun W => run_eql_slice_nil W 33 5 none 0 0 Tryd.underlying33
      go_enter Tryd.func16, Tryd.ntmps16
      go_wp2
      refine bodyPost_ret (v := .slice none 0 0) (by simp [results, Tryd.results16, go_sem]) rfl ⟨none, 0, rfl, ?_, Below.refl _ _⟩
      obtain rfl : zs = [] := List.eq_nil_of_length_eq_zero h0
      exact World.ownsRow_nil _ _ _ _
    · cases h
  | some ad =>
    obtain ⟨i0, Kd⟩ := kindB
    have hnil : ∀ W, (binOp .eql 33 (.slice (some ad) zs.length c) (.slice none 0 0)).run Tryd.prog W = .ok (.bool false) W := fun W => run_eql_slice_nil W 33 5 (some ad) zs.length c Tryd.underlying33
    have hal : Below w.heap.size w (w.alloc (.cells #[] 5)) := (Below.refl _ _).alloc (Nat.le_refl _) _
    have hown : (w.alloc (.cells #[] 5)).ownsRow w.heap.size 5 1 (.slice (some ⟨w.heap.size, 0, none⟩) 0 0) 0 [] := ⟨rfl, .inr ⟨w.heap.size, 0, #[], rfl, Nat.le_refl _, Go.heap_alloc_new _ _, Nat.le_refl _, Nat.zero_le _, rfl, rfl⟩⟩
    have hs2 : Src (w.alloc (.cells #[] 5)) (some ad) zs.length c 1 (zs.map (.int .u8)) := by
      rcases hs with ⟨h, _⟩ | ⟨ad', h1, h2, h3⟩
      · cases h
      · exact .inr ⟨ad', h1, h2, fun j u hu => (World.cell?_of_block (hal.block _ (cellLt (h3 j u hu)))).trans (h3 j u hu)⟩
    go_enter Tryd.func16, Tryd.ntmps16
    go_wp2_with (at_builtin; refine wpList_appS rfl (.tmp 5) (.tmp 6) 33 5 i0 _ 1 1 Kd rfl w.heap.size _ 0 [] rfl hown (some ad) zs.length c _ rfl hs2 (one_u8 zs) (by omega) (by omega) (by simp) ?_)
    intro v' w' ho hg hn
    have HO : Hid (OwnBy w.heap.size w' v' zs) := by
      show w'.ownsRow _ _ _ _ _ _
      simpa using ho
    obtain ⟨p', c', hv⟩ := ownsRow_slice HO.out
    subst hv
    have HB : Hid (Below w.heap.size w w') := hal.grown hg (by simp) (fun k hk => (hown.lt k hk).1)
    clear ho hg hn hs hs2 hown hal
    go_wp2
    exact bodyPost_ret (v := .slice p' zs.length c') (by simp [results, Tryd.results16, go_sem]) rfl ⟨p', c', rfl, HO.out, HB.out⟩
end Go.Proofs.YtjkfihngkfphfaaDoor
