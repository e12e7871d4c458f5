import Derived.Test.YtbeibhmbaofjhaaPack25
import Derived.Test.YtbeibhmbaofjhaaPack17
import Derived.Test.YtbeibhmbaofjhaaPack19
namespace Go.Proofs.Ytbeibhmbaofjhaa
open Go.RowKit
set_option maxRecDepth 8000
/-- what lies between two sizes of the memory -/
def Bt (a b : Nat) (k : Nat) : Prop := a ≤ k ∧ k < b
section
variable {W w w' : World} {Z : Nat → Prop} {b kb : Nat} {m : Int} {A A' : List FA} {l : LT FY} {cp dl dr fl : Nat}
theorem Fr.lo' (hb : Fr Z w w') (hlo : ∀ k, k < W.heap.size → Z k) (hs : W.heap.size ≤ w.heap.size) : Below W.heap.size w w' := But.below hb hs fun k hk h => h (hlo k hk)
end
/-- one flight more is written down -/
def addY (l : LT FY) (u : FY) (p : Option Addr) (c : Nat) : LT FY := ⟨p, l.n + 1, c, fun j => if j < l.n then l.item j else u⟩
theorem addY_fas (l : LT FY) (u : FY) (p : Option Addr) (c : Nat) : fas (addY l u p c) = fas l ++ [u.a] := by
  unfold fas addY
  rw [List.range_succ, List.map_append]
  congr 1
  · apply List.map_congr_left
    intro j hj
    show (if j < l.n then l.item j else u).a = _
    rw [if_pos (List.mem_range.1 hj)]
  · simp
end Go.Proofs.Ytbeibhmbaofjhaa

namespace Go.Proofs.Ytbeibhmbaofjhaa
open Go.RowKit
set_option maxRecDepth 8000
section
variable {w w' : World} {Z Z1 Z2 : Nat → Prop} {xb b rb : Nat} {m : Int} {A1 A2 A' : List FA} {N N' : Nat}
end
end Go.Proofs.Ytbeibhmbaofjhaa

namespace Go.Proofs.Ytbeibhmbaofjhaa
open Go.RowKit
set_option maxRecDepth 8000
section
variable {w w' : World} {Z Z1 Z2 : Nat → Prop} {xb b rb : Nat} {m : Int} {A A1 A2 A' : List FA} {N N' : Nat}
theorem Fr.less {Z' : Nat → Prop} (h : Fr Z w w') (hz : ∀ k, Z' k → Z k) : Fr Z' w w' := But.mono h fun k _ hn hk => hn (hz k hk)
/-- a flight handed out: bytes in a block of Z', or none -/
def Kp (w : World) (Z' : Nat → Prop) (p : Option Addr) (c : Nat) (zs : List Int) : Prop := (p = none ∧ c = 0 ∧ zs = []) ∨ ∃ d, p = some ⟨d, 0, none⟩ ∧ Z' d ∧ Box w d (bys zs) 5
theorem Kp.src {p : Option Addr} {c : Nat} {zs : List Int} (h : Kp w Z p c zs) : Src w p zs.length c 1 (zs.map (.int .u8)) := by
  rcases h with ⟨rfl, rfl, rfl⟩ | ⟨d, rfl, _, hb⟩
  · exact src_nil _
  · refine .inr ⟨_, rfl, by simp, fun j u hu => ?_⟩
    rw [Go.WideShapes.add_plain, hb.cell, ← hu]
    simp [bys]
theorem Kp.but {X : Nat → Prop} {p : Option Addr} {c : Nat} {zs : List Int} (h : Kp w Z p c zs) (hb : But X w w') (hx : ∀ d, Z d → X d → ∃ cs, Box w d cs 53) : Kp w' Z p c zs := by
  rcases h with h | ⟨d, rfl, hz, hd⟩
  · exact .inl h
  · exact .inr ⟨d, rfl, hz, hd.but hb (fun e => by
      obtain ⟨cs, h2⟩ := hx d hz e
      have := box_ty hd h2
      cases this)⟩
theorem Kp.fr {p : Option Addr} {c : Nat} {zs : List Int} (h : Kp w Z p c zs) (hb : Fr Z w w') : Kp w' Z p c zs := h.but hb fun _ hz hn => absurd hz hn
theorem Kp.fl {p : Option Addr} {c fb : Nat} {zs : List Int} {cs : Array Value} (h : Kp w Z p c zs) (hb : But (fun k => k = fb) w w') (hf : Box w fb cs 53) : Kp w' Z p c zs := h.but hb fun d _ hn => ⟨cs, by have e : d = fb := hn; rw [e]; exact hf⟩
theorem Kp.mono {Z' : Nat → Prop} {p : Option Addr} {c : Nat} {zs : List Int} (h : Kp w Z p c zs) (hz : ∀ k, Z k → Z' k) : Kp w Z' p c zs := by
  rcases h with h | ⟨d, rfl, hd, r⟩
  · exact .inl h
  · exact .inr ⟨d, rfl, hz d hd, r⟩
theorem Src.fl {q : Option Addr} {c fb m k : Nat} {zs : List Int} {x0 x1 : Int} {p : Option Addr} (h : Src w q zs.length c 1 (zs.map (.int .u8))) (hb : But (fun k => k = fb) w w') (hf : Box w fb #[.int .i64 x0, .int .i64 x1, .slice p m k] 53) : Src w' q zs.length c 1 (zs.map (.int .u8)) := by
  rcases h with h | ⟨ad, rfl, hl, h⟩
  · exact .inl h
  · refine .inr ⟨ad, rfl, hl, fun j u hu => ?_⟩
    have h1 := h j u hu
    obtain ⟨z, rfl⟩ : ∃ z, u = .int .u8 z := by
      rw [List.getElem?_map] at hu
      cases hz : zs[j]? with
      | none => rw [hz] at hu; cases hu
      | some z => rw [hz] at hu; exact ⟨z, by simpa using hu.symm⟩
    by_cases e : (ad.add j).block = fb
    · exfalso
      unfold World.cell? at h1
      rw [e, show w.heap[fb]? = _ from hf] at h1
      simp only at h1
      split at h1
      · cases h1
      · generalize (ad.add j).off = o at h1
        match o with
        | 0 => simp at h1
        | 1 => simp at h1
        | 2 => simp at h1
        | o + 3 => simp at h1
    · have hlt : (ad.add j).block < w.heap.size := by
        rcases Nat.lt_or_ge (ad.add j).block w.heap.size with h2 | h2
        · exact h2
        · unfold World.cell? at h1
          rw [Array.getElem?_eq_none h2] at h1
          cases h1
      exact (World.cell?_of_block (a := ad.add j) (hb.block _ hlt e)).trans h1
theorem Box.sets3 {b : Nat} {a0 a1 a2 : Value} {e : TypeId} (h : Box w b #[a0, a1, a2] e) (x0 x1 x2 : Value) : Box (((w.setCell ⟨b, 0, none⟩ x0).setCell ⟨b, 1, none⟩ x1).setCell ⟨b, 2, none⟩ x2) b #[x0, x1, x2] e := by
  have h0 : Box _ b #[x0, a1, a2] e := h.set 0 x0
  have h1 : Box _ b #[x0, x1, a2] e := h0.set 1 x1
  exact h1.set 2 x2
theorem But.sets3 (w : World) (b : Nat) (x0 x1 x2 : Value) : But (fun y => y = b) w (((w.setCell ⟨b, 0, none⟩ x0).setCell ⟨b, 1, none⟩ x1).setCell ⟨b, 2, none⟩ x2) := (((But.one w b).setAt 0 x0).setAt 1 x1).setAt 2 x2
end
end Go.Proofs.Ytbeibhmbaofjhaa
