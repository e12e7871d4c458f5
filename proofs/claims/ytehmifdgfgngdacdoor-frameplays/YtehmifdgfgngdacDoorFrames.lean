import Derived.Test.YtehmifdgfgngdacDoorUnwAny
namespace Go.Proofs.YtehmifdgfgngdacDoor
open Go.RowKit
set_option maxRecDepth 8000

/-- the frame of a body -/
def frameOf (zs : List Int) : List Int := hd zs.length ++ zs ++ tl (Crc.add 0 zs)

theorem frameOf_length (zs : List Int) : (frameOf zs).length = zs.length + 8 := by simp [frameOf, hd, tl]
theorem frameOf_byte (zs : List Int) (hm : zs.length ≤ 32768) (hb : ∀ z ∈ zs, 0 ≤ z ∧ z < 256) : ∀ z ∈ frameOf zs, 0 ≤ z ∧ z < 256 :=
  frame_bytes _ (by omega) zs hb _ (by unfold Crc.add Crc.ones; omega)
theorem take4_hd (m : Nat) (r : List Int) : (hd m ++ r).take 4 = hd m := rfl
theorem drop4_hd (m : Nat) (r : List Int) : (hd m ++ r).drop 4 = r := rfl
theorem take4_tl (s : Nat) (r : List Int) : (tl s ++ r).take 4 = tl s := rfl

theorem unw_frame (zs r : List Int) (hm : zs.length ≤ 32768) : unw (frameOf zs ++ r) = (0, zs) := by
  have e : frameOf zs ++ r = hd zs.length ++ (zs ++ (tl (Crc.add 0 zs) ++ r)) := by simp [frameOf]
  have hb : ((frameOf zs ++ r).drop 4).take zs.length = zs := by rw [e, drop4_hd]; simp
  have h := unw_ok (zs := frameOf zs ++ r) (m := zs.length) hm (by rw [e]; exact take4_hd _ _) (by rw [List.length_append, frameOf_length]; omega)
    (by rw [hb, ← List.drop_drop, e, drop4_hd, List.drop_left]; exact take4_tl _ _)
  rw [h, hb]

theorem exa_frame (zs : List Int) (hm : zs.length ≤ 32768) : exa (frameOf zs) = (0, zs) := by
  have h := unw_frame zs [] hm
  rw [List.append_nil] at h
  unfold exa
  rw [h]
  simp [frameOf_length]
theorem exa_frame_more (zs r : List Int) (hm : zs.length ≤ 32768) (hr : 0 < r.length) : exa (frameOf zs ++ r) = (14, []) := by
  unfold exa
  rw [unw_frame zs r hm, if_pos rfl, if_pos (by rw [List.length_append, frameOf_length]; show zs.length + 8 < _; omega)]
end Go.Proofs.YtehmifdgfgngdacDoor
