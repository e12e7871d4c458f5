import Derived.Test.YtpknlbibijheaabPack35
import Derived.Test.YtpknlbibijheaabRankL
namespace Go.Proofs.Ytpknlbibijheaab
open Go.RowKit
set_option maxRecDepth 8000

theorem rank_any (t : VT) : RankC t := by
  induction t with
  | nil => intro w base L g c i rest _ _ _ hv; exact hv.elim
  | mk k j0 s n p cc f ih =>
    intro w base L g c i rest hL hd hlen hv
    have hq : L[i]? = some ⟨k, j0, s, n⟩ := by
      have h := congrArg (fun l => l[0]?) hd
      rw [flatP_eq] at h
      simpa using h
    obtain ⟨hi, c0, c1, c2, c3⟩ := part_at hL hq
    have hf := hv.1.1
    have hsh := shp_of hf
    have hg : g < w.heap.size := (hL.lt g rfl).2
    cases hsh with
    | none s hs => exact rank_none s 0 L.length g c i 0 p cc f w hi hlen c0 c1 c2 c3 rfl
    | zero s hs => exact rank_int s 0 L.length g c i 0 p cc f w hi hlen hg c0 c1 c2 c3 rfl hv.1.2.2.2.1 hv.1.2.2.2.2
    | int i1 s hi1 hs => exact rank_int s 0 L.length g c i j0 p cc f w hi hlen hg c0 c1 c2 c3 rfl hv.1.2.2.2.1 hv.1.2.2.2.2
    | empty s hs => exact rank_text s 0 L.length g c i 0 p cc f w hi hlen c0 c1 c2 c3 rfl hv.1.2.1
    | text s hs => exact rank_text s 0 L.length g c i 0 p cc f w hi hlen c0 c1 c2 c3 rfl hv.1.2.1
    | bare s hs => exact rank_list s 0 g c i 0 p cc f w base L rest ih hL hd hlen hv hi c0 c1 c2 c3
    | list s n hs hn => exact rank_list s n g c i 0 p cc f w base L rest ih hL hd hlen hv hi c0 c1 c2 c3
end Go.Proofs.Ytpknlbibijheaab
