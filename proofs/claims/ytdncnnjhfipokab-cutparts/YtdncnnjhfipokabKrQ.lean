import Derived.Test.YtdncnnjhfipokabKrO1
import Derived.Test.YtdncnnjhfipokabKrO2
import Derived.Test.YtdncnnjhfipokabKrO3
import Derived.Test.YtdncnnjhfipokabPack36
namespace Go.Proofs.Ytdncnnjhfipokab
open Go.RowKit
set_option maxRecDepth 8000
theorem plays_any (o : OpT) (w0 w : World) (pb b rb N m : Nat) (K : Bk) (R : Rb) (hX : Box w pb #[.pointer (some ⟨b, 0, none⟩), .pointer (some ⟨rb, 0, none⟩)] 29) (hJ : PJ w0 w b rb N m K R) (hm : m ≤ 5000) (hnK : ¬ K.C b pb) (hnR : ¬ R.C rb pb) (hin : OpT.In w (fun k => k < w0.heap.size) o) (hs : OpSz o) :
    Calls Try.prog 10 #[.pointer (some ⟨pb, 0, none⟩), .agg #[.int .i64 o.kind, .int .i64 o.which, .int .i64 o.port, .int .i64 o.id, .string o.r.key, .int .i64 o.r.v.kind, .int .i64 o.r.v.int, .string o.r.v.text, .slice o.r.v.p o.r.v.n o.r.v.c, .slice o.r.p o.r.n o.r.c, .slice o.a.p o.a.n o.a.c, .slice o.q.p o.q.n o.q.c, .int .i64 o.num, .slice o.l.p o.l.n o.l.c]] w fun e w' => PlaysP w0 w b rb N m K R e w' := by
  by_cases h1 : o.kind = 1
  · exact plays_took o w0 w pb b rb N m K R hX hJ hm hnK hnR hin hs h1
  by_cases h2 : o.kind = 2
  · exact plays_mark o w0 w pb b rb N m K R hX hJ hm hnK hnR hin hs h2
  by_cases h3 : o.kind = 3
  · exact plays_part o w0 w pb b rb N m K R hX hJ hm hnK hnR hin hs h3
  by_cases h4 : o.kind = 4
  · exact plays_held o w0 w pb b rb N m K R hX hJ hm hnK hnR hin hs h4
  by_cases h5 : o.kind = 5
  · exact plays_now o w0 w pb b rb N m K R hX hJ hm hnK hnR hin hs h5
  exact plays_other o w0 w pb b rb N m K R hX hJ hm hnK hnR hin hs ⟨h1, h2, h3, h4, h5⟩
end Go.Proofs.Ytdncnnjhfipokab
