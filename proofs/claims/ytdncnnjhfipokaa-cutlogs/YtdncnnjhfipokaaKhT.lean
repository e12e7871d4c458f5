import Derived.Test.YtdncnnjhfipokaaKhSc00
import Derived.Test.YtdncnnjhfipokaaKhSc01
import Derived.Test.YtdncnnjhfipokaaKhSc10
import Derived.Test.YtdncnnjhfipokaaKhSc11
import Derived.Test.YtdncnnjhfipokaaKhSd00
import Derived.Test.YtdncnnjhfipokaaKhSd01
import Derived.Test.YtdncnnjhfipokaaKhSd10
import Derived.Test.YtdncnnjhfipokaaKhSd11
import Derived.Test.YtdncnnjhfipokaaKhS
namespace Go.Proofs.Ytdncnnjhfipokaa
open Go.RowKit
set_option maxRecDepth 8000
set_option maxHeartbeats 1000000 in
theorem sees_any (o : OpT) (x : Bool) (mode : Int) (i : Nat) (hi : i < 4) (hpi : o.port = (i : Int)) (w : World) (S : Nat → Prop) (vb : Nat) (V : Vw) (hV : VwI w vb V) (hS : ∀ k, S k → ¬ V.C vb k) (hin : OpT.In w S o) (hs : OpSz o) (hnl0 : (V.lg i).n ≤ 1000000000) :
    Calls Try.prog 21 #[.pointer (some ⟨vb, 0, none⟩), .agg #[.int .i64 o.kind, .int .i64 o.which, .int .i64 o.port, .int .i64 o.id, .string o.r.key, .int .i64 o.r.v.kind, .int .i64 o.r.v.int, .string o.r.v.text, .slice o.r.v.p o.r.v.n o.r.v.c, .slice o.r.p o.r.n o.r.c, .slice o.a.p o.a.n o.a.c, .slice o.q.p o.q.n o.q.c, .int .i64 o.num, .slice o.l.p o.l.n o.l.c], .bool x, .int .i64 mode] w fun e w' => e = .returned (.tuple #[]) ∧ ∃ V', SeesQ o x mode i w vb V w' V' := by
  rcases (by omega : o.id < V.id ∨ o.id = V.id ∨ V.id < o.id) with h | h | h
  · exact seesA o x mode i hi hpi w S vb V hV hS hin hs hnl0 h
  · rcases hc : V.cd i with _ | _
    · by_cases hm : mode = 3
      · cases x
        · exact sees_c01 o mode i hi hpi w S vb V hV hS hin hs hnl0 h hc hm
        · exact sees_c11 o mode i hi hpi w S vb V hV hS hin hs hnl0 h hc hm
      · cases x
        · exact sees_c00 o mode i hi hpi w S vb V hV hS hin hs hnl0 h hc hm
        · exact sees_c10 o mode i hi hpi w S vb V hV hS hin hs hnl0 h hc hm
    · exact seesB o x mode i hi hpi w S vb V hV hS hin hs hnl0 h hc
  · by_cases hm : mode = 3
    · cases x
      · exact sees_d01 o mode i hi hpi w S vb V hV hS hin hs hnl0 h hm
      · exact sees_d11 o mode i hi hpi w S vb V hV hS hin hs hnl0 h hm
    · cases x
      · exact sees_d00 o mode i hi hpi w S vb V hV hS hin hs hnl0 h hm
      · exact sees_d10 o mode i hi hpi w S vb V hV hS hin hs hnl0 h hm
end Go.Proofs.Ytdncnnjhfipokaa
