import Derived.Test.YtdncnnjhfipokaaKiC
import Derived.Test.YtdncnnjhfipokaaKiD
namespace Go.Proofs.Ytdncnnjhfipokaa
open Go.RowKit
set_option maxRecDepth 8000
theorem copies_any (o : OpT) (mode : Int) (N : Nat) (back : Int) (i : Nat) (hi : i < 4) (hpi : o.port = (i : Int)) (hN : N ≤ 4) (w : World) (vb : Nat) (V : Vw) (hV : VwI w vb V) :
    Calls Try.prog 20 #[.pointer (some ⟨vb, 0, none⟩), .agg #[.int .i64 o.kind, .int .i64 o.which, .int .i64 o.port, .int .i64 o.id, .string o.r.key, .int .i64 o.r.v.kind, .int .i64 o.r.v.int, .string o.r.v.text, .slice o.r.v.p o.r.v.n o.r.v.c, .slice o.r.p o.r.n o.r.c, .slice o.a.p o.a.n o.a.c, .slice o.q.p o.q.n o.q.c, .int .i64 o.num, .slice o.l.p o.l.n o.l.c], .int .i64 mode, .int .i64 (N : Int), .int .i64 back] w fun e w' => e = .returned (.bool (V.copiesB o mode N back i)) ∧ Below w.heap.size w w' := by
  rcases (by omega : o.id < V.id ∨ o.id = V.id ∨ V.id < o.id) with h | h | h
  · exact copiesA o mode N back i hi hpi hN w vb V hV h
  · rcases hp : V.cp with _ | _
    · rcases hc : V.cd i with _ | _
      · by_cases hm : mode = 1
        · exact copies_c1 o mode N back i hi hpi hN w vb V hV h hp hc hm
        · exact copies_c0 o mode N back i hi hpi hN w vb V hV h hp hc hm
      · exact copiesB2 o mode N back i hi hpi hN w vb V hV h hp hc
    · exact copiesB1 o mode N back i hi hpi hN w vb V hV h hp
  · by_cases hm : mode = 1
    · exact copies_d1 o mode N back i hi hpi hN w vb V hV h hm
    · exact copies_d0 o mode N back i hi hpi hN w vb V hV h hm
end Go.Proofs.Ytdncnnjhfipokaa
