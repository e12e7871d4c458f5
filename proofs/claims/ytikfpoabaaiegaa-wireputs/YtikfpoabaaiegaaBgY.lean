import Derived.Test.YtikfpoabaaiegaaPack29
import Derived.Test.YtikfpoabaaiegaaBgL
import Derived.Test.YtikfpoabaaiegaaPack11
import Derived.Test.YtikfpoabaaiegaaPack9
import Derived.Deep.RegionLaw
import Derived.Deep.DeepCutAuto
namespace Go.Proofs.Ytikfpoabaaiegaa
open Go.RowKit
set_option maxRecDepth 8000
/-- the bag beside a block of a variable -/
structure BB (w0 : World) (rb : Nat) (w : World) (q : Nat) (cs : Array Value) (ty : TypeId) (a b c : Value) (N : List Int) (K : List ByteArray) (V : List VT) : Prop where
  g : BG w0 rb w a b c N K V
  box : Box w q cs ty
  qa : a.ownBlock ≠ some q
  qb : b.ownBlock ≠ some q
  qc : c.ownBlock ≠ some q
  lt : rb < q
theorem BB.new {w0 : World} {rb : Nat} {w : World} {a b c : Value} {N : List Int} {K : List ByteArray} {V : List VT} (h : BG w0 rb w a b c N K V) (cs : Array Value) (ty : TypeId) : BB w0 rb (w.alloc (.cells cs ty)) w.heap.size cs ty a b c N K V :=
  ⟨h.kept ((Below.refl _ _).alloc (Nat.le_refl _) _), Box.new _ _ _, fun e => by have := (h.oN.lt _ e).2; omega, fun e => by have := (h.oK.lt _ e).2; omega, fun e => by have := (h.oV.lt _ e).2; omega, h.box.lt⟩
theorem BB.kept {w0 : World} {rb : Nat} {w w2 : World} {q : Nat} {cs : Array Value} {ty : TypeId} {a b c : Value} {N : List Int} {K : List ByteArray} {V : List VT} (h : BB w0 rb w q cs ty a b c N K V) (hb : Below w.heap.size w w2) : BB w0 rb w2 q cs ty a b c N K V :=
  ⟨h.g.kept hb, h.box.below hb, h.qa, h.qb, h.qc, h.lt⟩
theorem BB.nums {w0 : World} {rb : Nat} {w w3 : World} {q : Nat} {cs : Array Value} {ty : TypeId} {a a' b c : Value} {N M : List Int} {K : List ByteArray} {V : List VT} (h : BB w0 rb w q cs ty a b c N K V)
    (ho : w3.ownsRow (rb + 1) 3 1 a' (N.length + M.length) (intC N ++ intC M)) (hg : w.grownBy w3 a.ownBlock) (hn : Near w a a') : BB w0 rb (w3.setCell ⟨rb, 0, none⟩ a') q cs ty a' b c (N ++ M) K V :=
  ⟨h.g.nums ho hg hn, (h.box.kept (hg.block q h.box.lt fun e => h.qa e.symm)).but ((But.one w3 rb).setAt 0 _) (by have := h.lt; omega), near_ne hn h.qa h.box.lt, h.qb, h.qc, h.lt⟩
theorem BB.keys {w0 : World} {rb : Nat} {w w3 : World} {q : Nat} {cs : Array Value} {ty : TypeId} {a b b' c : Value} {N : List Int} {K M : List ByteArray} {V : List VT} (h : BB w0 rb w q cs ty a b c N K V)
    (ho : w3.ownsRow (rb + 1) 9 1 b' (K.length + M.length) (strC K ++ strC M)) (hg : w.grownBy w3 b.ownBlock) (hn : Near w b b') : BB w0 rb (w3.setCell ⟨rb, 1, none⟩ b') q cs ty a b' c N (K ++ M) V :=
  ⟨h.g.keys ho hg hn, (h.box.kept (hg.block q h.box.lt fun e => h.qb e.symm)).but ((But.one w3 rb).setAt 1 _) (by have := h.lt; omega), h.qa, near_ne hn h.qb h.box.lt, h.qc, h.lt⟩
theorem BB.vals {w0 : World} {rb : Nat} {w w3 : World} {q : Nat} {cs : Array Value} {ty : TypeId} {a b c c' : Value} {N : List Int} {K : List ByteArray} {V M : List VT} (h : BB w0 rb w q cs ty a b c N K V)
    (ho : w3.ownsRow (rb + 1) 24 4 c' (V.length + M.length) (valC V ++ valC M)) (hg : w.grownBy w3 c.ownBlock) (hn : Near w c c') : BB w0 rb (w3.setCell ⟨rb, 2, none⟩ c') q cs ty a b c' N K (V ++ M) :=
  ⟨h.g.vals ho hg hn, (h.box.kept (hg.block q h.box.lt fun e => h.qc e.symm)).but ((But.one w3 rb).setAt 2 _) (by have := h.lt; omega), h.qa, h.qb, near_ne hn h.qc h.box.lt, h.lt⟩
set_option maxHeartbeats 4000000 in
theorem addRecord_any {w0 : World} {rb : Nat} {w : World} {N : List Int} {K : List ByteArray} {V : List VT} (h : BGx w0 rb w N K V) (r : RT) {S : Nat → Prop} (hin : RT.In w0 S r) (hS : ∀ q, S q → q < rb) (hr : r.n ≤ 3) (hN : N.length ≤ 1000000) (hK : K.length ≤ 1000000) (hV : V.length ≤ 1000000) :
    Calls Try.prog 51 #[.pointer (some ⟨rb, 0, none⟩), r.val] w fun x w' => x = .returned (.tuple #[]) ∧ BGx w0 rb w' (N ++ recN r) (K ++ [r.key]) (V ++ [r.v]) := by
  obtain ⟨a, b, c, h⟩ := h
  obtain ⟨iI, KdI⟩ := kindI
  obtain ⟨iS, KdS⟩ := kindSt
  obtain ⟨iV, KdV⟩ := kindV
  have HKI := hid KdI
  have HKS := hid KdS
  have HKV := hid KdV
  have h1 := BB.new h #[.string r.key, .int .i64 r.v.kind, .int .i64 r.v.int, .string r.v.text, .slice r.v.p r.v.n r.v.c, .slice r.p r.n r.c] 27
  obtain ⟨R, hR⟩ : ∃ R, R = Obj.cells #[.string r.key, .int .i64 r.v.kind, .int .i64 r.v.int, .string r.v.text, .slice r.v.p r.v.n r.v.c, .slice r.p r.n r.c] 27 := ⟨_, rfl⟩
  rw [← hR] at h1
  have hws : (w.alloc R).heap.size = w.heap.size + 1 := by simp
  obtain ⟨q, hq⟩ : ∃ q, q = w.heap.size := ⟨_, rfl⟩
  have HIn := hid hin
  have HS := hid hS
  unfold RT.val
  clear KdI KdS KdV h hin hS
  go_enter Try.func51, Try.ntmps51
  go_wp2_with fail
  rw [← hR]
  rw [← hq] at h1 hws ⊢
  clear hR hq
  generalize w.alloc R = W1 at *
  go_cut [] (fun wx => ∃ a b c, BB w0 rb wx q #[.string r.key, .int .i64 r.v.kind, .int .i64 r.v.int, .string r.v.text, .slice r.v.p r.v.n r.v.c, .slice r.p r.n r.c] 27 a b c N (K ++ [r.key]) V)
  case first =>
    obtain ⟨pb, cb, rfl⟩ := ownsRow_slice h1.g.oK
    have hlt := h1.lt
    have r0 := h1.box.cell 0
    have x1 := h1.g.box.cell 1
    simp at r0 x1
    have hal : Below W1.heap.size W1 ((W1.alloc (.cells #[.string r.key] 9)).drew) := ((Below.refl _ _).alloc (Nat.le_refl _) _).drew
    have H1 := hid (h1.kept hal)
    have HNw := hid (new_one W1 (.string r.key) 9 (q + 1) hws.symm)
    clear h1 hal
    go_region_law (refine step_app rfl (.tmp 8) (.tmp 11) 32 9 iS _ 1 16 HKS.out rfl (rb + 1) _ K.length (strC K) rfl H1.out.g.oK ⟨q + 1, 0, none⟩ 1 1 [.string r.key] rfl rfl HNw.out (one_str _) (by omega) (by omega) (by simp; omega) ?_
                   intro v3 w3 ho3 hg3 hn3
                   obtain ⟨p3, c3, rfl⟩ := ownsRow_slice ho3
                   have hx3 := H1.out.g.boxK hg3
                   have y1 := hx3.cell 1
                   have g1 := hx3.frozen 1
                   simp at y1)
    all_goals go_wp2_with fail
    all_goals go_meet
    all_goals exact ⟨_, _, _, H1.out.keys (M := [r.key]) ho3 hg3 hn3⟩
  case rest =>
    obtain ⟨a2, b2, c2, h2⟩ := hcut
    clear h1 hws
    have hws := h2.g.box.lt
    obtain ⟨K2, hK2⟩ : ∃ K2, K2 = K ++ [r.key] := ⟨_, rfl⟩
    rw [← hK2] at h2
    have HK2 := hid hK2
    clear hK2
    go_wp2_with fail
    go_cut [] (fun wx => ∃ a b c, BB w0 rb wx q #[.string r.key, .int .i64 r.v.kind, .int .i64 r.v.int, .string r.v.text, .slice r.v.p r.v.n r.v.c, .slice r.p r.n r.c] 27 a b c N K2 (V ++ [r.v]))
    case first =>
      obtain ⟨pc, cc, rfl⟩ := ownsRow_slice h2.g.oV
      have hlt := h2.lt
      have r1 := h2.box.cell 1
      have r2 := h2.box.cell 2
      have r3 := h2.box.cell 3
      have r4 := h2.box.cell 4
      have x2 := h2.g.box.cell 2
      simp at r1 r2 r3 r4 x2
      have hal : Below wc.heap.size wc ((wc.alloc (.cells #[.int .i64 0, .int .i64 0, .string ⟨#[]⟩, .slice none 0 0] 24)).drew) := ((Below.refl _ _).alloc (Nat.le_refl _) _).drew
      have hkz := h2.kept (w2 := wc.alloc (.cells #[.int .i64 0, .int .i64 0, .string ⟨#[]⟩, .slice none 0 0] 24)) ((Below.refl _ _).alloc (Nat.le_refl _) _)
      have s1 := hkz.box.cell 1
      have s2 := hkz.box.cell 2
      have s3 := hkz.box.cell 3
      have s4 := hkz.box.cell 4
      have z2 := hkz.g.box.cell 2
      simp at s1 s2 s3 s4 z2
      clear hkz
      have H1 := hid (h2.kept hal)
      have HNw := hid (news4 wc (.int .i64 0) (.int .i64 0) (.string ⟨#[]⟩) (.slice none 0 0) 24)
      have HVl : Hid ((valC V).length = V.length * 4) := valC_len V
      clear h2 hal
      go_region_law (refine step_app rfl (.tmp 18) (.tmp 22) 22 24 iV _ 4 56 HKV.out rfl (rb + 1) _ V.length (valC V) rfl H1.out.g.oV ⟨wc.heap.size, 0, none⟩ 1 1 [.int .i64 0, .int .i64 0, .string ⟨#[]⟩, .slice none 0 0] rfl rfl HNw.out one_zero (by omega) (by omega) (by simp; omega) ?_
                     intro v3 w3 ho3 hg3 hn3
                     obtain ⟨g3, c3, rfl⟩ := own_some ho3 (by omega)
                     have HO3 := hid ho3
                     have hst := stored4 ho3 HVl.out (.int .i64 r.v.kind) (.int .i64 r.v.int) (.string r.v.text) (.slice r.v.p r.v.n r.v.c)
                     have hgr : g3 ≠ rb := by have := (ho3.lt g3 rfl).1; omega
                     have hrg : rb ≠ g3 := by omega
                     have hl1 : (V.length : Int) < (V.length : Int) + 1 := by omega
                     have fz := ho3.frozenAt
                     have k0 : w3.cell? ⟨g3, V.length * 4, none⟩ = some (.int .i64 0) := last4 ho3 HVl.out 0 _ rfl
                     have k1 : w3.cell? ⟨g3, V.length * 4 + 1, none⟩ = some (.int .i64 0) := last4 ho3 HVl.out 1 _ rfl
                     have k2 : w3.cell? ⟨g3, V.length * 4 + 2, none⟩ = some (.string ⟨#[]⟩) := last4 ho3 HVl.out 2 _ rfl
                     have k3 : w3.cell? ⟨g3, V.length * 4 + 3, none⟩ = some (.slice none 0 0) := last4 ho3 HVl.out 3 _ rfl
                     have hx3 := H1.out.g.boxV hg3
                     have y1 := hx3.cell 2
                     have g1 := hx3.frozen 2
                     simp at y1)
      all_goals go_wp2_with fail
      all_goals go_meet
      all_goals
        have P := H1.out.vals (M := [r.v]) (by rw [show valC [r.v] = r.v.cells by simp [valC]]; exact hst) (grown_but hg3 hn3 rfl (But.setFour w3 g3 (V.length * 4) (.int .i64 r.v.kind) (.int .i64 r.v.int) (.string r.v.text) (.slice r.v.p r.v.n r.v.c))) hn3
        try rw [head_first w3 hgr]
        exact ⟨_, _, _, P⟩
    case rest =>
      obtain ⟨a3, b3, c3, h3⟩ := hcut
      clear h2
      obtain ⟨V2, hV2⟩ : ∃ V2, V2 = V ++ [r.v] := ⟨_, rfl⟩
      rw [← hV2] at h3
      have HV2 := hid hV2
      clear hV2
      go_wp2_with fail
      go_cut [] (fun wx => ∃ a b c, BB w0 rb wx q #[.string r.key, .int .i64 r.v.kind, .int .i64 r.v.int, .string r.v.text, .slice r.v.p r.v.n r.v.c, .slice r.p r.n r.c] 27 a b c (N ++ [(r.n : Int)]) K2 V2)
      case first =>
        obtain ⟨pa, ca, rfl⟩ := ownsRow_slice h3.g.oN
        have hlt := h3.lt
        have hwc := h3.g.box.lt
        have z0 := (h3.g.kept (w2 := wc.alloc (.cells #[.int .i64 (r.n : Int)] 3)) ((Below.refl _ _).alloc (Nat.le_refl _) _)).box.cell 0
        simp at z0
        have r5 := h3.box.cell 5
        have x0 := h3.g.box.cell 0
        simp at r5 x0
        have hal : Below wc.heap.size wc ((wc.alloc (.cells #[.int .i64 (r.n : Int)] 3)).drew) := ((Below.refl _ _).alloc (Nat.le_refl _) _).drew
        have H1 := hid (h3.kept hal)
        have HNw := hid (new_one wc (.int .i64 (r.n : Int)) 3 wc.heap.size rfl)
        clear h3 hal
        go_region_law (refine step_app rfl (.tmp 31) (.tmp 35) 25 3 iI _ 1 8 HKI.out rfl (rb + 1) _ N.length (intC N) rfl H1.out.g.oN ⟨wc.heap.size, 0, none⟩ 1 1 [.int .i64 (r.n : Int)] rfl rfl HNw.out (one_int _) (by omega) (by omega) (by simp; omega) ?_
                       intro v3 w3 ho3 hg3 hn3
                       obtain ⟨p3, c3, rfl⟩ := ownsRow_slice ho3
                       have hx3 := H1.out.g.boxN hg3
                       have y1 := hx3.cell 0
                       have g1 := hx3.frozen 0
                       simp at y1)
        all_goals go_wp2_with fail
        all_goals go_meet
        all_goals exact ⟨_, _, _, H1.out.nums (M := [(r.n : Int)]) ho3 hg3 hn3⟩
      case rest =>
        obtain ⟨a4, b4, c4, h4⟩ := hcut
        clear h3
        have hN2 : (N ++ [(r.n : Int)]).length ≤ 1000001 := by simp; omega
        have HE : Hid (N ++ recN r = (N ++ [(r.n : Int)]) ++ (List.range r.n).map r.loop) := by unfold Hid recN; simp
        generalize N ++ [(r.n : Int)] = N2 at *
        obtain ⟨pa, ca, rfl⟩ := ownsRow_slice h4.g.oN
        have hlt := h4.lt
        have hwc := h4.g.box.lt
        have r5 := h4.box.cell 5
        have x0 := h4.g.box.cell 0
        simp at r5 x0
        have H1 := hid (h4.kept (w2 := wc.drew) (Below.refl _ _).drew)
        have HSr : Hid (Src wc.drew r.p r.n r.c 1 (intC ((List.range r.n).map r.loop))) := by
          have hi := (HIn.out.kept (w' := wc.drew) (Nat.le_trans (h4.g.below.size) (Nat.le_refl _)) (fun b hb _ => h4.g.below.block b (HS.out b hb))).l.src
          unfold Hid intC
          rw [List.map_map]
          exact hi
        clear h4
        go_wp2_with fail
        go_region_law (refine step_appS rfl (.tmp 43) (.tmp 45) 25 3 iI _ 1 8 HKI.out rfl (rb + 1) _ N2.length (intC N2) rfl H1.out.g.oN r.p r.n r.c (intC ((List.range r.n).map r.loop)) rfl HSr.out (one_ints _) (by omega) (by omega) (by simp; omega) ?_
                       intro v3 w3 ho3 hg3 hn3
                       obtain ⟨p3, c3, rfl⟩ := ownsRow_slice ho3
                       have hx3 := H1.out.g.boxN hg3
                       have y1 := hx3.cell 0
                       have g1 := hx3.frozen 0
                       simp at y1)
        all_goals
          have HP := hid (H1.out.nums (M := (List.range r.n).map r.loop) (by rw [List.length_map, List.length_range]; exact ho3) hg3 hn3)
          clear hx3 y1 g1 ho3 hg3 hn3 H1
          go_wp2
          exact bodyPost_end (results_none rfl _ _ _) rfl ⟨rfl, _, _, _, by rw [HE.out, ← HK2.out, ← HV2.out]; exact HP.out.g⟩
end Go.Proofs.Ytikfpoabaaiegaa
