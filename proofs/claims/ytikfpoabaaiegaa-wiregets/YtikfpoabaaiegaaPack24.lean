import Derived.Test.YtikfpoabaaiegaaPack23
import Derived.Test.YtikfpoabaaiegaaPack0
import Derived.Test.YtikfpoabaaiegaaPack15
import Derived.Laws.OwnMore
import Derived.Test.YtikfpoabaaiegaaPack7
namespace Go.Proofs.Ytikfpoabaaiegaa
open Go.RowKit
set_option maxRecDepth 8000

def Whole : VT → Prop
  | .nil => False
  | .mk _ _ _ n _ _ f => ∀ j, j < n → Whole (f j)
structure PAt (w : World) (b o : Nat) (q : PT) : Prop where
  c0 : w.cell? ⟨b, o, none⟩ = some (.int .i64 q.kind)
  c1 : w.cell? ⟨b, o + 1, none⟩ = some (.int .i64 q.int)
  c2 : w.cell? ⟨b, o + 2, none⟩ = some (.string q.text)
  c3 : w.cell? ⟨b, o + 3, none⟩ = some (.int .i64 q.n)
theorem PAt.kept {w w' : World} {b o : Nat} {t : PT} (h : PAt w b o t) (hb : w'.heap[b]? = w.heap[b]?) : PAt w' b o t :=
  ⟨(World.cell?_of_block (a := ⟨b, o, none⟩) hb).trans h.c0, (World.cell?_of_block (a := ⟨b, o + 1, none⟩) hb).trans h.c1, (World.cell?_of_block (a := ⟨b, o + 2, none⟩) hb).trans h.c2, (World.cell?_of_block (a := ⟨b, o + 3, none⟩) hb).trans h.c3⟩
structure Pts (w : World) (b o : Nat) (L : List PT) : Prop where
  lt : b < w.heap.size
  at_ : ∀ j q, L[j]? = some q → PAt w b (o + j * 4) q
theorem Pts.below {w w' : World} {b o : Nat} {L : List PT} (h : Pts w b o L) (hb : Below w.heap.size w w') : Pts w' b o L :=
  ⟨Nat.lt_of_lt_of_le h.lt hb.size, fun j q hq => (h.at_ j q hq).kept (hb.block b h.lt)⟩
structure PTOk (q : PT) : Prop where
  k0 : 0 ≤ q.kind
  k1 : q.kind ≤ 3
  i0 : -9223372036854775808 ≤ q.int
  i1 : q.int ≤ 9223372036854775807
  s : q.text.size ≤ 24
  m : q.n ≤ 6
theorem flatN_split (f : Nat → VT) : ∀ n j, j < n → ∃ r, flatN f n = flatN f j ++ (flatP (f j) ++ r) := by
  intro n
  induction n with
  | zero => intro j h; omega
  | succ n ih =>
    intro j hj
    rw [flatN_succ]
    by_cases h : j < n
    · obtain ⟨r, hr⟩ := ih j h
      exact ⟨r ++ flatP (f n), by rw [hr]; simp⟩
    · obtain rfl : j = n := by omega
      exact ⟨[], by simp⟩
theorem flatP_some (t : VT) : 0 < (flatP t).length := by
  cases t with
  | nil => simp [flatP]
  | mk => simp [flatP_eq]
theorem drop_at {L l post : List PT} {i : Nat} {q : PT} (h : L.drop i = q :: l ++ post) : L[i]? = some q := by
  have := congrArg (fun x => x[0]?) h
  simpa using this
theorem drop_item {L post : List PT} {i n j : Nat} {q : PT} {f : Nat → VT} (h : L.drop i = q :: flatN f n ++ post) (hj : j < n) : ∃ r, L.drop (i + 1 + (flatN f j).length) = flatP (f j) ++ r := by
  obtain ⟨r, hr⟩ := flatN_split f n j hj
  refine ⟨r ++ post, ?_⟩
  have h2 : L.drop (i + 1 + (flatN f j).length) = (L.drop i).drop (1 + (flatN f j).length) := by rw [List.drop_drop, Nat.add_assoc]
  rw [h2, h, hr, Nat.add_comm 1]
  simp
theorem drop_lt {L l : List PT} {i : Nat} {t : VT} (h : L.drop i = flatP t ++ l) : i + (flatP t).length ≤ L.length ∧ i < L.length := by
  have h1 := congrArg List.length h
  have h2 := flatP_some t
  simp only [List.length_drop, List.length_append] at h1
  omega
theorem item_push {B : Nat} {wo wr w2 w3 : World} {v2 v3 : Value} {q : Nat} {f g2 : Nat → VT} {u : VT} {k i : Int} {s : ByteArray} (hO2 : OwnV (B + 2) wr v2 q g2) (hal : ∀ z, z < q → VT.Alike (f z) (g2 z)) (hC2 : Box wr (B + 1) #[.int .i64 k, .int .i64 i, .string s, v2] 24) (hC0 : Box wr B #[.int .i64 0, .int .i64 0, .string ⟨#[]⟩, .slice none 0 0] 24) (hbel2 : Below B wo wr)
    (hk3 : Below wr.heap.size wr w2) (hin4 : VT.In w2 (fun b => wr.heap.size ≤ b) u) (hau : VT.Alike (f q) u) (ho3 : w3.ownsRow (B + 2) 24 4 v3 (q + 1) (((List.range q).flatMap fun j => (g2 j).cells) ++ u.cells))
    {wa : World} (ha : Below w2.heap.size w2 wa) (hg3 : wa.grownBy w3 v2.ownBlock) (hn3 : Near wa v2 v3) :
    OwnV (B + 2) (w3.setCell ⟨B + 1, 3, none⟩ v3) v3 (q + 1) (fun z => if z < q then g2 z else u) ∧ (∀ z, z < q + 1 → VT.Alike (f z) (if z < q then g2 z else u)) ∧ Box (w3.setCell ⟨B + 1, 3, none⟩ v3) (B + 1) #[.int .i64 k, .int .i64 i, .string s, v3] 24 ∧ Box (w3.setCell ⟨B + 1, 3, none⟩ v3) B #[.int .i64 0, .int .i64 0, .string ⟨#[]⟩, .slice none 0 0] 24 ∧ Below B wo (w3.setCell ⟨B + 1, 3, none⟩ v3) := by
  have hCl := hC2.lt
  have hs3 := hk3.size
  have hs2 := hbel2.size
  have hsa := ha.size
  have hu : VT.In w2 (fun b => B + 2 ≤ b ∧ v2.ownBlock ≠ some b) u := hin4.mono fun b hb hl => ⟨by omega, fun e => by have := (hO2.own.lt b e).2; omega⟩
  have hO3 := ((hO2.below hk3).below ha).push (hu.below ha) ho3 hg3 hn3
  have key : ∀ b x, b < B + 2 → Box wr b x 24 → Box w3 b x 24 := fun b x hb hx => ((hx.below hk3).below ha).kept (hg3.block _ (by have := hx.lt; omega) (fun e => by have := (hO2.own.lt _ e.symm).1; omega))
  have hC3 := key _ _ (by omega) hC2
  have hC4 := hC3.set 3 v3
  refine ⟨hO3.keep (by simp [World.setCell]) fun k hk _ => Below.heap_setCell _ _ _ _ (show k ≠ B + 1 by omega), fun z hz => ?_, by simpa using hC4, (key _ _ (by omega) hC0).kept (Below.heap_setCell _ _ _ _ (show B ≠ B + 1 by omega)), ?_⟩
  · by_cases h : z < q
    · rw [if_pos h]; exact hal z h
    · rw [if_neg h]
      obtain rfl : z = q := by omega
      exact hau
  · have h1 : Below B wo w3 := ((hbel2.trans (hk3.mono (by omega))).trans (ha.mono (by omega))).grown hg3 (by omega) (fun k hk => by have := (hO2.own.lt k hk).1; omega)
    exact h1.trans (((But.one w3 (B + 1)).setAt 3 v3).below (by have := hC3.lt; omega) (fun x hx => by omega))
end Go.Proofs.Ytikfpoabaaiegaa

namespace Go.Proofs.Ytikfpoabaaiegaa
open Go.RowKit
set_option maxRecDepth 8000
set_option maxHeartbeats 2000000 in
theorem build_any (t : VT) : ∀ (w : World) (pb o c i : Nat) (L post : List PT), Whole t → Pts w pb o L → (∀ q ∈ L, PTOk q) → L.length ≤ 12 → L.drop i = flatP t ++ post →
    Calls Try.prog 155 #[.slice (some ⟨pb, o, none⟩) L.length c, .int .i64 (i : Int)] w fun e w' => ∃ u : VT, e = .returned (.tuple #[u.val, .int .i64 ((i : Int) + ((flatP t).length : Int))]) ∧ VT.Alike t u ∧ VT.In w' (fun b => w.heap.size ≤ b) u ∧ Below w.heap.size w w' := by
  induction t with
  | nil => intro w pb o c i L post hw; exact hw.elim
  | mk k i0 s n p c0 f ih =>
    intro w pb o c i L post hw hP hok hL hd
    rw [flatP_eq] at hd
    have hi := drop_at hd
    have HOk := hid (hok _ (List.mem_of_getElem? hi))
    obtain ⟨hk0, hk1, hi0, hi1, hs1, hm1⟩ := HOk.out
    simp only at hk0 hk1 hi0 hi1 hs1 hm1
    have hlt : i + (1 + (flatN f n).length) ≤ L.length := by
      have := (drop_lt (t := .mk k i0 s n p c0 f) (by rw [flatP_eq]; exact hd)).1
      rw [flatP_eq] at this
      simp only [List.length_cons] at this
      unfold flatN
      omega
    obtain ⟨z0, z1, z2, z3⟩ := hP.at_ i _ hi
    simp only at z0 z1 z2 z3
    have hpl := hP.lt
    have hpn : pb ≠ w.heap.size := by omega
    have hpn1 : pb ≠ w.heap.size + 1 := by omega
    have hiL : (i : Int) < (L.length : Int) := by omega
    have HIt : Hid (∀ j, j < n → ∀ W : World, Below w.heap.size w W → Calls Try.prog 155 #[.slice (some ⟨pb, o, none⟩) L.length c, .int .i64 ((i : Int) + 1 + ((flatN f j).length : Int))] W fun e w' => ∃ u : VT, e = .returned (.tuple #[u.val, .int .i64 ((i : Int) + 1 + ((flatN f (j + 1)).length : Int))]) ∧ VT.Alike (f j) u ∧ VT.In w' (fun b => W.heap.size ≤ b) u ∧ Below W.heap.size W w') := by
      intro j hj W hW
      obtain ⟨r, hr⟩ := drop_item hd hj
      have h5 := ih j W pb o c (i + 1 + (flatN f j).length) L r (hw j hj) (hP.below hW) hok hL hr
      rw [show ((i + 1 + (flatN f j).length : Nat) : Int) = (i : Int) + 1 + ((flatN f j).length : Int) by omega] at h5
      rw [show (i : Int) + 1 + ((flatN f (j + 1)).length : Int) = (i : Int) + 1 + ((flatN f j).length : Int) + ((flatP (f j)).length : Int) by rw [flatN_succ, List.length_append]; omega]
      exact h5
    have HLt : Hid (∀ j, j < n → i + 1 + (flatN f j).length < L.length) := by
      intro j hj
      obtain ⟨r, hr⟩ := drop_item hd hj
      exact (drop_lt hr).2
    have HLe : Hid (∀ W : World, Below w.heap.size w W → PAt W pb (o + i * 4) ⟨k, i0, s, n⟩) := fun W hW => (hP.below hW).at_ i _ hi
    have HPo : Hid (((i : Int) + ((flatP (.mk k i0 s n p c0 f)).length : Int)) = (i : Int) + 1 + ((flatN f n).length : Int)) := by
      unfold Hid
      rw [flatP_eq]
      simp only [List.length_cons, flatN]
      omega
    rw [HPo.out]
    clear hok hd hP hi ih HPo
    go_enter Try.func155, Try.ntmps155
    go_wp2_with fail
    go_region
    have hS0 : Box (w.alloc (.cells #[.int .i64 0, .int .i64 0, .string ⟨#[]⟩, .slice none 0 0] 24)) w.heap.size #[.int .i64 0, .int .i64 0, .string ⟨#[]⟩, .slice none 0 0] 24 := Box.new _ _ _
    have hS1 := Box.new (w.alloc (.cells #[.int .i64 0, .int .i64 0, .string ⟨#[]⟩, .slice none 0 0] 24)) #[.int .i64 k, .int .i64 i0, .string s, .slice none 0 0] 24
    rw [show (w.alloc (.cells #[.int .i64 0, .int .i64 0, .string ⟨#[]⟩, .slice none 0 0] 24)).heap.size = w.heap.size + 1 by simp] at hS1
    have hS01 := hS0.below ((Below.refl _ _).alloc (Nat.le_refl _) (.cells #[.int .i64 k, .int .i64 i0, .string s, .slice none 0 0] 24))
    have hSb : Below w.heap.size w ((w.alloc (.cells #[.int .i64 0, .int .i64 0, .string ⟨#[]⟩, .slice none 0 0] 24)).alloc (.cells #[.int .i64 k, .int .i64 i0, .string s, .slice none 0 0] 24)) := ((Below.refl _ _).alloc (Nat.le_refl _) _).alloc (by simp) _
    have HS1 := hid (hS1.below (Below.refl _ _).drew)
    have HS0 := hid (hS01.below (Below.refl _ _).drew)
    have HSb := hid hSb.drew
    clear hS0 hS1 hS01 hSb
    generalize ((w.alloc (.cells #[.int .i64 0, .int .i64 0, .string ⟨#[]⟩, .slice none 0 0] 24)).alloc (.cells #[.int .i64 k, .int .i64 i0, .string s, .slice none 0 0] 24)).drew = w0 at HS0 HS1 HSb ⊢
    clear z0 z1 z2 z3
    obtain ⟨i1, Kd⟩ := kindV
    go_wp2_with fail
    go_loopw [7, 8] (fun x y wr => ∃ (j : Nat) (g : Nat → VT) (v : Value), j ≤ n ∧ x = .int .i64 ((i : Int) + 1 + ((flatN f j).length : Int)) ∧ y = .int .i64 (j : Int) ∧ OwnV (w.heap.size + 2) wr v j g ∧ (∀ q, q < j → VT.Alike (f q) (g q)) ∧ Box wr (w.heap.size + 1) #[.int .i64 k, .int .i64 i0, .string s, v] 24 ∧
        Box wr w.heap.size #[.int .i64 0, .int .i64 0, .string ⟨#[]⟩, .slice none 0 0] 24 ∧ Below w.heap.size w wr) (fun _ y _ => n - (intOf y).toNat)
    case atStart => exact ⟨0, f, .slice none 0 0, Nat.zero_le _, by simp [flatN], rfl, OwnV.nil _ _ _, fun q hq => absurd hq (by omega), HS1.out, HS0.out, HSb.out⟩
    case round =>
      obtain ⟨j, g, v, hj, rfl, rfl, hO, hal, hB1, hB0, hbel⟩ := hrel
      clear HS0 HS1 HSb
      obtain ⟨z0, z1, z2, z3⟩ := HLe.out _ hbel
      simp only at z0 z1 z2 z3
      by_cases hjn : j < n
      · have hjn' : (j : Int) < (n : Int) := by omega
        have hat := HLt.out j hjn
        have hat' : (i : Int) + 1 + ((flatN f j).length : Int) < (L.length : Int) := by omega
        have HC := hid (HIt.out j hjn _ hbel)
        have HAl : Hid (∀ q, q < j → VT.Alike (f q) (g q)) := hal
        go_wp2_with (go_at_call 155; refine HC.out.mono ?_)
        rintro e w2 ⟨u, rfl, hal2, hin2, hb2⟩
        obtain ⟨k', i', s', n', p', c', f', rfl⟩ := hin2.mk_
        have hB12 := hB1.below hb2
        have hO2 := hO.below hb2
        have hsz2 := hb2.size
        have hl1 := hB1.lt
        have hR := hO2.own
        have y3 := (hB12.below ((Below.refl _ _).alloc (Nat.le_refl _) (.cells #[.int .i64 k', .int .i64 i', .string s', .slice p' n' c'] 24))).cell 3
        simp at y3
        have HX := hid (And.intro hO (And.intro hB1 (And.intro hB0 (And.intro hbel (And.intro hb2 (And.intro hin2 hal2))))))
        have hl2 : w.heap.size + 1 < w2.heap.size := by omega
        clear HC hO hB1 hB0 hbel hb2 hin2 hal2 hB12 hO2 hal z0 z1 z2 z3
        simp only [VT.val, VT.kind_mk, VT.int_mk, VT.text_mk, VT.p_mk, VT.n_mk, VT.c_mk]
        go_wp2_with (at_builtin; refine wpList_app rfl (.tmp 51) (.tmp 53) 22 24 i1 _ 4 56 Kd rfl (w.heap.size + 2) v j _ rfl ((hR.alloc _).alloc _) ⟨w2.heap.size + 1, 0, none⟩ 1 1 [.int .i64 k', .int .i64 i', .string s', .slice p' n' c'] rfl rfl ?_ ?_ ?_ ?_ ?_ ?_)
        · have h := news4 (w2.alloc (.cells #[.int .i64 k', .int .i64 i', .string s', .slice p' n' c'] 24)) (.int .i64 k') (.int .i64 i') (.string s') (.slice p' n' c') 24
          rw [show (w2.alloc (.cells #[.int .i64 k', .int .i64 i', .string s', .slice p' n' c'] 24)).heap.size = w2.heap.size + 1 by simp] at h
          exact h
        · exact oneCell_cells (.mk k' i' s' n' p' c' f')
        · omega
        · omega
        · simp; omega
        · intro v3 w3 ho3 hg3 hn3
          obtain ⟨p4, c4, rfl⟩ := ownsRow_slice ho3
          obtain ⟨hO, hB1, hB0, hbel, hb2, hin2, hal2⟩ := HX.out
          have HP := hid (item_push (f := f) hO HAl.out hB1 hB0 hbel hb2 hin2 hal2 ho3 (((Below.refl _ _).alloc (Nat.le_refl _) _).alloc (by simp) _) hg3 hn3)
          have hbx3 := (((hB1.below hb2).below (((Below.refl _ _).alloc (Nat.le_refl _) _).alloc (by simp) _)).kept (hg3.block _ (by simp; omega) (fun e => by have := (hO.own.lt _ e.symm).1; omega)))
          have hf3 := hbx3.frozen 3
          have hc3 := hbx3.cell 3
          simp at hc3
          clear hbx3
          clear HX hO hB1 hB0 hbel hb2 hin2 hal2 ho3 hg3 hn3 hR y3 HAl
          go_wp2
          go_roundw
          case rel => exact ⟨j + 1, _, _, by omega, rfl, by go_num, HP.out.1, HP.out.2.1, HP.out.2.2.1, HP.out.2.2.2.1, HP.out.2.2.2.2⟩
          case measure => simp [intOf]; omega
      · obtain rfl : j = n := by omega
        obtain ⟨p3, c3, hv, h1, h2, h3, h4, h5⟩ := hO.in_
        have HL : Hid (VT.Alike (.mk k i0 s j p c0 f) (.mk k i0 s j p3 c3 g) ∧ VT.In wr (fun b => w.heap.size + 2 ≤ b) (.mk k i0 s j p3 c3 g)) :=
          ⟨⟨rfl, rfl, rfl, rfl, hal⟩, ⟨⟨by simp only [VT.kind]; omega, by simp only [VT.kind]; omega, hi0, hi1, by simp only [VT.text]; omega, h1, by simp only [VT.n]; omega, h2, h3⟩, h4, h5⟩⟩
        subst hv
        have b0 := hB1.cell 0
        have b1 := hB1.cell 1
        have b2 := hB1.cell 2
        have b3 := hB1.cell 3
        have g0 := hB0.frozen 0
        have g1 := hB0.frozen 1
        have g2 := hB0.frozen 2
        have g3 := hB0.frozen 3
        have d0 := hB0.cell 0
        have d1 := hB0.cell 1
        have d2 := hB0.cell 2
        have d3 := hB0.cell 3
        have hl0 := hB1.lt
        simp at b0 b1 b2 b3 d0 d1 d2 d3
        clear h4 h5 hO hal
        go_wp2
        have hk : But (fun x => x = w.heap.size) wr ((((wr.setCell ⟨w.heap.size, 0, none⟩ (.int .i64 k)).setCell ⟨w.heap.size, 1, none⟩ (.int .i64 i0)).setCell ⟨w.heap.size, 2, none⟩ (.string s)).setCell ⟨w.heap.size, 3, none⟩ (.slice p3 j c3)) :=
          ((((But.one _ w.heap.size).setAt 0 _).setAt 1 _).setAt 2 _).setAt 3 _
        refine bodyPost_ret (v := .tuple #[.agg #[.int .i64 k, .int .i64 i0, .string s, .slice p3 j c3], .int .i64 ((i : Int) + 1 + ((flatN f j).length : Int))]) (by simp [results, Try.results155, go_sem, d0, d1, d2, d3]) rfl ⟨.mk k i0 s j p3 c3 g, rfl, HL.out.1, ?_, ?_⟩
        · exact (HL.out.2.but hk (fun b hb _ => by omega)).mono fun b hb _ => by omega
        · exact hbel.trans (hk.below (by omega) (fun x hx => by omega))
end Go.Proofs.Ytikfpoabaaiegaa

namespace Go.Proofs.Ytikfpoabaaiegaa
open Go.RowKit
set_option maxRecDepth 8000

theorem kindIc : ∃ i, Kind 25 3 i (.int .i64 0) 1 8 := by
  obtain ⟨i0, hi, hz0, hz1, hz2⟩ := info_parts (show (Try.prog.info? 3).map (fun i => (i.zero, i.size, i.bytes)) = some (some (.int .i64 0), 1, 8) by kernel_rfl)
  exact ⟨i0, Try.underlying25, hi, hz0, hz1, hz2, rfl, by decide⟩

end Go.Proofs.Ytikfpoabaaiegaa

namespace Go.Proofs.Ytikfpoabaaiegaa
open Go.RowKit
set_option maxRecDepth 8000

theorem whole_mkL {l : List VT} (h : ∀ v ∈ l, Whole v) : Whole (mkL l) := by
  intro j hj
  have : l.getD j .nil = l[j] := by simp [List.getD_eq_getElem?_getD, hj]
  show Whole (l.getD j .nil)
  rw [this]
  exact h _ (List.getElem_mem hj)
theorem itemsS_whole {g : Nat → Nat → DR} (hg : ∀ a q v a' q', g a q = .ok (v, a', q') → Whole v) : ∀ m a q l a' q', itemsS g m a q = .ok (l, a', q') → ∀ v ∈ l, Whole v := by
  intro m
  induction m with
  | zero => intro a q l a' q' h v hv; simp only [itemsS, Except.ok.injEq, Prod.mk.injEq] at h; obtain ⟨rfl, _⟩ := h; cases hv
  | succ m ih =>
    intro a q l a' q' h
    rw [itemsS] at h
    split at h
    · cases h
    · rename_i l1 a1 q1 h1
      split at h
      · cases h
      · rename_i v a2 q2 h2
        simp only [Except.ok.injEq, Prod.mk.injEq] at h
        obtain ⟨rfl, rfl, rfl⟩ := h
        intro x hx
        rcases List.mem_append.1 hx with hx | hx
        · exact ih _ _ _ _ _ h1 x hx
        · rw [List.mem_singleton.1 hx]; exact hg _ _ _ _ _ h2
theorem leaf_whole (k i : Int) (s : ByteArray) : Whole (.mk k i s 0 none 0 (fun _ => .nil)) := fun j hj => absurd hj (by omega)
theorem partS_whole {f : Nat → Int} {n : Nat} {g : Nat → Nat → DR} (hg : ∀ a q v a' q', g a q = .ok (v, a', q') → Whole v) {d a q a' q' : Nat} {v : VT} (h : partS f n g d a q = .ok (v, a', q')) : Whole v := by
  unfold partS at h
  split at h
  · cases h
  split at h
  · cases h
  split at h
  · cases h
  split at h
  · cases h
  split at h
  · simp only [Except.ok.injEq, Prod.mk.injEq] at h; rw [← h.1]; exact leaf_whole _ _ _
  split at h
  · split at h
    · cases h
    · simp only [Except.ok.injEq, Prod.mk.injEq] at h; rw [← h.1]; exact leaf_whole _ _ _
  split at h
  · cases h
  split at h
  · split at h
    · cases h
    split at h
    · cases h
    · simp only [Except.ok.injEq, Prod.mk.injEq] at h; rw [← h.1]; exact leaf_whole _ _ _
  split at h
  · cases h
  split at h
  · cases h
  · rename_i l a2 q2 h2
    simp only [Except.ok.injEq, Prod.mk.injEq] at h
    rw [← h.1]
    exact whole_mkL (itemsS_whole hg _ _ _ _ _ _ h2)
theorem decS_whole {f : Nat → Int} {n : Nat} : ∀ (k d a q : Nat) (v : VT) (a' q' : Nat), decS f n k d a q = .ok (v, a', q') → Whole v := by
  intro k
  induction k with
  | zero => intro d a q v a' q' h; exact partS_whole (fun _ _ _ _ _ h => by cases h) h
  | succ k ih => intro d a q v a' q' h; exact partS_whole (fun a q v a' q' h => ih _ _ _ _ _ _ h) h
theorem head_err {f : Nat → Int} {n e : Nat} (h : headS f n [] 0 0 = .error e) : decS f n 3 0 0 0 = .error e := by
  unfold headS at h
  simp only [List.length_nil, Nat.sub_zero] at h
  cases hd : decS f n 3 0 0 0 with
  | error e2 => rw [hd] at h; simp only [Except.error.injEq] at h; rw [h]
  | ok t => rw [hd] at h; simp only [remU, ahead] at h; cases h
theorem head_ok {f : Nat → Int} {n a q : Nat} {L : List PT} (h : headS f n [] 0 0 = .ok (L, a, q)) : ∃ v, decS f n 3 0 0 0 = .ok (v, a, q) ∧ flatP v = L ∧ Whole v := by
  unfold headS at h
  simp only [List.length_nil, Nat.sub_zero] at h
  cases hd : decS f n 3 0 0 0 with
  | error e2 => rw [hd] at h; cases h
  | ok t =>
    obtain ⟨v, a', q'⟩ := t
    rw [hd] at h
    simp only [remU, ahead, List.append_nil, Except.ok.injEq, Prod.mk.injEq] at h
    obtain ⟨rfl, rfl, rfl⟩ := h
    exact ⟨v, rfl, rfl, decS_whole _ _ _ _ _ _ _ hd⟩
def stC (st : List Nat) : List Value := st.reverse.map fun c : Nat => Value.int .i64 (c : Int)
theorem stC_len (st : List Nat) : (stC st).length = st.length := by simp [stC]
theorem stC_cons (c : Nat) (st : List Nat) : stC (c :: st) = stC st ++ [.int .i64 (c : Int)] := by simp [stC]
theorem owns_some {w : World} {base n : Nat} {e : TypeId} {size : Nat} {v : Value} {xs : List Value} (h : w.ownsRow base e size v n xs) (hn : 0 < n) : ∃ g cap, v = .slice (some ⟨g, 0, none⟩) n cap ∧ n ≤ cap := by
  obtain ⟨_, ⟨hv, h0⟩ | ⟨g, cap, cur, hv, _, _, hnc, _⟩⟩ := h
  · omega
  · exact ⟨g, cap, hv, hnc⟩
structure Mach (w0 : World) (B : Nat) (wr : World) (v5 v6 : Value) (L : List PT) (st : List Nat) : Prop where
  own : wr.ownsRow (B + 1) 204 4 v5 L.length (ptCells L)
  stk : wr.ownsRow (B + 1) 3 1 v6 st.length (stC st)
  apart : ∀ g, v5.ownBlock = some g → v6.ownBlock ≠ some g
  box : Box wr B #[.int .i64 0, .int .i64 0, .string ⟨#[]⟩, .slice none 0 0] 24
  below : Below B w0 wr
  ok : ∀ q ∈ L, PTOk q
  len : L.length ≤ 12
  dep : st.length ≤ 3
  pos : ∀ c ∈ st, 0 < c ∧ c ≤ 6
theorem Mach.kept {w0 : World} {B : Nat} {wr w2 : World} {v5 v6 : Value} {L : List PT} {st : List Nat} (h : Mach w0 B wr v5 v6 L st) (hb : Below wr.heap.size wr w2) : Mach w0 B w2 v5 v6 L st :=
  ⟨ownsRow_keep h.own (fun k _ hl => hb.block k hl), ownsRow_keep h.stk (fun k _ hl => hb.block k hl), h.apart, h.box.below hb, h.below.trans (hb.mono (by have := h.box.lt; omega)), h.ok, h.len, h.dep, h.pos⟩
theorem Mach.part {w0 : World} {B : Nat} {wr w3 : World} {v5 v5' v6 : Value} {L : List PT} {st : List Nat} {q : PT} (h : Mach w0 B wr v5 v6 L st) (hq : PTOk q) (hl : L.length < 12)
    (ho : w3.ownsRow (B + 1) 204 4 v5' (L.length + 1) (ptCells L ++ q.cells)) (hg : wr.grownBy w3 v5.ownBlock) (hn : Near wr v5 v5') : Mach w0 B w3 v5' v6 (L ++ [q]) st := by
  have hbl := h.box.lt
  have k1 : ∀ g, v6.ownBlock = some g → g < wr.heap.size → w3.heap[g]? = wr.heap[g]? := fun g hg6 hl => hg.block g hl fun e => h.apart g e.symm hg6
  refine ⟨?_, ownsRow_keep h.stk k1, ?_, h.box.kept (hg.block _ h.box.lt fun e => by have := (h.own.lt _ e.symm).1; omega), h.below.grown hg (by omega) fun k hk => (by have := (h.own.lt k hk).1; omega), ?_, ?_, h.dep, h.pos⟩
  · rw [show (L ++ [q]).length = L.length + 1 by simp, show ptCells (L ++ [q]) = ptCells L ++ q.cells by simp [ptCells]]
    exact ho
  · intro g hg5 hg6
    rcases hn with e | e
    · exact h.apart g (e ▸ hg5) hg6
    · have h1 := e g hg5
      have h2 := (h.stk.lt g hg6).2
      omega
  · intro x hx
    rcases List.mem_append.1 hx with hx | hx
    · exact h.ok x hx
    · rw [List.mem_singleton.1 hx]; exact hq
  · simp; omega
theorem Mach.push {w0 : World} {B : Nat} {wr w3 : World} {v5 v6 v6' : Value} {L : List PT} {st : List Nat} {m : Nat} (h : Mach w0 B wr v5 v6 L st) (h0 : 0 < m) (h6 : m ≤ 6) (hd : st.length ≤ 2)
    (ho : w3.ownsRow (B + 1) 3 1 v6' (st.length + 1) (stC st ++ [.int .i64 (m : Int)])) (hg : wr.grownBy w3 v6.ownBlock) (hn : Near wr v6 v6') : Mach w0 B w3 v5 v6' L (m :: st) := by
  have hbl := h.box.lt
  have k1 : ∀ g, v5.ownBlock = some g → g < wr.heap.size → w3.heap[g]? = wr.heap[g]? := fun g hg5 hl => hg.block g hl fun e => h.apart g hg5 e.symm
  refine ⟨ownsRow_keep h.own k1, ?_, ?_, h.box.kept (hg.block _ h.box.lt fun e => by have := (h.stk.lt _ e.symm).1; omega), h.below.grown hg (by omega) fun k hk => (by have := (h.stk.lt k hk).1; omega), h.ok, h.len, ?_, ?_⟩
  · rw [stC_cons]
    exact ho
  · intro g hg5 hg6
    rcases hn with e | e
    · exact h.apart g hg5 (e ▸ hg6)
    · have h1 := e g hg6
      have h2 := (h.own.lt g hg5).2
      omega
  · simp only [List.length_cons]; omega
  · intro x hx
    rcases List.mem_cons.1 hx with rfl | hx
    · exact ⟨h0, h6⟩
    · exact h.pos x hx
theorem Mach.dec {w0 : World} {B : Nat} {wr : World} {v5 : Value} {g cap : Nat} {L : List PT} {st : List Nat} {c : Nat} (h : Mach w0 B wr v5 (.slice (some ⟨g, 0, none⟩) (st.length + 1) cap) L ((c + 2) :: st)) :
    Mach w0 B (wr.setCell ⟨g, st.length, none⟩ (.int .i64 ((c : Int) + 1))) v5 (.slice (some ⟨g, 0, none⟩) (st.length + 1) cap) L ((c + 1) :: st) := by
  have hs := h.stk.stored st.length (.int .i64 ((c : Int) + 1))
  have hbl := h.box.lt
  have hg1 := h.stk.lt g rfl
  have hk : But (fun x => x = g) wr (wr.setCell ⟨g, st.length, none⟩ (.int .i64 ((c : Int) + 1))) := (But.one _ g).setAt _ _
  refine ⟨ownsRow_keep h.own (fun k hk2 hl => hk.block k hl fun e => h.apart k hk2 (by rw [e]; rfl)), ?_, h.apart, h.box.but hk (by omega), h.below.trans (hk.below (by omega) (fun x hx => by omega)), h.ok, h.len, h.dep, ?_⟩
  · have e : (stC ((c + 2) :: st)).set st.length (.int .i64 ((c : Int) + 1)) = stC ((c + 1) :: st) := by
      rw [stC_cons, stC_cons, List.set_append_right _ _ (by rw [stC_len]; exact Nat.le_refl _), stC_len]
      simp
    have h1 := hs.1
    rw [e] at h1
    exact h1
  · intro x hx
    rcases List.mem_cons.1 hx with rfl | hx
    · have := h.pos (c + 2) (List.mem_cons_self ..); omega
    · exact h.pos x (List.mem_cons_of_mem _ hx)
theorem Mach.pop {w0 : World} {B : Nat} {wr : World} {v5 : Value} {g cap : Nat} {L : List PT} {st : List Nat} {c : Nat} {x : Value} (h : Mach w0 B wr v5 (.slice (some ⟨g, 0, none⟩) (st.length + 1) cap) L (c :: st)) :
    Mach w0 B (wr.setCell ⟨g, st.length, none⟩ x) v5 (.slice (some ⟨g, 0, none⟩) st.length cap) L st := by
  have hs := h.stk.stored st.length x
  have hbl := h.box.lt
  have hg1 := h.stk.lt g rfl
  have hk : But (fun x => x = g) wr (wr.setCell ⟨g, st.length, none⟩ x) := (But.one _ g).setAt _ _
  refine ⟨ownsRow_keep h.own (fun k hk2 hl => hk.block k hl fun e => h.apart k hk2 (by rw [e]; rfl)), ?_, fun k hk2 e => h.apart k hk2 (by rw [← e]; rfl), h.box.but hk (by omega), h.below.trans (hk.below (by omega) (fun x hx => by omega)), h.ok, h.len, ?_, fun c hc => h.pos c (List.mem_cons_of_mem _ hc)⟩
  · have e : (stC (c :: st)).set st.length x = stC st ++ [x] := by
      rw [stC_cons, List.set_append_right _ _ (by rw [stC_len]; exact Nat.le_refl _), stC_len]
      simp
    have h1 := hs.1
    rw [e] at h1
    refine ⟨by rw [stC_len]; omega, .inr ?_⟩
    obtain ⟨_, ⟨hv, h0⟩ | ⟨g', cap', cur, hv, hbg, hh, hnc, hcm, hcs, htake⟩⟩ := h1
    · cases hv
    · simp only [Value.slice.injEq, Option.some.injEq, Addr.mk.injEq, and_true, true_and] at hv
      obtain ⟨rfl, rfl⟩ := hv
      refine ⟨g, cap, cur, rfl, hbg, hh, by omega, hcm, hcs, ?_⟩
      have h2 := congrArg (List.take (st.length * 1)) htake
      rw [List.take_take, show min (st.length * 1) ((st.length + 1) * 1) = st.length * 1 by omega, List.take_append_of_le_length (by rw [stC_len]; omega)] at h2
      rw [h2]
      exact List.take_of_length_le (by rw [stC_len]; omega)
  · have := h.dep; simp only [List.length_cons] at this; omega
theorem Mach.top {w0 : World} {B : Nat} {wr : World} {v5 v6 : Value} {L : List PT} {st : List Nat} {c : Nat} (h : Mach w0 B wr v5 v6 L (c :: st)) : ∃ g cap, v6 = .slice (some ⟨g, 0, none⟩) (st.length + 1) cap ∧ wr.cell? ⟨g, st.length, none⟩ = some (.int .i64 (c : Int)) ∧ wr.frozen? ⟨g, st.length, none⟩ = false ∧ st.length + 1 ≤ cap ∧ g ≠ B := by
  obtain ⟨g, cap, hv, hnc⟩ := owns_some h.stk (by simp)
  subst hv
  refine ⟨g, cap, rfl, ?_, h.stk.frozenAt _, hnc, by have := (h.stk.lt g rfl).1; omega⟩
  · have h1 := h.stk.cellAt st.length (by simp)
    rw [stC_cons, List.getElem?_append_right (by rw [stC_len]; exact Nat.le_refl _), stC_len] at h1
    simpa using h1
theorem pts_get : ∀ (L : List PT) (j r : Nat) (q : PT), L[j]? = some q → r < 4 → (ptCells L)[j * 4 + r]? = q.cells[r]? := by
  intro L
  induction L with
  | nil => intro j r q h; simp at h
  | cons x L ih =>
    intro j r q h hr
    have e : ptCells (x :: L) = x.cells ++ ptCells L := by simp [ptCells]
    have e4 : x.cells.length = 4 := rfl
    cases j with
    | zero =>
      simp only [List.getElem?_cons_zero, Option.some.injEq] at h
      subst h
      rw [e, List.getElem?_append_left (by rw [e4]; omega)]
      simp
    | succ j =>
      simp only [List.getElem?_cons_succ] at h
      rw [e, List.getElem?_append_right (by rw [e4]; omega), e4, show (j + 1) * 4 + r - 4 = j * 4 + r by omega]
      exact ih j r q h hr
theorem Mach.pts {w0 : World} {B : Nat} {wr : World} {v5 v6 : Value} {L : List PT} {st : List Nat} (h : Mach w0 B wr v5 v6 L st) (hL : 0 < L.length) : ∃ g cap, v5 = .slice (some ⟨g, 0, none⟩) L.length cap ∧ Pts wr g 0 L := by
  obtain ⟨g, cap, hv, _⟩ := owns_some h.own hL
  refine ⟨g, cap, hv, (h.own.lt g (by rw [hv]; rfl)).2, fun j q hq => ?_⟩
  have hc := h.own.cells (g := g) (by rw [hv]; rfl)
  have k : ∀ r u, r < 4 → q.cells[r]? = some u → wr.cell? ⟨g, 0 + j * 4 + r, none⟩ = some u := by
    intro r u hr hu
    have := hc (j * 4 + r) u (by rw [pts_get L j r q hq hr]; exact hu)
    rw [Go.WideShapes.add_plain] at this
    rw [show 0 + j * 4 + r = 0 + (j * 4 + r) by omega]
    exact this
  exact ⟨k 0 _ (by omega) rfl, k 1 _ (by omega) rfl, k 2 _ (by omega) rfl, k 3 _ (by omega) rfl⟩
end Go.Proofs.Ytikfpoabaaiegaa

namespace Go.Proofs.Ytikfpoabaaiegaa
open Go.RowKit
set_option maxRecDepth 8000
def sliceLen : Value → Nat
  | .slice _ n _ => n
  | _ => 0
theorem dec_bad {w wr : World} {v5 v6 : Value} {L : List PT} {st : List Nat} {R : DR} {e : Nat} (hM : Mach w w.heap.size wr v5 v6 L st) (hR : R = .error e) :
    DecPost w R (.returned (.tuple #[.agg #[.int .i64 0, .int .i64 0, .string ⟨#[]⟩, .slice none 0 0], .int .i64 0, .int .i64 (e : Int)])) ((((wr.setCell ⟨w.heap.size, 0, none⟩ (.int .i64 0)).setCell ⟨w.heap.size, 1, none⟩ (.int .i64 0)).setCell ⟨w.heap.size, 2, none⟩ (.string ⟨#[]⟩)).setCell ⟨w.heap.size, 3, none⟩ (.slice none 0 0)) := by
  refine ⟨fun t a q h => (by rw [hR] at h; cases h), fun e2 h => ?_⟩
  rw [hR] at h
  cases h
  have hk : But (fun x => x = w.heap.size) wr ((((wr.setCell ⟨w.heap.size, 0, none⟩ (.int .i64 0)).setCell ⟨w.heap.size, 1, none⟩ (.int .i64 0)).setCell ⟨w.heap.size, 2, none⟩ (.string ⟨#[]⟩)).setCell ⟨w.heap.size, 3, none⟩ (.slice none 0 0)) :=
    ((((But.one _ w.heap.size).setAt 0 _).setAt 1 _).setAt 2 _).setAt 3 _
  exact ⟨rfl, hM.below.trans (hk.below (by have := hM.box.lt; omega) (fun x hx => by omega))⟩
set_option maxHeartbeats 4000000 in
theorem refDecode_any (p : Option Addr) (n c : Nat) (f : Nat → Int) (S : Nat → Prop) (w : World) (hY : Byts w S p n c f) (hS : ∀ b, S b → b < w.heap.size) :
    Calls Try.prog 140 #[.slice p n c] w fun x w' => DecPost w (decS f n 3 0 0 0) x w' := by
  have hnn := hY.nn
  have HPart : Hid (∀ (W : World), Below w.heap.size w W → ∀ (a d : Nat), a < n → d ≤ 3 → Calls Try.prog 154 #[.slice p n c, .int .i64 (a : Int), .int .i64 (d : Int)] W fun x w' => RPPost W a (rpS f n d a) x w') :=
    fun W hW a d ha hd => refPart_any p n c a d W S f (hY.kept hW.size fun b hb _ => hW.block b (hS b hb)) (fun b hb => Nat.lt_of_lt_of_le (hS b hb) hW.size) ha hd
  have HE : Hid (∀ e : Nat, headS f n [] 0 0 = .error e → decS f n 3 0 0 0 = .error e) := fun e h => head_err h
  have HK : Hid (∀ L a q, headS f n [] 0 0 = .ok (L, a, q) → ∃ v, decS f n 3 0 0 0 = .ok (v, a, q) ∧ flatP v = L ∧ Whole v) := fun L a q h => head_ok h
  obtain ⟨R, hR⟩ : ∃ R, R = decS f n 3 0 0 0 := ⟨_, rfl⟩
  rw [← hR] at HE HK ⊢
  obtain ⟨T, hT0⟩ : ∃ T, T = headS f n [] 0 0 := ⟨_, rfl⟩
  rw [← hT0] at HE HK
  have HT0 := hid hT0
  obtain ⟨i0, KdP⟩ := kindP
  obtain ⟨i1, KdI⟩ := kindIc
  clear hY hS hR hT0
  go_enter Try.func140, Try.ntmps140
  go_wp2_with fail
  have HS0 : Hid (Mach w w.heap.size (w.alloc (.cells #[.int .i64 0, .int .i64 0, .string ⟨#[]⟩, .slice none 0 0] 24)) (.slice none 0 0) (.slice none 0 0) [] []) :=
    ⟨World.ownsRow_nil _ _ _ _, World.ownsRow_nil _ _ _ _, fun g h => (by cases h), Box.new _ _ _, (Below.refl _ _).alloc (Nat.le_refl _) _, fun q h => (by cases h), by simp, by simp, fun c h => (by cases h)⟩
  go_loopw [5, 6, 7] (fun x y z wr => ∃ (L : List PT) (st : List Nat) (a : Nat), z = .int .i64 (a : Int) ∧ a ≤ n ∧ Mach w w.heap.size wr x y L st ∧ T = ahead L (headS f n st a L.length)) (fun x _ _ _ => 12 - sliceLen x)
  case atStart => exact ⟨[], [], 0, rfl, Nat.zero_le _, HS0.out, by rw [ahead_nil]; exact HT0.out⟩
  case round =>
    obtain ⟨L, st, a, rfl, ha, hM, hT⟩ := hrel
    clear HS0 HT0
    obtain ⟨p5, c5, rfl⟩ := ownsRow_slice hM.own
    obtain ⟨p6, c6, rfl⟩ := ownsRow_slice hM.stk
    have hlen := hM.len
    have hdep := hM.dep
    have HM := hid hM
    have HT := hid hT
    have b0 := hM.box.cell 0
    have b1 := hM.box.cell 1
    have b2 := hM.box.cell 2
    have b3 := hM.box.cell 3
    have g0 := hM.box.frozen 0
    have g1 := hM.box.frozen 1
    have g2 := hM.box.frozen 2
    have g3 := hM.box.frozen 3
    simp at b0 b1 b2 b3
    clear hM hT
    by_cases h1 : n ≤ a
    · have h1' : (n : Int) ≤ (a : Int) := by omega
      have HRe : Hid (R = .error 28) := HE.out 28 (by rw [HT.out, headS_end _ _ _ _ _ h1]; rfl)
      go_wp2
      refine bodyPost_ret (v := .tuple #[.agg #[.int .i64 0, .int .i64 0, .string ⟨#[]⟩, .slice none 0 0], .int .i64 0, .int .i64 28]) (by simp [results, Try.results140, go_sem, b0, b1, b2, b3]) rfl ?_
      exact dec_bad HM.out HRe.out
    · have h1' : ¬ (n : Int) ≤ (a : Int) := by omega
      by_cases h2 : L.length = 12
      · have h2' : (L.length : Int) = 12 := by omega
        have HRe : Hid (R = .error 22) := HE.out 22 (by rw [HT.out, headS_full _ _ _ _ _ (by omega) (by omega)]; rfl)
        go_wp2
        refine bodyPost_ret (v := .tuple #[.agg #[.int .i64 0, .int .i64 0, .string ⟨#[]⟩, .slice none 0 0], .int .i64 0, .int .i64 22]) (by simp [results, Try.results140, go_sem, b0, b1, b2, b3]) rfl ?_
        exact dec_bad HM.out HRe.out
      · have h2' : ¬ (L.length : Int) = 12 := by omega
        have HC := hid (HPart.out _ HM.out.below a st.length (by omega) hdep)
        go_wp2_with (go_at_call 154; refine HC.out.mono ?_)
        intro x5 w5 hP5
        obtain ⟨hb5, hok5, her5⟩ := hP5
        have HM5 := hid (HM.out.kept hb5)
        clear b0 b1 b2 b3 g0 g1 g2 g3 HC
        have b0 := HM5.out.box.cell 0
        have b1 := HM5.out.box.cell 1
        have b2 := HM5.out.box.cell 2
        have b3 := HM5.out.box.cell 3
        have g0 := HM5.out.box.frozen 0
        have g1 := HM5.out.box.frozen 1
        have g2 := HM5.out.box.frozen 2
        have g3 := HM5.out.box.frozen 3
        have hl5 := HM5.out.box.lt
        simp at b0 b1 b2 b3
        cases hrp : rpS f n st.length a with
        | error e =>
          obtain ⟨k5, i5, s5, m5, z5, rfl⟩ := her5 e hrp
          have he0 : ¬ ((e : Nat) : Int) = 0 := by
            have := rpS_errs hrp
            omega
          have HRe : Hid (R = .error e) := HE.out e (by rw [HT.out, headS_err (by omega) (by omega) hdep hrp]; rfl)
          have HM6 := hid (HM5.out.kept ((Below.refl _ _).alloc (Nat.le_refl _) (.cells #[.int .i64 k5, .int .i64 i5, .string s5, .int .i64 m5] 204)))
          clear hok5 her5 hrp hb5
          go_wp2
          have hk5 : But (fun x => x = w.heap.size) w5 ((((w5.setCell ⟨w.heap.size, 0, none⟩ (.int .i64 0)).setCell ⟨w.heap.size, 1, none⟩ (.int .i64 0)).setCell ⟨w.heap.size, 2, none⟩ (.string ⟨#[]⟩)).setCell ⟨w.heap.size, 3, none⟩ (.slice none 0 0)) :=
            ((((But.one _ w.heap.size).setAt 0 _).setAt 1 _).setAt 2 _).setAt 3 _
          have hx5 := setV_box HM5.out.box (.int .i64 0) (.int .i64 0) (.string ⟨#[]⟩) (.slice none 0 0)
          have hb5 : Below w.heap.size w ((((w5.setCell ⟨w.heap.size, 0, none⟩ (.int .i64 0)).setCell ⟨w.heap.size, 1, none⟩ (.int .i64 0)).setCell ⟨w.heap.size, 2, none⟩ (.string ⟨#[]⟩)).setCell ⟨w.heap.size, 3, none⟩ (.slice none 0 0)) := HM5.out.below.trans (hk5.below (by omega) (fun x hx => by omega))
          have hb6 := (Below.refl ((((w5.setCell ⟨w.heap.size, 0, none⟩ (.int .i64 0)).setCell ⟨w.heap.size, 1, none⟩ (.int .i64 0)).setCell ⟨w.heap.size, 2, none⟩ (.string ⟨#[]⟩)).setCell ⟨w.heap.size, 3, none⟩ (.slice none 0 0)).heap.size ((((w5.setCell ⟨w.heap.size, 0, none⟩ (.int .i64 0)).setCell ⟨w.heap.size, 1, none⟩ (.int .i64 0)).setCell ⟨w.heap.size, 2, none⟩ (.string ⟨#[]⟩)).setCell ⟨w.heap.size, 3, none⟩ (.slice none 0 0))).alloc (Nat.le_refl _) (.cells #[.int .i64 k5, .int .i64 i5, .string s5, .int .i64 m5] 204)
          have hx6 := hx5.below hb6
          have hb7 := hb5.trans (hb6.mono hb5.size)
          generalize ((((w5.setCell ⟨w.heap.size, 0, none⟩ (.int .i64 0)).setCell ⟨w.heap.size, 1, none⟩ (.int .i64 0)).setCell ⟨w.heap.size, 2, none⟩ (.string ⟨#[]⟩)).setCell ⟨w.heap.size, 3, none⟩ (.slice none 0 0)).alloc (.cells #[.int .i64 k5, .int .i64 i5, .string s5, .int .i64 m5] 204) = w6 at hx6 hb7 ⊢
          clear b0 b1 b2 b3
          have b0 := hx6.cell 0
          have b1 := hx6.cell 1
          have b2 := hx6.cell 2
          have b3 := hx6.cell 3
          simp at b0 b1 b2 b3
          refine bodyPost_ret (v := .tuple #[.agg #[.int .i64 0, .int .i64 0, .string ⟨#[]⟩, .slice none 0 0], .int .i64 0, .int .i64 (e : Int)]) (by simp [results, Try.results140, go_sem, b0, b1, b2, b3]) rfl ?_
          exact ⟨fun t a q h => (by rw [HRe.out] at h; cases h), fun e2 h => (by rw [HRe.out] at h; cases h; exact ⟨rfl, hb7⟩)⟩
        | ok qa =>
          obtain ⟨q, a1⟩ := qa
          obtain rfl := hok5 q a1 hrp
          have hq := rpS_ok hrp (by omega)
          have hqle := hq.le
          have hqlt := hq.lt
          have hqm := hq.m
          have HQ : Hid (PTOk q) := ⟨by rcases hq.k with h | h | h | h <;> omega, by rcases hq.k with h | h | h | h <;> omega, hq.i0, hq.i1, hq.s, hq.m⟩
          have hal : Below w5.heap.size w5 ((w5.alloc (.cells #[.int .i64 q.kind, .int .i64 q.int, .string q.text, .int .i64 (q.n : Int)] 204)).alloc (.cells #[.int .i64 q.kind, .int .i64 q.int, .string q.text, .int .i64 (q.n : Int)] 204)) := ((Below.refl _ _).alloc (Nat.le_refl _) _).alloc (by simp) _
          have HM6 := hid (HM5.out.kept hal)
          have HB8 := hid ((Box.new w5 #[.int .i64 q.kind, .int .i64 q.int, .string q.text, .int .i64 (q.n : Int)] 204).below ((Below.refl _ _).alloc (Nat.le_refl _) (.cells #[.int .i64 q.kind, .int .i64 q.int, .string q.text, .int .i64 (q.n : Int)] 204)))
          have hnews := news4 (w5.alloc (.cells #[.int .i64 q.kind, .int .i64 q.int, .string q.text, .int .i64 (q.n : Int)] 204)) (.int .i64 q.kind) (.int .i64 q.int) (.string q.text) (.int .i64 (q.n : Int)) 204
          rw [show (w5.alloc (.cells #[.int .i64 q.kind, .int .i64 q.int, .string q.text, .int .i64 (q.n : Int)] 204)).heap.size = w5.heap.size + 1 by simp] at hnews
          have HN := hid hnews
          have hown6 := HM6.out.own
          have HRp := hid hrp
          have hlL : L.length < 12 := by omega
          clear hok5 her5 hrp hb5 b0 b1 b2 b3 g0 g1 g2 g3 hq hal hnews HM
          go_wp2_with (at_builtin; refine wpList_app rfl (.tmp 35) (.tmp 37) 199 204 i0 _ 4 40 KdP rfl (w.heap.size + 1) (.slice p5 L.length c5) L.length (ptCells L) rfl hown6 ⟨w5.heap.size + 1, 0, none⟩ 1 1 [.int .i64 q.kind, .int .i64 q.int, .string q.text, .int .i64 (q.n : Int)] rfl rfl HN.out (oneCell_pt q) (by omega) (by omega) (by simp; omega) ?_)
          intro v6 w6 ho6 hg6 hn6
          obtain ⟨p7, c7, rfl⟩ := ownsRow_slice ho6
          have HM7 := hid (HM6.out.part HQ.out hlL ho6 hg6 hn6)
          have h83 := (HB8.out.kept (hg6.block w5.heap.size (by simp; omega) (fun e => by have h1 := (HM5.out.own.lt _ e.symm).2; omega))).cell 3
          simp at h83
          clear ho6 hg6 hn6 hown6 HM6 HM5 HB8 HN
          have hsum : (a : Int) + ((a1 : Int) - (a : Int)) = (a1 : Int) := by omega
          by_cases hq0 : 0 < q.n
          · have hq0' : (0 : Int) < (q.n : Int) := by omega
            have hps := headS_push (q := L.length) (by omega) hlL hdep HRp.out hq0
            have HT2 : Hid (T = ahead (L ++ [q]) (headS f n (q.n :: st) a1 (L ++ [q]).length)) := by
              unfold Hid
              rw [HT.out, hps.1, ahead_ahead]
              simp
            have hst2 := hps.2
            have hstk := (HM7.out.kept ((Below.refl _ _).alloc (Nat.le_refl _) (.cells #[.int .i64 (q.n : Int)] 3))).stk
            clear hps HT
            go_wp2_with (at_builtin; refine wpList_app rfl (.tmp 45) (.tmp 48) 25 3 i1 _ 1 8 KdI rfl (w.heap.size + 1) (.slice p6 st.length c6) st.length (stC st) rfl hstk ⟨w6.heap.size, 0, none⟩ 1 1 [.int .i64 (q.n : Int)] rfl rfl ?_ ?_ (by omega) (by omega) ?_ ?_)
            · intro j u h
              rw [cell_new, ← h]
              simp
            · intro u hu
              rw [List.mem_singleton.1 hu]
              rfl
            · have := HM7.out.box.lt
              simp
              omega
            · intro v8 w8 ho8 hg8 hn8
              obtain ⟨p9, c9, rfl⟩ := ownsRow_slice ho8
              have HM8 := hid ((HM7.out.kept ((Below.refl _ _).alloc (Nat.le_refl _) (.cells #[.int .i64 (q.n : Int)] 3))).push hq0 hqm hst2 ho8 hg8 hn8)
              clear ho8 hg8 hn8 hstk h83 HM7
              go_wp2
              go_roundw
              case rel => exact ⟨L ++ [q], q.n :: st, a1, by go_num, hqle, HM8.out, HT2.out⟩
              case measure => simp [sliceLen]; omega
          · have hq0' : ¬ (0 : Int) < (q.n : Int) := by omega
            have HT2 : Hid (T = ahead (L ++ [q]) (remU f n st a1 (L.length + 1))) := by
              unfold Hid
              rw [HT.out, headS_leaf (q := L.length) (by omega) hlL hdep HRp.out (by omega), ahead_ahead]
            clear HT
            go_wp2_with fail
            go_loopw [6] (fun y wr2 => ∃ st2, Mach w w.heap.size wr2 (.slice p7 (L.length + 1) c7) y (L ++ [q]) st2 ∧ T = ahead (L ++ [q]) (remU f n st2 a1 (L.length + 1))) (fun y _ => sliceLen y)
            case atStart => exact ⟨st, HM7.out, HT2.out⟩
            case round =>
              obtain ⟨st2, hM2, hT3⟩ := hrel
              clear HM7 HT2 h83
              cases st2 with
              | nil =>
                obtain ⟨p9, c9, hv9⟩ := ownsRow_slice hM2.stk
                simp only [List.length_nil] at hv9
                subst hv9
                have hT4 : T = .ok (L ++ [q], a1, L.length + 1) := by
                  rw [hT3, remU, ahead]
                  simp
                obtain ⟨v, hRv, hfl, hwh⟩ := HK.out _ _ _ hT4
                obtain ⟨gp, cp, hv5, hpts⟩ := hM2.pts (by simp)
                rw [show (L ++ [q]).length = L.length + 1 by simp] at hv5
                cases hv5
                have HC := hid (build_any v wr gp 0 c7 0 (L ++ [q]) [] hwh hpts hM2.ok hM2.len (by rw [hfl]; simp))
                rw [show (L ++ [q]).length = L.length + 1 by simp] at HC
                have HR := hid hRv
                have HM := hid hM2
                clear hT3 hT4 hM2 hpts hRv
                go_wp2_with (go_at_call 155; refine HC.out.mono ?_)
                rintro e w9 ⟨u, rfl, hau, hin, hb9⟩
                have HM9 := hid (HM.out.kept hb9)
                have b0 := HM9.out.box.cell 0
                have b1 := HM9.out.box.cell 1
                have b2 := HM9.out.box.cell 2
                have b3 := HM9.out.box.cell 3
                have g0 := HM9.out.box.frozen 0
                have g1 := HM9.out.box.frozen 1
                have g2 := HM9.out.box.frozen 2
                have g3 := HM9.out.box.frozen 3
                have hl9 := HM9.out.box.lt
                simp at b0 b1 b2 b3
                have hsz9 := hb9.size
                have hlr := HM.out.box.lt
                have HU := hid (And.intro hau hin)
                simp only [VT.val]
                clear hau hin hb9 HC HM
                go_wp2
                have hk9 : But (fun x => x = w.heap.size) w9 ((((w9.setCell ⟨w.heap.size, 0, none⟩ (.int .i64 u.kind)).setCell ⟨w.heap.size, 1, none⟩ (.int .i64 u.int)).setCell ⟨w.heap.size, 2, none⟩ (.string u.text)).setCell ⟨w.heap.size, 3, none⟩ (.slice u.p u.n u.c)) :=
                  ((((But.one _ w.heap.size).setAt 0 _).setAt 1 _).setAt 2 _).setAt 3 _
                have hx9 := setV_box HM9.out.box (.int .i64 u.kind) (.int .i64 u.int) (.string u.text) (.slice u.p u.n u.c)
                have hu9 := HU.out.2.but hk9 (fun b hb _ => by omega)
                have hb9 : Below w.heap.size w _ := HM9.out.below.trans (hk9.below (by omega) (fun x hx => by omega))
                generalize ((((w9.setCell ⟨w.heap.size, 0, none⟩ (.int .i64 u.kind)).setCell ⟨w.heap.size, 1, none⟩ (.int .i64 u.int)).setCell ⟨w.heap.size, 2, none⟩ (.string u.text)).setCell ⟨w.heap.size, 3, none⟩ (.slice u.p u.n u.c)) = wa at hx9 hu9 hb9 ⊢
                clear hk9
                have hb10 := (Below.refl wa.heap.size wa).alloc (Nat.le_refl _) (.cells #[.int .i64 u.kind, .int .i64 u.int, .string u.text, .slice u.p u.n u.c] 24)
                have hx10 := hx9.below hb10
                have hb11 := hb9.trans (hb10.mono hb9.size)
                have hu10 := hu9.below hb10
                generalize wa.alloc (.cells #[.int .i64 u.kind, .int .i64 u.int, .string u.text, .slice u.p u.n u.c] 24) = wb at hx10 hb11 hu10 ⊢
                clear b0 b1 b2 b3
                have b0 := hx10.cell 0
                have b1 := hx10.cell 1
                have b2 := hx10.cell 2
                have b3 := hx10.cell 3
                simp at b0 b1 b2 b3
                refine bodyPost_ret (v := .tuple #[.agg #[.int .i64 u.kind, .int .i64 u.int, .string u.text, .slice u.p u.n u.c], .int .i64 (a1 : Int), .int .i64 0]) (by simp [results, Try.results140, go_sem, b0, b1, b2, b3]) rfl ?_
                refine ⟨fun t a q h => ?_, fun e2 h => (by rw [HR.out] at h; cases h)⟩
                rw [HR.out] at h
                cases h
                exact ⟨u, rfl, HU.out.1, hu10.mono fun b hb _ => (by omega), hb11⟩
              | cons c2 st3 =>
                obtain ⟨g6, cap6, rfl, hc6, hf6, hcap, hgB⟩ := hM2.top
                have hp2 := hM2.pos c2 (List.mem_cons_self ..)
                have hst3 := hM2.dep
                simp only [List.length_cons] at hst3
                have HM := hid hM2
                have HT3 := hid hT3
                clear hM2 hT3
                by_cases hc2 : c2 = 1
                · subst hc2
                  go_wp2
                  go_roundw
                  case rel => exact ⟨st3, HM.out.pop, by rw [HT3.out, remU_one]⟩
                  case measure => simp [sliceLen]
                · obtain ⟨c3, rfl⟩ : ∃ c3, c2 = c3 + 2 := ⟨c2 - 2, by omega⟩
                  have hc3' : (0 : Int) < (c3 : Int) + 1 := by omega
                  have hcc : wr.cell? ⟨g6, st3.length, none⟩ = some (.int .i64 ((c3 : Int) + 2)) := by rw [hc6]; rfl
                  clear hc6
                  go_wp2
                  go_roundw
                  case rel => exact ⟨L ++ [q], (c3 + 1) :: st3, a1, by go_num, hqle, by rw [show (c3 : Int) + 2 - 1 = (c3 : Int) + 1 by omega]; exact HM.out.dec, by rw [HT3.out, remU_more]; simp⟩
                  case measure => simp [sliceLen]; omega
end Go.Proofs.Ytikfpoabaaiegaa
