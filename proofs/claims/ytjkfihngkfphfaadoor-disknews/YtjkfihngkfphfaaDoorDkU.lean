import Derived.Test.YtjkfihngkfphfaaDoorDkT
import Derived.Test.YtjkfihngkfphfaaDoorApp2
import Derived.OwnWalkIn
import Derived.Shelf.Abstract
import Derived.Shelf.RegionOpen
import Derived.WalkKit
import Derived.LoopNIn
import Derived.LoopIn
import Derived.Laws.EntriesVeiled
namespace Go.Proofs.YtjkfihngkfphfaaDoor
open Go.RowKit
open Go.ChangeMaps (setBlock)
set_option maxRecDepth 8000
attribute [local go_sem] Oper.semAt_some
theorem own_low {base base' : Nat} {e : TypeId} {size n : Nat} {w : World} {v : Value} {xs : List Value} (h : w.ownsRow base e size v n xs) (hb : base' ≤ base) : w.ownsRow base' e size v n xs := by
  obtain ⟨h1, h2 | ⟨g, cap, cur, h3, h4, h5⟩⟩ := h
  · exact ⟨h1, .inl h2⟩
  · exact ⟨h1, .inr ⟨g, cap, cur, h3, Nat.le_trans hb h4, h5⟩⟩
theorem own_tag {W : World} {base : Nat} {e : TypeId} {size : Nat} {v : Value} {n : Nat} {xs : List Value} (h : W.ownsRow base e size v n xs) {g : Nat} (hg : v.ownBlock = some g) : ∃ cur, W.heap[g]? = some (.cells cur e (0, 0)) ∧ base ≤ g := by
  obtain ⟨_, ⟨hv, _⟩ | ⟨b, cap, cur, hv, hbg, hh, _⟩⟩ := h
  · rw [hv] at hg; simp [Value.ownBlock] at hg
  · rw [hv] at hg
    simp only [Value.ownBlock, Option.some.injEq] at hg
    subst hg
    exact ⟨cur, hh, hbg⟩
theorem own_non {W : World} {base : Nat} {e : TypeId} {size : Nat} {v : Value} {n : Nat} {xs : List Value} (h : W.ownsRow base e size v n xs) {g : Nat} (hg : v.ownBlock = some g) {o : Obj} (ho : W.heap[g]? = some o) : ¬ okN o := by
  obtain ⟨cur, h1, _⟩ := own_tag h hg
  rw [h1] at ho
  cases ho
  simp [okN, Obj.isCells]
theorem nd_len {α : Type} [DecidableEq α] : ∀ (l1 l2 : List α), l1.Nodup → (∀ x ∈ l1, x ∈ l2) → l1.length ≤ l2.length
  | [], _, _, _ => Nat.zero_le _
  | a :: l, l2, hn, hs => by
    have ha := hs a (by simp)
    have h1 := nd_len l (l2.erase a) (List.nodup_cons.1 hn).2 fun x hx => (List.mem_erase_of_ne (fun e => (List.nodup_cons.1 hn).1 (by rw [← e]; exact hx))).2 (hs x (List.mem_cons_of_mem _ hx))
    rw [List.length_erase_of_mem ha] at h1
    have := List.length_pos_of_mem ha
    simp only [List.length_cons]
    omega
/-- labels in a row that grows in a variable -/
structure RowL (w : World) (B c : Nat) (W : World) (xs : List ByteArray) : Prop where
  ex : ∃ v, Box W c #[v] 47 ∧ W.ownsRow B 50 12 v xs.length (xs.flatMap labC)
  bel : Below w.heap.size w W
  sz : B ≤ W.heap.size
theorem RowL.ab {w : World} {B c : Nat} (hb : c < B) (hw : w.heap.size ≤ B) : Ab B okN (fun xs W => RowL w B c W xs) := by
  rintro s W W' X ⟨⟨v, hbx, hown⟩, hbel, hsz⟩ hbt hx
  refine ⟨⟨v, hbx.but hbt fun e => ?_, ownsRow_keep hown fun k hk hl => hbt.block k hl fun e => ?_⟩, hbel.trans (hbt.below hbel.size fun k hk e => ?_), Nat.le_trans hsz hbt.size⟩
  · have := (hx c hbx.lt e).1; omega
  · obtain ⟨_, o, h1, h2⟩ := hx k hl e
    exact own_non hown hk h1 h2
  · have := (hx k (by have := hbel.size; omega) e).1; omega
theorem rowL_box {W W2 : World} {B b0 : Nat} {t0 : TypeId} {v : Value} {e : TypeId} {size n : Nat} {xs : List Value} {o : Obj} (hbx : Box W b0 #[v] t0) (hown : W.ownsRow B e size v n xs) (hb : b0 < B) (hg : (W.alloc o).grownBy W2 v.ownBlock) : Box W2 b0 #[v] t0 :=
  (hbx.kept (Below.heap_alloc _ _ _ hbx.lt)).kept (hg.block b0 (by simp; have := hbx.lt; omega) (fun e => by obtain ⟨_, _, h⟩ := own_tag hown e.symm; omega))
/-- one item more -/
theorem RowL.push {w : World} {B b0 : Nat} {W W2 : World} {xs : List ByteArray} {v v' : Value} {x : ByteArray} {o : Obj} (hbx : Box W b0 #[v] 47) (hown : W.ownsRow B 50 12 v xs.length (xs.flatMap labC)) (hbel : Below w.heap.size w W) (hsz : B ≤ W.heap.size)
    (hb : b0 < B) (hw : w.heap.size ≤ b0) (ho : W2.ownsRow B 50 12 v' (xs.length + 1) (xs.flatMap labC ++ labC x)) (hg : (W.alloc o).grownBy W2 v.ownBlock) :
    KeepB B b0 W (W2.setCell ⟨b0, 0, none⟩ v') ∧ RowL w B b0 (W2.setCell ⟨b0, 0, none⟩ v') (xs ++ [x]) := by
  have hs2 := hg.size
  simp only [World.size_alloc] at hs2
  have hkeep : ∀ k, k < W.heap.size → k ≠ b0 → v.ownBlock ≠ some k → (W2.setCell ⟨b0, 0, none⟩ v').heap[k]? = W.heap[k]? := fun k hk hn hv =>
    ((Below.heap_setCell _ _ _ _ hn).trans (hg.block k (by simp; omega) (fun e => hv e.symm))).trans (Below.heap_alloc _ _ _ hk)
  have hlt : ∀ (k : Nat) (o : Obj), W.heap[k]? = some o → k < W.heap.size := fun k o h => (Array.getElem?_eq_some_iff.1 h).1
  have hvb : v.ownBlock ≠ some b0 := fun e => by obtain ⟨_, _, h⟩ := own_tag hown e; omega
  have hvb' : v'.ownBlock ≠ some b0 := fun e => by obtain ⟨_, _, h⟩ := own_tag ho e; omega
  have hbx2 : Box W2 b0 #[v] 47 := rowL_box hbx hown hb hg
  have hbt : But (fun k => k = b0) W2 (W2.setCell ⟨b0, 0, none⟩ v') := (But.one W2 b0).setAt 0 v'
  have hbel2 : Below w.heap.size w W2 := (hbel.trans (((Below.refl W.heap.size W).alloc (Nat.le_refl _) o).mono hbel.size)).grown hg (by have := hbel.size; simp; omega) (fun k hk => by obtain ⟨_, _, h⟩ := own_tag hown hk; omega)
  have hw2 := hg.os
  have hw3 := hg.tape
  have hw4 := hg.output
  refine ⟨⟨⟨by simp [World.setCell]; omega, fun k hk hl hn => hkeep k hl hn fun e => ?_, fun k o' hk hc hi => (hkeep k (hlt k _ hc) (by omega) fun e => ?_).trans hc, hg.os, hg.tape, hg.output⟩, fun k o' hk ho' hc => (hkeep k (hlt k _ ho') (by omega) fun e => ?_).trans ho'⟩, ⟨v', ?_, ?_⟩, ?_, by simp [World.setCell]; omega⟩
  · obtain ⟨_, _, h⟩ := own_tag hown e; omega
  · exact own_non hown e hc hi.non
  · exact own_non hown e ho' hc
  · have h := hbx2.set 0 v'
    simpa using h
  · rw [List.length_append, List.flatMap_append]
    simp only [List.length_singleton, List.flatMap_cons, List.flatMap_nil, List.append_nil]
    exact ownsRow_keep ho fun k hk _ => Below.heap_setCell _ _ _ _ (fun e => hvb' (by have e' : k = b0 := e; rw [← e']; exact hk))
  · exact hbel2.setCell (p := ⟨b0, 0, none⟩) hw v'
theorem kindL : ∃ i, Kind 47 50 i (.agg #[.int .u8 0, .int .u8 0, .int .u8 0, .int .u8 0, .int .u8 0, .int .u8 0, .int .u8 0, .int .u8 0, .int .u8 0, .int .u8 0, .int .u8 0, .int .u8 0]) 12 12 := by
  obtain ⟨i0, hi, hz0, hz1, hz2⟩ := info_parts (show (Tryd.prog.info? 50).map (fun i => (i.zero, i.size, i.bytes)) = some (some (.agg #[.int .u8 0, .int .u8 0, .int .u8 0, .int .u8 0, .int .u8 0, .int .u8 0, .int .u8 0, .int .u8 0, .int .u8 0, .int .u8 0, .int .u8 0, .int .u8 0]), 12, 12) by kernel_rfl)
  exact ⟨i0, Tryd.underlying47, hi, hz0, hz1, hz2, rfl, by decide⟩
theorem labC_one (s : ByteArray) : ∀ u ∈ labC s, u.oneCell' = true := by
  intro u hu
  simp only [labC, List.mem_cons, List.not_mem_nil, or_false] at hu
  rcases hu with rfl | rfl | rfl | rfl | rfl | rfl | rfl | rfl | rfl | rfl | rfl | rfl <;> rfl
set_option maxHeartbeats 4000000 in
theorem appseq_any (w : World) (bm b : Nat) (E : List (ByteArray × Value)) (hbx : Box w bm #[.map (some b)] 52) (hm : MpI w b E) (hle : E.length ≤ 1000) :
    Calls Tryd.prog 37 #[.slice none 0 0, .func (.func 31) #[] #[.pointer (some ⟨bm, 0, none⟩)]] w fun e w' => ∃ (p : Option Addr) (c : Nat) (XS : List ByteArray), e = .returned (.slice p XS.length c) ∧ XS.Perm (E.map (·.1)) ∧ w'.ownsRow w.heap.size 50 12 (.slice p XS.length c) XS.length (XS.flatMap labC) ∧ Below w.heap.size w w' := by
  obtain ⟨w1, hw1⟩ : ∃ V, V = w.alloc (.cells #[.slice none 0 0] 47) := ⟨_, rfl⟩
  have hB1 : Below w.heap.size w w1 := by rw [hw1]; exact (Below.refl _ _).alloc (Nat.le_refl _) _
  have hX1 : Box w1 w.heap.size #[.slice none 0 0] 47 := by rw [hw1]; exact Box.new _ _ _
  have HW1 := hid hw1
  have hs1 : w1.heap.size = w.heap.size + 1 := by rw [hw1]; simp
  have HSeq := hid (keys_seq w1 bm b w.heap.size E (hbx.below hB1) (hm.kept (hB1.block b hm.lt)) (by have := hm.lt; omega))
  have HRow : Hid (RowL w w1.heap.size w.heap.size w1 []) := ⟨⟨_, hX1, rfl, .inl ⟨rfl, rfl⟩⟩, hB1, Nat.le_refl _⟩
  have HAb := hid (RowL.ab (w := w) (B := w1.heap.size) (c := w.heap.size) (by omega) (by omega))
  obtain ⟨i0, Kd⟩ := kindL
  clear hw1 hX1 hbx hm
  refine (callsIn_wide (n := 0)).1 ?_
  refine callsIn_of_wp_marks Tryd.func37 rfl trivial ?_ rfl
  simp only [Tryd.ntmps37, List.size_toArray, List.length_cons, List.length_nil, Nat.reduceAdd, Nat.reduceSub, Array.replicate_succ, Array.replicate_zero, List.push_toArray, List.append_toArray, List.nil_append, List.cons_append]
  refine wpIn_wide.2 ?_
  go_upto_region 1 with fail
  rw [← HW1.out]
  go_wp2_with fail
  refine (wpIn_wide (n := 0)).1 ?_
  refine range_law (gf := 31) (lb := #[.pointer (some ⟨bm, 0, none⟩)]) rfl (enters_of Tryd.func31 (by kernel_rfl) rfl) (encs := fun s => #[labV s]) (fun _ => rfl) (b0 := w.heap.size) HSeq.out
    (fun pre W' => RowL w w1.heap.size w.heap.size W' pre) HAb.out HRow.out
    (fun x a' W' => ∃ q, Box W' q #[.int .u8 (bat x 0), .int .u8 (bat x 1), .int .u8 (bat x 2), .int .u8 (bat x 3), .int .u8 (bat x 4), .int .u8 (bat x 5), .int .u8 (bat x 6), .int .u8 (bat x 7), .int .u8 (bat x 8), .int .u8 (bat x 9), .int .u8 (bat x 10), .int .u8 (bat x 11)] 50 ∧ a' = { tmps := #[.slice none 0 0, .func (.func 31) #[] #[.pointer (some ⟨bm, 0, none⟩)], .pointer (some ⟨w.heap.size, 0, none⟩), undef, .slice none 0 0, .pointer (some ⟨q, 0, none⟩), .func (.func 31) #[] #[.pointer (some ⟨bm, 0, none⟩)], .agg #[.int .u8 (bat x 0), .int .u8 (bat x 1), .int .u8 (bat x 2), .int .u8 (bat x 3), .int .u8 (bat x 4), .int .u8 (bat x 5), .int .u8 (bat x 6), .int .u8 (bat x 7), .int .u8 (bat x 8), .int .u8 (bat x 9), .int .u8 (bat x 10), .int .u8 (bat x 11)], undef, undef, undef, undef, undef], defers := [] })
    ?abx ?assign ?body ?done
  case abx =>
    rintro ⟨x, a'⟩ W' W'' X ⟨q, hq, he⟩ hbt hx
    exact ⟨q, hq.but hbt fun e => by
      obtain ⟨_, o, h1, h2⟩ := hx q hq.lt e
      rw [show W'.heap[q]? = _ from hq] at h1
      cases h1
      simp [okN, Obj.isCells] at h2, he⟩
  case assign =>
    intro l pre x W' K hI hK
    have hnb : Below W'.heap.size W' (W'.alloc (.cells #[.int .u8 (bat x 0), .int .u8 (bat x 1), .int .u8 (bat x 2), .int .u8 (bat x 3), .int .u8 (bat x 4), .int .u8 (bat x 5), .int .u8 (bat x 6), .int .u8 (bat x 7), .int .u8 (bat x 8), .int .u8 (bat x 9), .int .u8 (bat x 10), .int .u8 (bat x 11)] 50)) := (Below.refl _ _).alloc (Nat.le_refl _) _
    have HK := hid hK
    have HI := hid hI
    clear hK hI
    simp only [labV, labC]
    gi_wp2
    exact HK.out _ _ (KeepB.below hnb) (HAb.out.grow HI.out hnb) ⟨W'.heap.size, Box.new _ _ _, rfl⟩
  case body =>
    rintro l pre x a' W' ⟨⟨v, hbx, hown⟩, hbel, hsz⟩ ⟨q, hq, rfl⟩ hpre
    have hlen : pre.length < 1000000 := by
      have h1 : (pre ++ [x]).length ≤ (E.map (·.1)).length := nd_len _ _ hpre.1 hpre.2
      simp only [List.length_append, List.length_singleton, List.length_map] at h1
      omega
    have v0 := hbx.cell 0
    have vf := hbx.frozen 0
    have vl := hbx.lt
    simp at v0
    have q0 := hq.cell 0
    have q1 := hq.cell 1
    have q2 := hq.cell 2
    have q3 := hq.cell 3
    have q4 := hq.cell 4
    have q5 := hq.cell 5
    have q6 := hq.cell 6
    have q7 := hq.cell 7
    have q8 := hq.cell 8
    have q9 := hq.cell 9
    have q10 := hq.cell 10
    have q11 := hq.cell 11
    have ql := hq.lt
    simp at q0 q1 q2 q3 q4 q5 q6 q7 q8 q9 q10 q11
    have HBX := hid hbx
    have HBel := hid hbel
    clear hbx hq hbel hpre
    have hnews : ∀ j u', (labC x)[j]? = some u' → (W'.alloc (.cells #[.int .u8 (bat x 0), .int .u8 (bat x 1), .int .u8 (bat x 2), .int .u8 (bat x 3), .int .u8 (bat x 4), .int .u8 (bat x 5), .int .u8 (bat x 6), .int .u8 (bat x 7), .int .u8 (bat x 8), .int .u8 (bat x 9), .int .u8 (bat x 10), .int .u8 (bat x 11)] 50)).cell? ((⟨W'.heap.size, 0, none⟩ : Addr).add j) = some u' := fun j u' hu => by
      rw [Go.WideShapes.add_plain, (Box.new W' #[.int .u8 (bat x 0), .int .u8 (bat x 1), .int .u8 (bat x 2), .int .u8 (bat x 3), .int .u8 (bat x 4), .int .u8 (bat x 5), .int .u8 (bat x 6), .int .u8 (bat x 7), .int .u8 (bat x 8), .int .u8 (bat x 9), .int .u8 (bat x 10), .int .u8 (bat x 11)] 50).cell]
      rw [show 0 + j = j by omega]
      simpa [labC] using hu
    gi_wp2_with (gi_at_builtin; go_loud ( refine wpListIn_append_own _ rfl (.tmp 8) (.tmp 10) 47 rfl w1.heap.size 50 i0 _ 12 12 Kd.ht Kd.hi Kd.hz Kd.hsize Kd.hby Kd.hzs Kd.hsz v pre.length _ rfl (hown.alloc _) ⟨W'.heap.size, 0, none⟩ 1 1 (labC x) rfl rfl hnews (labC_one _) (by unfold maxLen; omega) (by omega) (by simp; omega) ?_; intro v' w2 ho2 hg2 _; obtain ⟨p2, e2, hv2⟩ := ownsRow_slice ho2; rw [hv2] at ho2 ⊢; clear hv2; have hP := RowL.push (w := w) (x := x) HBX.out hown HBel.out hsz (by omega) (Nat.le_refl _) ho2 hg2; have hbk : Box w2 w.heap.size #[v] 47 := rowL_box HBX.out hown (by omega) hg2; have z0 := hbk.cell 0; have zf := hbk.frozen 0; have zl := hbk.lt; simp at z0; have HP := hid hP; clear hP hbk ho2 hg2 hnews hown))
    exact HP.out
  case done =>
    rintro D W' XS hXS hD ⟨⟨v, hbx, hown⟩, hbel, hsz⟩ hK
    obtain ⟨p2, e2, hv2⟩ := ownsRow_slice hown
    subst hv2
    have v0 := hbx.cell 0
    have vl := hbx.lt
    simp at v0
    have HOw := hid hown
    have HBel := hid hbel
    have HKD := hid hK
    clear hbx hown hbel hK
    go_wp2
    have hKV := HKD.out
    have hbD : But (fun k => k = D) W' (W'.putObj D (.deferred none)) := But.put W' D _
    have hw1 := hB1.size
    have hbelF : Below w.heap.size w (W'.putObj D (.deferred none)) := HBel.out.trans (hbD.below HBel.out.size fun k hk e => by omega)
    refine ⟨by simp, .inl ⟨_, _, rfl, run_takeDeferred hKV, ?_⟩⟩
    refine ⟨.slice p2 XS.length e2, by simp [results, Tryd.results37, go_sem], p2, e2, XS, rfl, hXS, ?_, hbelF⟩
    refine ownsRow_keep (own_low HOw.out (by omega)) fun k hk hl => hbD.block k hl fun e => ?_
    obtain ⟨cu, h1, h2⟩ := own_tag HOw.out hk
    subst e
    rw [hKV] at h1; cases h1
end Go.Proofs.YtjkfihngkfphfaaDoor
