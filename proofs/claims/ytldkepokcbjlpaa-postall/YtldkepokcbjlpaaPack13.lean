import Derived.Test.YtldkepokcbjlpaaPack12
import Derived.Deep.DeepCutAuto
import Derived.Deep.MidRow
namespace Go.Proofs.Ytldkepokcbjlpaa
open Go.RowKit
set_option maxRecDepth 60000
theorem PsI.setSt {w w1 : World} {b g o i : Nat} {P : Ps} {x : Int} (h : PsI w b P) (hb : Below w.heap.size w w1) (hp : P.sts.p = some ⟨g, o, none⟩) (hi : i < P.sts.n) (hx : 0 ≤ x ∧ x ≤ 4) : o = 0 ∧ QSet w b P (w1.setCell ⟨g, i, none⟩ (.int .u8 x)) (P.setSt i x) := by
  have h1 := h.below hb
  obtain ⟨ho, hr⟩ := ownsRow_put (j := i) h1.own hp hi (.int .u8 x)
  rw [rowsU_set] at hr
  have hg : P.lv.ownBlock = some g := by unfold Ps.lv; rw [hp]; rfl
  have hgb : g ≠ b := fun e => h.ne (by rw [hg, e])
  have hbt : But (fun k => k = g) w1 (w1.setCell ⟨g, i, none⟩ (.int .u8 x)) := (But.one w1 g).setAt i _
  refine ⟨ho, ⟨h1.box.kept (hbt.block b h1.box.lt (fun e => hgb e.symm)), hr, h.ne, fun j hj => ?_, h.t0, h.t1, h.f0, h.f1, h.n1⟩, ⟨hbt.os.trans hb.os, hbt.tape.trans hb.tape, hbt.output.trans hb.output, Nat.le_trans hb.size hbt.size, fun k hl hn => (hbt.block k (Nat.lt_of_lt_of_le hl hb.size) (fun e => hn (.inr (by rw [hg, e])))).trans (hb.block k hl)⟩, fun k hk => .inl hk⟩
  simp only [Ps.setSt]
  split
  · exact hx
  · exact h.st j hj
theorem QSet.drew {w w1 : World} {b : Nat} {P P1 : Ps} (h : QSet w b P w1 P1) : QSet w b P w1.drew P1 := h.trans (QSet.same h.inv (Below.refl _ _).drew)
structure SettQ (id : Int) (ok : Bool) (w : World) (b : Nat) (P : Ps) (e : Ending) (w' : World) (P' : Ps) : Prop where
  s : QSet w b P w' P'
  n : ¬ P.stat id = 2 → P' = P ∧ e = .returned (.int .i64 147)
  y : P.stat id = 2 → e = .returned (.int .i64 0) ∧ P' = P.setSt (id - P.first).toNat (if ok then 3 else 4)
def SettP (id : Int) (ok : Bool) (w : World) (b : Nat) (P : Ps) (e : Ending) (w' : World) : Prop := ∃ P', SettQ id ok w b P e w' P'
set_option maxHeartbeats 4000000 in
theorem settle_any (id : Int) (ok : Bool) (w : World) (b : Nat) (P : Ps) (hI : PsI w b P) : Calls Try.prog 16 #[.pointer (some ⟨b, 0, none⟩), .int .i64 id, .bool ok] w fun e w' => SettP id ok w b P e w' := by
  have HI := hid hI
  have HS := hid (stat_any id w b P hI)
  have hn1 := hI.n1
  have hf0 := hI.f0
  have hf1 := hI.f1
  by_cases h2 : P.stat id = 2
  rotate_left
  · have h2' : (P.stat id != 2) = true := by simp [h2]
    have HH := hid h2
    clear h2 hI
    go_enter Try.func16, Try.ntmps16
    go_wp2_with (go_at_call 28; refine HS.out.mono ?_; rintro e w1 ⟨rfl, hb1⟩)
    refine bodyPost_ret (v := .int .i64 147) (by simp [results, Try.results16, go_sem]) rfl ?_
    exact ⟨P, QSet.same HI.out hb1, fun _ => ⟨rfl, rfl⟩, fun h => absurd h HH.out⟩
  have hr : ¬ (id < P.first ∨ P.next ≤ id) := fun h => by unfold Ps.stat at h2; rw [if_pos h] at h2; omega
  obtain ⟨i, hi, hin⟩ : ∃ i : Nat, id = P.first + (i : Int) ∧ i < P.sts.n := ⟨(id - P.first).toNat, by omega, by unfold Ps.next at hr; omega⟩
  have hE2 : P.stat (P.first + (i : Int)) = 2 := by rw [← hi]; exact h2
  have hin' : (i : Int) < (P.sts.n : Int) := by omega
  have hsub : P.first + (i : Int) - P.first = (i : Int) := by omega
  have hwi : IntKind.i64.wrap (i : Int) = (i : Int) := by rw [IntKind.wrap_i64]; omega
  subst hi
  obtain ⟨gb, o, hgp, _, _, _⟩ := hI.list.at_ (by omega)
  clear h2 hr hI
  cases ok
  · skip
    have HE2 := hid hE2
    clear hE2
    go_enter Try.func16, Try.ntmps16
    go_upto_region 6 with (go_at_call 28; refine HS.out.mono ?_; rintro e w1 ⟨rfl, hb1⟩; rw [HE2.out])
    have hI1 := HI.out.below hb1
    have c1 := hI1.box.cell 1
    have c3 := hI1.box.cell 3
    have bl := hI1.box.lt
    simp [Ps.arr] at c1 c3
    rw [hgp] at c3
    have hB := (hI1.list).at_ (by omega)
    obtain ⟨gb2, o2, hgp2, _, hgl, hat⟩ := hB
    rw [hgp] at hgp2
    simp only [Option.some.injEq, Addr.mk.injEq] at hgp2
    obtain ⟨rfl, rfl, _⟩ := hgp2
    obtain ⟨ho, hQ⟩ := HI.out.setSt (x := 4) hb1.drew hgp hin ⟨by omega, by omega⟩
    subst ho
    have t0 : w1.drew.cell? ⟨gb, i, none⟩ = some (.int .u8 (P.sts.item i)) := by have := hat i hin 0 _ rfl; simpa [elU8] using this
    have tf : w1.drew.frozen? ⟨gb, i, none⟩ = false := ownsRow_frozen (hI1.below (Below.refl _ _).drew).own hgp i
    have HQ := hid hQ
    clear hI1 hat hQ hb1 HS hgp
    refine wp_region_calmE 30 (fun wx => Below w1.heap.size w1 wx) [(0, true), (1, true), (2, true), (3, false), (4, true), (5, true), (6, true), (7, true), (8, false), (9, true), (10, true), (11, true)] (.one 12 false [] .done) (by kernel_rfl) (by kernel_rfl) (Below.refl _ _).drew ?_
    refine wpPre_e rfl rfl (fun K1 hK1 => ?_)
    apply Exists.intro
    refine And.intro (fun wx hx => ?_) ?_
    · go_simp
      try rfl
    go_simp
    refine hK1 _ ?_
    clear hK1 K1
    refine wpPre_e rfl rfl (fun K1 hK1 => ?_)
    apply Exists.intro
    refine And.intro (fun wx hx => ?_) ?_
    · go_simp
      try rfl
    go_simp
    refine hK1 _ ?_
    clear hK1 K1
    refine wpPre_e rfl rfl (fun K1 hK1 => ?_)
    apply Exists.intro
    refine And.intro (fun wx hx => ?_) ?_
    · go_simp
      try rfl
    go_simp
    refine hK1 _ ?_
    clear hK1 K1
    refine wpPre_e rfl rfl (fun K1 hK1 => ?_)
    apply Exists.intro
    refine And.intro (fun wx hx => ?_) ?_
    · have e0 := below_fact hx rfl c1
      have e1 := below_fact hx rfl c3
      go_simp
      try rfl
    go_simp
    refine hK1 _ ?_
    clear hK1 K1
    refine wpPre_e rfl rfl (fun K1 hK1 => ?_)
    apply Exists.intro
    refine And.intro (fun wx hx => ?_) ?_
    · go_simp
      try rfl
    go_simp
    refine hK1 _ ?_
    clear hK1 K1
    refine wpPre_e rfl rfl (fun K1 hK1 => ?_)
    apply Exists.intro
    refine And.intro (fun wx hx => ?_) ?_
    · go_simp
      try rfl
    go_simp
    refine hK1 _ ?_
    clear hK1 K1
    refine wpPre_e rfl rfl (fun K1 hK1 => ?_)
    apply Exists.intro
    refine And.intro (fun wx hx => ?_) ?_
    · go_simp
      try rfl
    go_simp
    refine hK1 _ ?_
    clear hK1 K1
    refine wpPre_e rfl rfl (fun K1 hK1 => ?_)
    apply Exists.intro
    refine And.intro (fun wx hx => ?_) ?_
    · go_simp
      try rfl
    go_simp
    refine hK1 _ ?_
    clear hK1 K1
    refine wpPre_e rfl rfl (fun K1 hK1 => ?_)
    apply Exists.intro
    refine And.intro (fun wx hx => ?_) ?_
    · have e0 := below_fact hx rfl c1
      have e1 := below_fact hx rfl c3
      go_simp
      try rfl
    go_simp
    refine hK1 _ ?_
    clear hK1 K1
    refine wpPre_e rfl rfl (fun K1 hK1 => ?_)
    apply Exists.intro
    refine And.intro (fun wx hx => ?_) ?_
    · go_simp
      try rfl
    go_simp
    refine hK1 _ ?_
    clear hK1 K1
    refine wpPre_e rfl rfl (fun K1 hK1 => ?_)
    apply Exists.intro
    refine And.intro (fun wx hx => ?_) ?_
    · go_simp
      try rfl
    go_simp
    refine hK1 _ ?_
    clear hK1 K1
    refine wpPre_e rfl rfl (fun K1 hK1 => ?_)
    apply Exists.intro
    refine And.intro (fun wx hx => ?_) ?_
    · go_simp
      try rfl
    go_simp
    refine hK1 _ ?_
    clear hK1 K1
    refine wpPre_nil ?_
    refine wpTr_e rfl (fun K1 hK1 => ?_)
    go_simp
    refine hK1 _ _ (fun h => by cases h) ?_
    clear hK1 K1
    refine wpPre_nil ?_
    refine wpTr_done ?_
    go_wp2
    refine bodyPost_ret (v := .int .i64 0) (by simp [results, Try.results16, go_sem]) rfl ?_
    refine ⟨_, HQ.out, fun h => absurd HE2.out h, fun _ => ⟨rfl, ?_⟩⟩
    rw [hsub]; rfl
  · skip
    have HE2 := hid hE2
    clear hE2
    go_enter Try.func16, Try.ntmps16
    go_upto_region 6 with (go_at_call 28; refine HS.out.mono ?_; rintro e w1 ⟨rfl, hb1⟩; rw [HE2.out])
    have hI1 := HI.out.below hb1
    have c1 := hI1.box.cell 1
    have c3 := hI1.box.cell 3
    have bl := hI1.box.lt
    simp [Ps.arr] at c1 c3
    rw [hgp] at c3
    have hB := (hI1.list).at_ (by omega)
    obtain ⟨gb2, o2, hgp2, _, hgl, hat⟩ := hB
    rw [hgp] at hgp2
    simp only [Option.some.injEq, Addr.mk.injEq] at hgp2
    obtain ⟨rfl, rfl, _⟩ := hgp2
    obtain ⟨ho, hQ⟩ := HI.out.setSt (x := 3) hb1.drew hgp hin ⟨by omega, by omega⟩
    subst ho
    have t0 : w1.drew.cell? ⟨gb, i, none⟩ = some (.int .u8 (P.sts.item i)) := by have := hat i hin 0 _ rfl; simpa [elU8] using this
    have tf : w1.drew.frozen? ⟨gb, i, none⟩ = false := ownsRow_frozen (hI1.below (Below.refl _ _).drew).own hgp i
    have HQ := hid hQ
    clear hI1 hat hQ hb1 HS hgp
    refine wp_region_calmE 30 (fun wx => Below w1.heap.size w1 wx) [(0, true), (1, true), (2, true), (3, false), (4, true), (5, true), (6, true), (7, true), (8, false), (9, true), (10, true), (11, true)] (.one 12 false [] .done) (by kernel_rfl) (by kernel_rfl) (Below.refl _ _).drew ?_
    refine wpPre_e rfl rfl (fun K1 hK1 => ?_)
    apply Exists.intro
    refine And.intro (fun wx hx => ?_) ?_
    · go_simp
      try rfl
    go_simp
    refine hK1 _ ?_
    clear hK1 K1
    refine wpPre_e rfl rfl (fun K1 hK1 => ?_)
    apply Exists.intro
    refine And.intro (fun wx hx => ?_) ?_
    · go_simp
      try rfl
    go_simp
    refine hK1 _ ?_
    clear hK1 K1
    refine wpPre_e rfl rfl (fun K1 hK1 => ?_)
    apply Exists.intro
    refine And.intro (fun wx hx => ?_) ?_
    · go_simp
      try rfl
    go_simp
    refine hK1 _ ?_
    clear hK1 K1
    refine wpPre_e rfl rfl (fun K1 hK1 => ?_)
    apply Exists.intro
    refine And.intro (fun wx hx => ?_) ?_
    · have e0 := below_fact hx rfl c1
      have e1 := below_fact hx rfl c3
      go_simp
      try rfl
    go_simp
    refine hK1 _ ?_
    clear hK1 K1
    refine wpPre_e rfl rfl (fun K1 hK1 => ?_)
    apply Exists.intro
    refine And.intro (fun wx hx => ?_) ?_
    · go_simp
      try rfl
    go_simp
    refine hK1 _ ?_
    clear hK1 K1
    refine wpPre_e rfl rfl (fun K1 hK1 => ?_)
    apply Exists.intro
    refine And.intro (fun wx hx => ?_) ?_
    · go_simp
      try rfl
    go_simp
    refine hK1 _ ?_
    clear hK1 K1
    refine wpPre_e rfl rfl (fun K1 hK1 => ?_)
    apply Exists.intro
    refine And.intro (fun wx hx => ?_) ?_
    · go_simp
      try rfl
    go_simp
    refine hK1 _ ?_
    clear hK1 K1
    refine wpPre_e rfl rfl (fun K1 hK1 => ?_)
    apply Exists.intro
    refine And.intro (fun wx hx => ?_) ?_
    · go_simp
      try rfl
    go_simp
    refine hK1 _ ?_
    clear hK1 K1
    refine wpPre_e rfl rfl (fun K1 hK1 => ?_)
    apply Exists.intro
    refine And.intro (fun wx hx => ?_) ?_
    · have e0 := below_fact hx rfl c1
      have e1 := below_fact hx rfl c3
      go_simp
      try rfl
    go_simp
    refine hK1 _ ?_
    clear hK1 K1
    refine wpPre_e rfl rfl (fun K1 hK1 => ?_)
    apply Exists.intro
    refine And.intro (fun wx hx => ?_) ?_
    · go_simp
      try rfl
    go_simp
    refine hK1 _ ?_
    clear hK1 K1
    refine wpPre_e rfl rfl (fun K1 hK1 => ?_)
    apply Exists.intro
    refine And.intro (fun wx hx => ?_) ?_
    · go_simp
      try rfl
    go_simp
    refine hK1 _ ?_
    clear hK1 K1
    refine wpPre_e rfl rfl (fun K1 hK1 => ?_)
    apply Exists.intro
    refine And.intro (fun wx hx => ?_) ?_
    · go_simp
      try rfl
    go_simp
    refine hK1 _ ?_
    clear hK1 K1
    refine wpPre_nil ?_
    refine wpTr_e rfl (fun K1 hK1 => ?_)
    go_simp
    refine hK1 _ _ (fun h => by cases h) ?_
    clear hK1 K1
    refine wpPre_nil ?_
    refine wpTr_done ?_
    go_wp2
    refine bodyPost_ret (v := .int .i64 0) (by simp [results, Try.results16, go_sem]) rfl ?_
    refine ⟨_, HQ.out, fun h => absurd HE2.out h, fun _ => ⟨rfl, ?_⟩⟩
    rw [hsub]; rfl
end Go.Proofs.Ytldkepokcbjlpaa

namespace Go.Proofs.Ytldkepokcbjlpaa
open Go.RowKit
set_option maxRecDepth 60000
def zPt (u : PtT) : PtT := ⟨0, ⟨none, 0, 0, u.cl.item⟩, ⟨none, 0, 0, u.lg.item⟩, ⟨none, 0, 0, u.pd.item⟩⟩
def Ps.clear (P : Ps) : Ps := { P with pl := fun _ => 0, pt := fun i => zPt (P.pt i) }
def zG : List Value := [.int .u8 0, .int .u8 0, .int .u8 0, .int .u8 0, .int .u8 0, .int .u8 0, .int .u8 0, .int .u8 0, .int .u8 0, .int .u8 0, .int .u8 0, .int .u8 0, .int .i64 0, .slice none 0 0, .slice none 0 0, .slice none 0 0, .int .i64 0, .slice none 0 0, .slice none 0 0, .slice none 0 0, .int .i64 0, .slice none 0 0, .slice none 0 0, .slice none 0 0, .int .i64 0, .slice none 0 0, .slice none 0 0, .slice none 0 0, .int .i64 0, .slice none 0 0, .slice none 0 0, .slice none 0 0, .int .i64 0, .slice none 0 0, .slice none 0 0, .slice none 0 0, .int .i64 0, .slice none 0 0, .slice none 0 0, .slice none 0 0, .int .i64 0, .slice none 0 0, .slice none 0 0, .slice none 0 0, .int .i64 0, .slice none 0 0, .slice none 0 0, .slice none 0 0, .int .i64 0, .slice none 0 0, .slice none 0 0, .slice none 0 0, .int .i64 0, .slice none 0 0, .slice none 0 0, .slice none 0 0, .int .i64 0, .slice none 0 0, .slice none 0 0, .slice none 0 0]
theorem zG_one : zG.toArray.all (·.oneCell') = true := by simp [zG, Value.oneCell']
theorem infoG : (Try.prog.info? 82).map (·.size) = some 60 := by kernel_rfl
def putAll : List Value → Nat → Array Value → Array Value
  | [], _, a => a
  | v :: r, o, a => putAll r (o + 1) (a.setIfInBounds o v)
theorem Box.setCells {b : Nat} {e : TypeId} : ∀ (vs : List Value) (o : Nat) (w : World) (cs : Array Value), Box w b cs e → Box (w.setCells b o vs) b (putAll vs o cs) e
  | [], _, _, _, h => h
  | v :: r, o, _, _, h => Box.setCells r (o + 1) _ _ (h.set o v)
theorem But.setCells {b : Nat} : ∀ (vs : List Value) (o : Nat) (w : World), But (fun y => y = b) w (w.setCells b o vs)
  | [], _, _ => But.refl _ _
  | v :: r, o, w => ((But.one w b).setAt o v).trans (But.setCells r (o + 1) _)
theorem putAll_toList : ∀ (vs : List Value) (o : Nat) (a : Array Value), o + vs.length ≤ a.size → (putAll vs o a).toList = a.toList.take o ++ vs ++ a.toList.drop (o + vs.length)
  | [], o, a, _ => by simp [putAll]
  | v :: r, o, a, h => by
    simp only [List.length_cons] at h
    rw [putAll, putAll_toList r (o + 1) _ (by simp; omega)]
    have hs : o < a.toList.length := by simp; omega
    rw [Array.toList_setIfInBounds, List.take_set, List.drop_set_of_lt (by omega), List.take_succ_eq_append_getElem hs, List.set_append_right _ _ (by simp; omega), List.length_take, Nat.min_eq_left (by omega), Nat.sub_self]
    simp [show o + 1 + r.length = o + (r.length + 1) by omega]
theorem putAll_clear (P : Ps) : putAll zG 5 P.arr = P.clear.arr := by
  apply Array.toList_inj.1
  rw [putAll_toList zG 5 P.arr (Nat.le_refl 65)]
  rfl
theorem Box.there {w : World} {b : Nat} {cs : Array Value} {e : TypeId} (h : Box w b cs e) {o n : Nat} (hn : o + n ≤ cs.size) : w.there b o n := fun j hj => by
  refine ⟨?_, h.frozen _⟩
  rw [h.cell]
  simp [show o + j < cs.size by omega]
theorem PsI.cleared {w : World} {b : Nat} {P : Ps} (h : PsI w b P) : QSet w b P (w.setCells b 5 zG) P.clear := by
  have hbt := But.setCells (b := b) zG 5 w
  have hbx := h.box.setCells zG 5
  rw [putAll_clear] at hbx
  refine ⟨⟨hbx, ?_, h.ne, h.st, h.t0, h.t1, h.f0, h.f1, h.n1⟩, ⟨hbt.os, hbt.tape, hbt.output, hbt.size, fun k hl hn => hbt.block k hl (fun e => hn (.inl e))⟩, fun k hk => .inl hk⟩
  exact ownsRow_keep h.own (fun k hk hl => hbt.block k hl (fun e => h.ne (by rw [← e]; exact hk)))
def Ps.fin (P : Ps) (x : Int) : Ps := (P.setSt (P.sts.n - 1) x).clear
set_option maxHeartbeats 4000000 in
theorem end_any (x : Int) (hx : 0 ≤ x ∧ x ≤ 4) (w : World) (b : Nat) (P : Ps) (hI : PsI w b P) (hn : 0 < P.sts.n) : Calls Try.prog 35 #[.pointer (some ⟨b, 0, none⟩), .int .u8 x] w fun e w' => e = .returned (.tuple #[]) ∧ QSet w b P w' (P.fin x) := by
  obtain ⟨i, hi⟩ : ∃ i, P.sts.n = i + 1 := ⟨P.sts.n - 1, by omega⟩
  have hn1 := hI.n1
  have c3 := hI.box.cell 3
  have bl := hI.box.lt
  simp [Ps.arr] at c3
  obtain ⟨gb, o, hgp, _, hgl, hat⟩ := hI.list.at_ hn
  rw [hgp, hi] at c3
  have hin : i < P.sts.n := by omega
  have hwi : IntKind.i64.wrap (i : Int) = (i : Int) := by rw [IntKind.wrap_i64]; omega
  obtain ⟨ho, hQ⟩ := hI.setSt (x := x) (Below.refl w.heap.size w).drew hgp hin hx
  subst ho
  have t0 : w.drew.cell? ⟨gb, i, none⟩ = some (.int .u8 (P.sts.item i)) := by have := hat i hin 0 _ rfl; simpa [elU8] using this
  have tf : w.drew.frozen? ⟨gb, i, none⟩ = false := ownsRow_frozen (hI.below (Below.refl _ _).drew).own hgp i
  have HQ := hid hQ
  have HF := hid hi
  have hi' : (i : Int) < (i : Int) + 1 := by omega
  clear hI hat hQ hgp
  go_enter Try.func35, Try.ntmps35
  go_wp2_with fail
  refine wp_region_calmE 30 (fun wx => Below w.heap.size w wx) [(0, true), (1, true), (2, true), (3, false), (4, true), (5, true), (6, true), (7, false), (8, true), (9, true), (10, true), (11, true)] (.one 12 false [] .done) (by kernel_rfl) (by kernel_rfl) (Below.refl _ _).drew ?_
  refine wpPre_e rfl rfl (fun K1 hK1 => ?_)
  apply Exists.intro
  refine And.intro (fun wx hx => ?_) ?_
  · go_simp
    try rfl
  go_simp
  refine hK1 _ ?_
  clear hK1 K1
  refine wpPre_e rfl rfl (fun K1 hK1 => ?_)
  apply Exists.intro
  refine And.intro (fun wx hx => ?_) ?_
  · go_simp
    try rfl
  go_simp
  refine hK1 _ ?_
  clear hK1 K1
  refine wpPre_e rfl rfl (fun K1 hK1 => ?_)
  apply Exists.intro
  refine And.intro (fun wx hx => ?_) ?_
  · go_simp
    try rfl
  go_simp
  refine hK1 _ ?_
  clear hK1 K1
  refine wpPre_e rfl rfl (fun K1 hK1 => ?_)
  apply Exists.intro
  refine And.intro (fun wx hx => ?_) ?_
  · have e0 := below_fact hx rfl c3
    go_simp
    try rfl
  go_simp
  refine hK1 _ ?_
  clear hK1 K1
  refine wpPre_e rfl rfl (fun K1 hK1 => ?_)
  apply Exists.intro
  refine And.intro (fun wx hx => ?_) ?_
  · go_simp
    try rfl
  go_simp
  refine hK1 _ ?_
  clear hK1 K1
  refine wpPre_e rfl rfl (fun K1 hK1 => ?_)
  apply Exists.intro
  refine And.intro (fun wx hx => ?_) ?_
  · go_simp
    try rfl
  go_simp
  refine hK1 _ ?_
  clear hK1 K1
  refine wpPre_e rfl rfl (fun K1 hK1 => ?_)
  apply Exists.intro
  refine And.intro (fun wx hx => ?_) ?_
  · go_simp
    try rfl
  go_simp
  refine hK1 _ ?_
  clear hK1 K1
  refine wpPre_e rfl rfl (fun K1 hK1 => ?_)
  apply Exists.intro
  refine And.intro (fun wx hx => ?_) ?_
  · have e0 := below_fact hx rfl c3
    go_simp
    try rfl
  go_simp
  refine hK1 _ ?_
  clear hK1 K1
  refine wpPre_e rfl rfl (fun K1 hK1 => ?_)
  apply Exists.intro
  refine And.intro (fun wx hx => ?_) ?_
  · go_simp
    try rfl
  go_simp
  refine hK1 _ ?_
  clear hK1 K1
  refine wpPre_e rfl rfl (fun K1 hK1 => ?_)
  apply Exists.intro
  refine And.intro (fun wx hx => ?_) ?_
  · go_simp
    try rfl
  go_simp
  refine hK1 _ ?_
  clear hK1 K1
  refine wpPre_e rfl rfl (fun K1 hK1 => ?_)
  apply Exists.intro
  refine And.intro (fun wx hx => ?_) ?_
  · go_simp
    try rfl
  go_simp
  refine hK1 _ ?_
  clear hK1 K1
  refine wpPre_e rfl rfl (fun K1 hK1 => ?_)
  apply Exists.intro
  refine And.intro (fun wx hx => ?_) ?_
  · go_simp
    try rfl
  go_simp
  refine hK1 _ ?_
  clear hK1 K1
  refine wpPre_nil ?_
  refine wpTr_e rfl (fun K1 hK1 => ?_)
  go_simp
  refine hK1 _ _ (fun h => by cases h) ?_
  clear hK1 K1
  refine wpPre_nil ?_
  refine wpTr_done ?_
  obtain ⟨w2, hw2⟩ : ∃ V, V = (w.setCell ⟨gb, i, none⟩ (.int .u8 x)).drew := ⟨_, rfl⟩
  rw [← hw2]
  have HQ : Hid (QSet w b P w2 (P.setSt i x)) := by rw [hw2]; exact HQ.out
  have HTh : Hid (w2.there b 5 zG.toArray.size) := HQ.out.inv.box.there (Nat.le_refl _)
  have bl2 := HQ.out.inv.box.lt
  clear t0 tf c3 hw2
  go_wp2_with (refine wpList_store_mid rfl 82 (.tmp 19) (.tmp 17) rfl b 5 zG.toArray rfl rfl HTh.out infoG zG_one ?_)
  refine bodyPost_end (results_none rfl _ _ _) rfl ⟨rfl, ?_⟩
  have := HQ.out.trans HQ.out.inv.cleared
  unfold Ps.fin
  rw [HF.out]
  exact this
end Go.Proofs.Ytldkepokcbjlpaa
