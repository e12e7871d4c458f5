import Derived.Test.YtdncnnjhfipokaaKsB
import Derived.Test.YtdncnnjhfipokaaKsC
import Derived.Test.YtdncnnjhfipokaaPack15
import Derived.Test.YtdncnnjhfipokaaPack5
import Derived.Test.YtdncnnjhfipokaaPack27
namespace Go.Proofs.Ytdncnnjhfipokaa
open Go.RowKit
set_option maxRecDepth 8000
set_option maxHeartbeats 4000000 in
theorem samePart_any (N : Nat) (hN : N ≤ 4) (num : Int) (cl cl2 : LT VT) (lg lg2 : LT (LT RT)) (pd pd2 : LT RT) (w : World) (S R : Nat → Prop) (hc : LT.In elCell w S cl) (hp : LT.In elRec w S pd) (hl : LT.In elRecs w S lg) (hln : lg.n = N) (hc2 : LT.In elCell w R cl2) (hp2 : LT.In elRec w R pd2) (hl2 : LT.In elRecs w R lg2) (hln2 : lg2.n = N) (ac : LT.Alk VT.Alike cl cl2) (ap : LT.Alk RT.Alike pd pd2) (al : ∀ p, p < N → LT.Alk RT.Alike (lg.item p) (lg2.item p)) :
    Calls Try.prog 49 #[.agg #[.int .i64 num, .slice cl.p cl.n cl.c, .slice lg.p N lg.c, .slice pd.p pd.n pd.c], .agg #[.int .i64 num, .slice cl2.p cl2.n cl2.c, .slice lg2.p N lg2.c, .slice pd2.p pd2.n pd2.c]] w fun e w' => e = .returned (.bool true) ∧ Below w.heap.size w w' := by
  obtain ⟨W0, hW0⟩ : ∃ x, x = (w.alloc (.cells #[.int .i64 num, .slice cl.p cl.n cl.c, .slice lg.p N lg.c, .slice pd.p pd.n pd.c] 49)).alloc (.cells #[.int .i64 num, .slice cl2.p cl2.n cl2.c, .slice lg2.p N lg2.c, .slice pd2.p pd2.n pd2.c] 49) := ⟨_, rfl⟩
  have hT : TwoK w W0 #[.int .i64 num, .slice cl.p cl.n cl.c, .slice lg.p N lg.c, .slice pd.p pd.n pd.c] #[.int .i64 num, .slice cl2.p cl2.n cl2.c, .slice lg2.p N lg2.c, .slice pd2.p pd2.n pd2.c] 49 := by rw [hW0]; exact TwoK.start w #[.int .i64 num, .slice cl.p cl.n cl.c, .slice lg.p N lg.c, .slice pd.p pd.n pd.c] #[.int .i64 num, .slice cl2.p cl2.n cl2.c, .slice lg2.p N lg2.c, .slice pd2.p pd2.n pd2.c] 49
  have HT := hid hT
  have hB := hT.bel
  have HC : Hid (∀ W, Below W0.heap.size W0 W → Calls Try.prog 43 #[.agg #[.int .i64 num, .slice cl.p cl.n cl.c], .agg #[.int .i64 num, .slice cl2.p cl2.n cl2.c]] W fun e w' => e = .returned (.bool true) ∧ Below W.heap.size W w') := fun W hW => yState num cl cl2 W S R ((hc.below hB).below hW) ((hc2.below hB).below hW) ac
  have HP : Hid (∀ W, Below W0.heap.size W0 W → Calls Try.prog 44 #[.slice pd.p pd.n pd.c, .slice pd2.p pd2.n pd2.c] W fun e w' => YesNo (RecsAlike pd pd2) e W w') := fun W hW => yRecords pd pd2 W S R ((hp.below hB).below hW) ((hp2.below hB).below hW)
  have HPa : Hid (RecsAlike pd pd2) := ⟨ap.n, ap.item⟩
  have HL : Hid (∀ W p, p < N → Below W0.heap.size W0 W → Calls Try.prog 44 #[.slice (lg.item p).p (lg.item p).n (lg.item p).c, .slice (lg2.item p).p (lg2.item p).n (lg2.item p).c] W fun e w' => YesNo (RecsAlike (lg.item p) (lg2.item p)) e W w') := fun W p hlt hW => yRecords (lg.item p) (lg2.item p) W S R (((hl.each p (by omega)).below hB).below hW) (((hl2.each p (by omega)).below hB).below hW)
  have HLa : Hid (∀ p, p < N → RecsAlike (lg.item p) (lg2.item p)) := fun p hlt => ⟨(al p hlt).n, (al p hlt).item⟩
  have HIl := hid (hl.below hB)
  have HIl2 := hid (hl2.below hB)
  have x0 := hT.ba.cell 0
  have x1 := hT.ba.cell 1
  have x2 := hT.ba.cell 2
  have x3 := hT.ba.cell 3
  have y0 := hT.bb.cell 0
  have y1 := hT.bb.cell 1
  have y2 := hT.bb.cell 2
  have y3 := hT.bb.cell 3
  have xl := hT.ba.lt
  have yl := hT.bb.lt
  simp at x0 x1 x2 x3 y0 y1 y2 y3
  clear hT hB hc hp hl hc2 hp2 hl2 ac ap al
  go_enter Try.func49, Try.ntmps49
  go_wp2_with (first | (rw [← hW0]; clear hW0) | (go_at_call 43; refine (HC.out _ (Below.refl _ _)).mono ?_; rintro e w4 ⟨rfl, hb4⟩; have HB4 := hid hb4; have hT4 := HT.out.below hb4; have x2 := hT4.ba.cell 2; have x3 := hT4.ba.cell 3; have y2 := hT4.bb.cell 2; have y3 := hT4.bb.cell 3; have xl := hT4.ba.lt; have yl := hT4.bb.lt; simp at x2 x3 y2 y3; clear hT4) | (go_at_call 44; refine (HP.out _ HB4.out).mono ?_; rintro e w5 ⟨r5, rfl, hr5, hb5⟩; obtain rfl : r5 = true := hr5.2 HPa.out; have HB5 := hid (HB4.out.trans (hb5.mono HB4.out.size)); have hT5 := HT.out.below HB5.out; have x2 := hT5.ba.cell 2; have y2 := hT5.bb.cell 2; have xl := hT5.ba.lt; have yl := hT5.bb.lt; simp at x2 y2; clear hT5))
  clear hb4 hb5 hr5 HC HP
  have hNn : N ≤ 140737488355328 := by omega
  go_simp
  go_wp2_with fail
  go_loopw [5] (fun x wr => ∃ k : Nat, k ≤ N ∧ x = .int .i64 (k : Int) ∧ Below W0.heap.size W0 wr) (fun x _ => N - (intOf x).toNat)
  case atStart => exact ⟨0, Nat.zero_le _, rfl, HB5.out⟩
  case round =>
    obtain ⟨k, hk, rfl, hbr⟩ := hrel
    have HBr := hid hbr
    have hTr := HT.out.below hbr
    have x2 := hTr.ba.cell 2
    have y2 := hTr.bb.cell 2
    have xl := hTr.ba.lt
    have yl := hTr.bb.lt
    simp at x2 y2
    clear HB5 hTr
    by_cases hlt : k < N
    · have hlt' : (k : Int) < (N : Int) := by omega
      obtain ⟨lb, lo, hlp, _, hlb, hat⟩ := (HIl.out.below hbr).at_ (by omega)
      have l0 : wr.cell? ⟨lb, lo + k, none⟩ = some (.slice (lg.item k).p (lg.item k).n (lg.item k).c) := by have := hat k (by omega) 0 _ rfl; simpa [elRecs] using this
      obtain ⟨lb2, lo2, hlp2, _, hlb2, hat2⟩ := (HIl2.out.below hbr).at_ (by omega)
      have m0 : wr.cell? ⟨lb2, lo2 + k, none⟩ = some (.slice (lg2.item k).p (lg2.item k).n (lg2.item k).c) := by have := hat2 k (by omega) 0 _ rfl; simpa [elRecs] using this
      rw [hlp] at x2
      rw [hlp2] at y2
      have HLk := hid (HL.out _ k hlt (hbr.trans ((Below.refl wr.heap.size wr).drew.mono hbr.size)))
      have HLa1 := hid (HLa.out k hlt)
      clear hat hlp hat2 hlp2 hbr
      go_wp2_with fail
      refine wp_region_calmE 30 (fun wx => Below wr.heap.size wr wx) [(0, true), (1, false), (2, true), (3, true), (4, false), (5, true), (6, false), (7, true), (8, true), (9, false)] (.one 10 false [(11, true)] .done) (by kernel_rfl) (by kernel_rfl) (Below.refl _ _).drew ?_
      refine wpPre_e rfl rfl (fun K1 hK1 => ?_)
      apply Exists.intro
      refine And.intro (fun wx hx => ?_) ?_
      · go_simp
        try rfl
      go_simp
      refine hK1 _ ?_
      clear hK1 K1
      refine wpPre_e rfl rfl (fun K1 hK1 => ?_)
      apply Exists.intro
      refine And.intro (fun wx hx => ?_) ?_
      · have e0 := below_fact hx rfl x2
        have e1 := below_fact hx rfl y2
        have e2 := below_fact hx rfl l0
        have e3 := below_fact hx rfl m0
        go_simp
        try rfl
      go_simp
      refine hK1 _ ?_
      clear hK1 K1
      refine wpPre_e rfl rfl (fun K1 hK1 => ?_)
      apply Exists.intro
      refine And.intro (fun wx hx => ?_) ?_
      · go_simp
        try rfl
      go_simp
      refine hK1 _ ?_
      clear hK1 K1
      refine wpPre_e rfl rfl (fun K1 hK1 => ?_)
      apply Exists.intro
      refine And.intro (fun wx hx => ?_) ?_
      · go_simp
        try rfl
      go_simp
      refine hK1 _ ?_
      clear hK1 K1
      refine wpPre_e rfl rfl (fun K1 hK1 => ?_)
      apply Exists.intro
      refine And.intro (fun wx hx => ?_) ?_
      · have e0 := below_fact hx rfl x2
        have e1 := below_fact hx rfl y2
        have e2 := below_fact hx rfl l0
        have e3 := below_fact hx rfl m0
        go_simp
        try rfl
      go_simp
      refine hK1 _ ?_
      clear hK1 K1
      refine wpPre_e rfl rfl (fun K1 hK1 => ?_)
      apply Exists.intro
      refine And.intro (fun wx hx => ?_) ?_
      · go_simp
        try rfl
      go_simp
      refine hK1 _ ?_
      clear hK1 K1
      refine wpPre_e rfl rfl (fun K1 hK1 => ?_)
      apply Exists.intro
      refine And.intro (fun wx hx => ?_) ?_
      · have e0 := below_fact hx rfl x2
        have e1 := below_fact hx rfl y2
        have e2 := below_fact hx rfl l0
        have e3 := below_fact hx rfl m0
        go_simp
        try rfl
      go_simp
      refine hK1 _ ?_
      clear hK1 K1
      refine wpPre_e rfl rfl (fun K1 hK1 => ?_)
      apply Exists.intro
      refine And.intro (fun wx hx => ?_) ?_
      · go_simp
        try rfl
      go_simp
      refine hK1 _ ?_
      clear hK1 K1
      refine wpPre_e rfl rfl (fun K1 hK1 => ?_)
      apply Exists.intro
      refine And.intro (fun wx hx => ?_) ?_
      · go_simp
        try rfl
      go_simp
      refine hK1 _ ?_
      clear hK1 K1
      refine wpPre_e rfl rfl (fun K1 hK1 => ?_)
      apply Exists.intro
      refine And.intro (fun wx hx => ?_) ?_
      · have e0 := below_fact hx rfl x2
        have e1 := below_fact hx rfl y2
        have e2 := below_fact hx rfl l0
        have e3 := below_fact hx rfl m0
        go_simp
        try rfl
      go_simp
      refine hK1 _ ?_
      clear hK1 K1
      refine wpPre_nil ?_
      refine wpTr_e rfl (fun K1 hK1 => ?_)
      refine step_call rfl 44 #[.tmp 40, .tmp 45] _ rfl Try.f44 Try.func44 (by kernel_rfl) rfl #[.slice (lg.item k).p (lg.item k).n (lg.item k).c, .slice (lg2.item k).p (lg2.item k).n (lg2.item k).c] rfl _ HLk.out (fun e w4 h4 => ?_)
      obtain ⟨r4, rfl, hr4, hb4⟩ := h4
      obtain rfl : r4 = true := hr4.2 HLa1.out
      refine ⟨_, rfl, ?_⟩
      have HB4 : Hid (Below W0.heap.size W0 w4) := HBr.out.trans (((Below.refl wr.heap.size wr).drew.trans hb4).mono HBr.out.size)
      clear hb4 hr4 HLk HLa1
      go_simp
      refine hK1 _ _ (fun h => by cases h) ?_
      clear hK1 K1
      refine wpPre_e rfl rfl (fun K1 hK1 => ?_)
      apply Exists.intro
      refine And.intro (fun wx hx => ?_) ?_
      · go_simp
        try rfl
      go_simp
      refine hK1 _ ?_
      clear hK1 K1
      refine wpPre_nil ?_
      refine wpTr_done ?_
      go_wp2
      go_roundw
      case rel => exact ⟨k + 1, by omega, by go_num, HB4.out⟩
      case measure => simp [intOf]; omega
    · have hlt' : ¬ (k : Int) < (N : Int) := by omega
      clear hbr
      go_wp2
      refine bodyPost_ret (v := .bool true) (by simp [results, Try.results49, go_sem]) rfl ?_
      exact ⟨rfl, HT.out.bel.trans (HBr.out.mono HT.out.bel.size)⟩
end Go.Proofs.Ytdncnnjhfipokaa

namespace Go.Proofs.Ytdncnnjhfipokaa
open Go.RowKit
set_option maxRecDepth 8000
theorem LT.Alk.via {α : Type} (R : α → α → Prop) (ht : ∀ x y z : α, R x y → R y z → R x z) {a b c : LT α} (h : LT.Alk R a b) (k : LT.Alk R b c) : LT.Alk R a c :=
  ⟨k.n.trans h.n, fun j hj => ht _ _ _ (h.item j hj) (k.item j (by rw [h.n]; exact hj))⟩
theorem ratr {r q s : RT} (h : RT.Alike r q) (k : RT.Alike q s) : RT.Alike r s := ⟨k.key.trans h.key, h.v.trans k.v, k.n.trans h.n, fun j hj => (k.loop j (by rw [h.n]; exact hj)).trans (h.loop j hj)⟩
theorem TookQ.via {x : Int} {r u : RT} {w w' : World} {b : Nat} {K K' : Bk} (q : TookQ x u w b K w' K') (h : RT.Alike r u) : TookQ x r w b K w' K' :=
  ⟨q.s, q.n, fun e => by obtain ⟨v, p, c, g1, g2, g3⟩ := q.y e; exact ⟨v, p, c, ratr h g1, g2, g3⟩⟩
theorem MarkQ.via {x id : Int} {a a' : LT RT} {num : Int} {l l' : LT VT} {q q' : LT RT} {w w' : World} {b : Nat} {K K' : Bk} {r : Bool} (m : MarkQ x id a' num l' q' w b K w' K' r) (ha : LT.Alk RT.Alike a a') (hl : LT.Alk VT.Alike l l') (hq : LT.Alk RT.Alike q q') : MarkQ x id a num l q w b K w' K' r := by
  refine ⟨m.s, m.n, fun e => ?_⟩
  obtain ⟨w1, g1, g2, g3⟩ := m.y e
  refine ⟨w1, g1, g2, ⟨⟨g3.b.s, g3.b.now, g3.b.mode, g3.b.ports, g3.b.back, g3.b.cp, g3.b.lgo, g3.b.lgi, fun h => ?_, fun h => ?_, g3.b.ncp⟩, g3.st⟩⟩
  · obtain ⟨mm, p, c, f1, f2, f3⟩ := g3.b.lg3 h
    exact ⟨mm, p, c, f1, LT.Alk.via RT.Alike (fun _ _ _ h k => ratr h k) ha f2, f3⟩
  · obtain ⟨f1, f2, f3, f4, f5⟩ := g3.b.cpd h
    exact ⟨f1, LT.Alk.via VT.Alike (fun _ _ _ h k => VT.Alike.trans h k) hl f2, LT.Alk.via RT.Alike (fun _ _ _ h k => ratr h k) hq f3, f4, f5⟩
theorem EP.noneX {N : Nat} {x : Int} {K K' : Bk} {R : Rb} {r : RT} {w1 w1' : World} {b : Nat} (e : EP N K R) (hn : ¬ K.tookE x = 0 ∨ R.ls.n = 0) (q : TookQ x r w1 b K w1' K') : EP N K' R := by
  have : K.lays x = false := by
    rcases hn with h | h
    · exact Bk.lays_no h
    · have : R.cp = -1 := by unfold Rb.cp; rw [if_pos h]
      unfold Bk.lays
      rw [e.cp, this]
      simp
  rw [q.n this]; exact e
theorem EP.tookX {N : Nat} {x : Int} {K K' : Bk} {R R' : Rb} {r : RT} {w1 w1' w2 w2' : World} {b rb : Nat} (e : EP N K R) (hp : K.ports ≤ 4) (q : TookQ x r w1 b K w1' K') (q2 : RTookQ x r w2 rb R w2' R') : EP N K' R' := by
  by_cases h : K.tookE x = 0 ∧ 0 < R.ls.n
  · have hx := Bk.has_took h.1
    simp only [Bk.has, Bool.and_eq_true, decide_eq_true_eq] at hx
    obtain ⟨i, rfl⟩ : ∃ i : Nat, x = (i : Int) := ⟨x.toNat, by omega⟩
    obtain ⟨u, pp, c, hal, hin, rfl⟩ := q2.y (by rw [e.tookE hp]; exact h.1) h.2
    exact e.took (by omega) h.2 h.1 (hin.r rfl) hal q
  · have h2 : ¬ K.tookE x = 0 ∨ R.ls.n = 0 := by
      by_cases h3 : K.tookE x = 0
      · right
        by_cases h4 : 0 < R.ls.n
        · exact absurd ⟨h3, h4⟩ h
        · omega
      · exact .inl h3
    rw [q2.n (by rw [e.tookE hp]; exact h2)]
    exact e.noneX h2 q
theorem EP.markX {N : Nat} {x id : Int} {a : LT RT} {num : Int} {l : LT VT} {q : LT RT} {w w' u u' : World} {b rb : Nat} {K K' : Bk} {R R' : Rb} {r r2 : Bool} (e : EP N K R) (hN4 : N ≤ 4) (hp : K.ports = (N : Int)) (m : MarkQ x id a num l q w b K w' K' r) (m2 : RMarkQ x id a num l q u rb R u' R' r2) : EP N K' R' ∧ r = r2 := by
  by_cases h : K.refE x id = 0
  · have hx := Bk.has_ref h
    simp only [Bk.has, Bool.and_eq_true, decide_eq_true_eq] at hx
    obtain ⟨i, rfl⟩ : ∃ i : Nat, x = (i : Int) := ⟨x.toNat, by omega⟩
    exact e.mark (by omega) (by omega) hN4 hp h m m2
  · obtain ⟨g1, g2⟩ := m.n (by simp [Bk.marks, h])
    obtain ⟨g3, g4⟩ := m2.n (.inl (by rw [e.refE (by omega)]; exact h))
    rw [g1, g2, g3, g4]
    exact ⟨e, rfl⟩
theorem EP.heldX {N : Nat} {K : Bk} {R : Rb} (e : EP N K R) (hp : K.ports ≤ 4) (m : PtS R) (x : Int) : R.heldB x = K.held x := by
  by_cases h : x < 0 ∨ R.ports ≤ x
  · have h1 : R.heldB x = false := by unfold Rb.heldB; rw [m.cl h]; simp
    rw [h1]
    unfold Bk.held Bk.has
    rw [e.ports] at h
    rcases h with h | h
    · rw [decide_eq_false (by omega)]; rfl
    · rw [decide_eq_false (by omega : ¬ x < K.ports), Bool.and_false]; rfl
  · rw [e.ports] at h
    exact e.held x (by omega) (by omega) hp
theorem LgN.tookM {x : Int} {r : RT} {w w' : World} {b m : Nat} {K K' : Bk} (h : LgN K (10000 * m)) (q : TookQ x r w b K w' K') : LgN K' (10000 * (m + 1)) := (h.took q).le (by omega)
def PlaysP (A : Nat → Prop) (w0 w : World) (b rb N m : Nat) (K : Bk) (R : Rb) (e : Ending) (w' : World) : Prop := e = .returned (.bool true) ∧ ∃ K' R', PSet w b rb K R w' K' R' ∧ PJ (fun k => A k ∨ w.heap.size ≤ k) w0 w' b rb N (m + 1) K' R'
theorem TookQ.po {x : Int} {r : RT} {w w' : World} {b : Nat} {K K' : Bk} (q : TookQ x r w b K w' K') : K'.ports = K.ports := by
  rcases e : K.lays x with _ | _
  · rw [q.n e]
  · obtain ⟨u, p, c, _, _, rfl⟩ := q.y e; rfl
theorem MarkQ.po {x id : Int} {a : LT RT} {num : Int} {l : LT VT} {q : LT RT} {w w' : World} {b : Nat} {K K' : Bk} {r : Bool} (m : MarkQ x id a num l q w b K w' K' r) : K'.ports = K.ports := by
  rcases e : K.marks x id with _ | _
  · rw [(m.n e).1]
  · obtain ⟨w1, _, _, hQ⟩ := m.y e
    rw [hQ.b.ports]
    unfold Bk.base; split <;> rfl
theorem PMk.klog {A : Nat → Prop} {w : World} {b rb : Nat} {K : Bk} {R : Rb} (m : PMk A w b rb K R) (h : BkI w b K) (hdis : ∀ k, K.C b k → ¬ R.C rb k) {p : Nat} (hp : p < 4) (hn : (K.lg p).n ≤ 140737488355328) : LT.In elRec w (fun k => k ≠ b ∧ ¬ R.C rb k) (K.lg p) :=
  own_in' (E := elRec) (h.own p hp) (fun k hk => ⟨fun e => h.ne p hp (e ▸ hk), hdis k (.inr ⟨p, hp, hk⟩)⟩) (fun j hj => (m.kl p hp j hj).mono fun _ hk _ => ⟨fun e => hk.2.1 (.inl e), hk.2.2⟩) hn
theorem part_logsP {A : Nat → Prop} {w w' : World} {b rb N : Nat} {K : Bk} {R : Rb} {p : Option Addr} {c : Nat} (m : PMk A w b rb K R) (h : BkI w b K) (hdis : ∀ k, K.C b k → ¬ R.C rb k) (hR : RbI w rb R) (hb : But (fun k => k = b) w w') (ho : w'.ownsRow w.heap.size 37 1 (.slice p N c) N (K.lvs N)) (hN : N ≤ 4) (hn : ∀ p, p < 4 → (K.lg p).n ≤ 140737488355328) :
    LT.In elRecs w' (fun k => ¬ R.C rb k) ⟨p, N, c, K.lg⟩ := by
  have e : K.lvs N = (List.range N).flatMap fun j => elRecs.cells (K.lg j) := by
    unfold Bk.lvs Bk.lv
    exact List.map_eq_flatMap
  rw [e] at ho
  exact own_in' (E := elRecs) (l := ⟨p, N, c, K.lg⟩) ho (fun k hk e2 => by have h1 := (ho.lt k hk).1; have h2 := hR.lt e2; omega) (fun j hj => (((m.klog h hdis (p := j) (by have : j < N := hj; omega) (hn j (by have : j < N := hj; omega))).kept hb.size fun k hk hl => hb.block k hl hk.1).mono fun _ hk _ => hk.2 : LT.In elRec w' _ _)) (by show N ≤ _; omega)
/-- the book's part and the document's are alike -/
theorem EP.parts {N : Nat} {K : Bk} {R : Rb} {w w' : World} {e : Ending} {l1 : LT VT} {q1 : LT RT} {lg : LT (LT RT)} {u : World} {S : Nat → Prop} (e0 : EP N K R) (hN4 : N ≤ 4) (hd : R.doneB N = true) (y : RPartY R N w w' e l1 q1 lg) (kc : LT.In elCell u S K.cl) (kp : LT.In elRec u S K.pd) (kl : ∀ p, p < N → ∀ j, j < (K.lg p).n → RT.In u S ((K.lg p).item j)) :
    K.num = (R.ls.item R.cp.toNat).num ∧ LT.Alk VT.Alike K.cl l1 ∧ LT.Alk RT.Alike K.pd q1 ∧ ∀ p, p < N → LT.Alk RT.Alike (K.lg p) (lg.item p) := by
  unfold Rb.doneB at hd
  simp only [Bool.and_eq_true, decide_eq_true_eq, List.all_eq_true, List.mem_range, Bool.not_eq_true'] at hd
  obtain ⟨g1, g2, g3⟩ := e0.sn hd.1.1 hd.1.2
  refine ⟨g1, Alk.two g2 y.al fun x hx h1 h2 => va2 (kc.each x hx) h1 h2, Alk.two g3 y.aq fun x hx h1 h2 => ra2 (kp.each x hx) h1 h2, fun p hlt => ?_⟩
  have h1 := e0.lg hd.1.1 hd.1.2 p (by omega)
  have h2 := y.ag p hlt
  rw [show R.logO (p : Int) = R.logL (p : Int) from if_pos (hd.2 p hlt)] at h1
  exact Alk.two h1 h2 fun x hx k1 k2 => ra2 (kl p hlt x hx) k1 k2
end Go.Proofs.Ytdncnnjhfipokaa
