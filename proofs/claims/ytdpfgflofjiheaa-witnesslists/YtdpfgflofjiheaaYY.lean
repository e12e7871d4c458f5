import Derived.Test.YtdpfgflofjiheaaPack15
import Derived.Laws.OwnMore
namespace Go.Proofs.Ytdpfgflofjiheaa
open Go.RowKit
set_option maxRecDepth 8000

theorem pl_split : ∀ (x y x' y' : List (EV × Bool)), x ++ y = x' ++ y' → (befs x).length = (befs x').length → pl x 0 0 = pl x' 0 0 := by
  intro x y x' y' h hl
  rcases List.append_eq_append_iff.1 h with ⟨m, h1, _⟩ | ⟨m, h1, _⟩
  · have h0 : befs m = [] := List.eq_nil_of_length_eq_zero (by rw [h1, befs_app, List.length_append] at hl; omega)
    rw [h1, pl_app, pl_nobef m _ _ h0, List.append_nil]
  · have h0 : befs m = [] := List.eq_nil_of_length_eq_zero (by rw [h1, befs_app, List.length_append] at hl; omega)
    rw [h1, pl_app, pl_nobef m _ _ h0, List.append_nil]
theorem ev_flat_len (xs : List EV) : (xs.flatMap EV.cells).length = xs.length * 2 := by
  induction xs with
  | nil => rfl
  | cons x r ih => rw [List.flatMap_cons, List.length_append, ih, List.length_cons]; simp [EV.cells]; omega
theorem swap_flat (A B : List EV) (x y : EV) : ((((A ++ x :: y :: B).flatMap EV.cells).set (A.length * 2) (.int .i64 y.task)).set (A.length * 2 + 1) (.int .i64 y.port) |>.set ((A.length + 1) * 2) (.int .i64 x.task) |>.set ((A.length + 1) * 2 + 1) (.int .i64 x.port)) = (A ++ y :: x :: B).flatMap EV.cells := by
  have hl := ev_flat_len A
  simp only [List.flatMap_append, List.flatMap_cons, EV.cells, List.cons_append, List.nil_append]
  rw [List.set_append_right _ _ (by omega), List.set_append_right _ _ (by omega), List.set_append_right _ _ (by omega), List.set_append_right _ _ (by omega)]
  rw [hl, show A.length * 2 - A.length * 2 = 0 by omega, show A.length * 2 + 1 - A.length * 2 = 1 by omega, show (A.length + 1) * 2 - A.length * 2 = 2 by omega, show (A.length + 1) * 2 + 1 - A.length * 2 = 3 by omega]
  rfl
/-- two neighbours changed -/
theorem EvRow.swap {base g c : Nat} {w : World} {A B : List EV} {x y : EV} (h : EvRow base w (.slice (some ⟨g, 0, none⟩) (A ++ x :: y :: B).length c) (A ++ x :: y :: B)) :
    EvRow base ((((w.setCell ⟨g, A.length * 2, none⟩ (.int .i64 y.task)).setCell ⟨g, A.length * 2 + 1, none⟩ (.int .i64 y.port)).setCell ⟨g, (A.length + 1) * 2, none⟩ (.int .i64 x.task)).setCell ⟨g, (A.length + 1) * 2 + 1, none⟩ (.int .i64 x.port)) (.slice (some ⟨g, 0, none⟩) (A ++ x :: y :: B).length c) (A ++ y :: x :: B) := by
  have h4 := ((((h.stored (A.length * 2) (.int .i64 y.task)).1.stored (A.length * 2 + 1) (.int .i64 y.port)).1.stored ((A.length + 1) * 2) (.int .i64 x.task)).1.stored ((A.length + 1) * 2 + 1) (.int .i64 x.port)).1
  rw [swap_flat] at h4
  unfold EvRow
  rw [show (A ++ y :: x :: B).length = (A ++ x :: y :: B).length by simp]
  exact h4
theorem EvRow.at_ {base g n c : Nat} {w : World} {A B : List EV} {x : EV} (h : EvRow base w (.slice (some ⟨g, 0, none⟩) n c) (A ++ x :: B)) : w.cell? ⟨g, A.length * 2, none⟩ = some (.int .i64 x.task) ∧ w.cell? ⟨g, A.length * 2 + 1, none⟩ = some (.int .i64 x.port) ∧ w.frozen? ⟨g, A.length * 2, none⟩ = false ∧ w.frozen? ⟨g, A.length * 2 + 1, none⟩ = false ∧ g < w.heap.size := by
  have hce := @World.ownsRow.cells _ _ _ _ _ _ _ h
  have hlt := h.lt g rfl
  have hl := ev_flat_len A
  have e0 : ((A ++ x :: B).flatMap EV.cells)[A.length * 2]? = some (.int .i64 x.task) := by
    rw [List.flatMap_append, List.getElem?_append_right (by omega), hl]
    simp [EV.cells]
  have e1 : ((A ++ x :: B).flatMap EV.cells)[A.length * 2 + 1]? = some (.int .i64 x.port) := by
    rw [List.flatMap_append, List.getElem?_append_right (by omega), hl]
    simp [EV.cells]
  have c0 := hce (g := g) rfl _ _ e0
  have c1 := hce (g := g) rfl _ _ e1
  rw [Go.WideShapes.add_plain, Nat.zero_add] at c0 c1
  obtain ⟨_, ⟨hv, _⟩ | ⟨gb, cap, cur, hv, hbg, hh, _⟩⟩ := id h
  · cases hv
  · cases hv
    exact ⟨c0, c1, by simp [World.frozen?, hh], by simp [World.frozen?, hh], hlt.2⟩
theorem EvRow.some_ {base : Nat} {w : World} {p : Option Addr} {n c : Nat} {xs : List EV} (h : EvRow base w (.slice p n c) xs) (hx : 0 < xs.length) : ∃ g, p = some ⟨g, 0, none⟩ ∧ n = xs.length ∧ base ≤ g ∧ g < w.heap.size ∧ n ≤ c := by
  have hlt := h.lt
  obtain ⟨_, ⟨hv, h0⟩ | ⟨gb, cap, cur, hv, hbg, hh, hc, _⟩⟩ := id h
  · omega
  · cases hv
    exact ⟨gb, rfl, rfl, hbg, (hlt gb rfl).2, hc⟩
/-- the run while it is turned -/
structure XI (L : List (EV × Bool)) (base : Nat) (w wr : World) (vr x : Value) (t : Nat) : Prop where
  ex : ∃ pre r, L = pre ++ r ∧ (befs pre).length = t ∧ EvRow base wr vr (befs pre ++ afts pre ++ alls r) ∧ InRow w.heap.size wr x (pl pre 0 0)
  but : But (fun k => vr.ownBlock = some k) w wr
structure XJ (pre : List (EV × Bool)) (e : EV) (post : List EV) (base : Nat) (w wr : World) (vr x : Value) (j : Nat) : Prop where
  run : EvRow base wr vr (befs pre ++ (afts pre).take (j - (befs pre).length) ++ e :: ((afts pre).drop (j - (befs pre).length) ++ post))
  pls : InRow w.heap.size wr x (pl pre 0 0 ++ down pre.length j)
  but : But (fun k => vr.ownBlock = some k) w wr
theorem evSub {w : World} {S : Nat → Prop} {g n c t : Nat} {f : Nat → EV} (hl : LT.In elEv w S ⟨some ⟨g, 0, none⟩, n, c, f⟩) (ht : t < n) : LT.In elEv w S ⟨if c = t then (some ⟨g, 0, none⟩ : Option Addr) else some ⟨g, t * 2, none⟩, n - t, c - t, fun j => f (t + j)⟩ := by
  have hnc := hl.nc
  have hnn := hl.nn
  have hcc := hl.cc
  dsimp only at hnc hnn hcc
  refine ⟨fun hn => ?_, fun _ _ => trivial, (by dsimp only; omega), (by dsimp only; omega), (by dsimp only; omega), fun h => ?_⟩
  · dsimp only at hn ⊢
    rw [if_neg (by omega)]
    obtain ⟨b, o, e, hS, hb, ha⟩ := hl.at_ (by dsimp only; omega)
    cases e
    refine ⟨g, t * 2, rfl, hS, hb, fun j hj r u hu => ?_⟩
    have := ha (t + j) (by dsimp only; omega) r u hu
    rw [show t * 2 + j * elEv.size + r = 0 + (t + j) * elEv.size + r by simp only [elEv]; omega]
    exact this
  · dsimp only at h
    split at h <;> cases h
theorem run_split (pre : List (EV × Bool)) (e : EV) (post : List EV) {j : Nat} (h1 : (befs pre).length ≤ j) (h2 : j < pre.length) : ∃ A x0 B, A.length = j ∧ befs pre ++ (afts pre).take (j + 1 - (befs pre).length) ++ e :: ((afts pre).drop (j + 1 - (befs pre).length) ++ post) = A ++ x0 :: e :: B ∧ befs pre ++ (afts pre).take (j - (befs pre).length) ++ e :: ((afts pre).drop (j - (befs pre).length) ++ post) = A ++ e :: x0 :: B := by
  have hs := sides_len pre
  have hlt : j - (befs pre).length < (afts pre).length := by omega
  have e1 : j + 1 - (befs pre).length = (j - (befs pre).length) + 1 := by omega
  refine ⟨befs pre ++ (afts pre).take (j - (befs pre).length), (afts pre)[j - (befs pre).length], (afts pre).drop (j - (befs pre).length + 1) ++ post, ?_, ?_, ?_⟩
  · rw [List.length_append, List.length_take]; omega
  · rw [e1, List.take_succ_eq_append_getElem hlt]
    simp only [List.append_assoc, List.cons_append, List.nil_append]
  · rw [List.drop_eq_getElem_cons hlt]
    simp only [List.append_assoc, List.cons_append]
theorem XJ.first {pre : List (EV × Bool)} {e : EV} {post : List EV} {base : Nat} {w wr : World} {vr x : Value} (h1 : EvRow base wr vr (befs pre ++ afts pre ++ e :: post)) (h2 : InRow w.heap.size wr x (pl pre 0 0)) (h3 : But (fun k => vr.ownBlock = some k) w wr) : XJ pre e post base w wr vr x pre.length := by
  have hs := sides_len pre
  refine ⟨?_, by rw [down_self, List.append_nil]; exact h2, h3⟩
  rw [show pre.length - (befs pre).length = (afts pre).length by omega, List.take_length, List.drop_length]
  exact h1
theorem XJ.last {L pre post : List (EV × Bool)} {e : EV} {base : Nat} {w wr : World} {vr x : Value} (hL : L = pre ++ (e, true) :: post) (h : XJ pre e (alls post) base w wr vr x (befs pre).length) : XI L base w wr vr x ((befs pre).length + 1) := by
  refine ⟨⟨pre ++ [(e, true)], post, by rw [hL]; simp, by rw [befs_app]; simp [befs], ?_, ?_⟩, h.but⟩
  · have h1 := h.run
    rw [Nat.sub_self, List.take_zero, List.drop_zero, List.append_nil] at h1
    have e1 : befs (pre ++ [(e, true)]) = befs pre ++ [e] := by rw [befs_app]; simp [befs]
    have e2 : afts (pre ++ [(e, true)]) = afts pre := by rw [afts_app]; simp [afts]
    rw [e1, e2]
    simpa using h1
  · have h2 := h.pls
    rw [pl_app]
    simp only [pl, List.append_nil, Nat.zero_add]
    exact h2
set_option maxHeartbeats 16000000 in
theorem exchanges_any (L : List (EV × Bool)) (w : World) (base : Nat) (pr pb : Option Addr) (nr nb cr cb : Nat) (hr : EvRow base w (.slice pr nr cr) (alls L)) (hb : EvRow base w (.slice pb nb cb) (befs L)) (hap : ∀ x, (Value.slice pr nr cr).ownBlock = some x → (Value.slice pb nb cb).ownBlock ≠ some x) (hm : Mono L) (hL : L.length ≤ 2000) :
    Calls Try.prog 27 #[.slice pr nr cr, .slice pb nb cb] w fun e w' => ∃ v, e = .returned v ∧ InRow w.heap.size w' v (pl L 0 0) ∧ But (fun k => (Value.slice pr nr cr).ownBlock = some k) w w' := by
  obtain ⟨p9, c9, h9⟩ := ownsRow_slice hb
  obtain rfl : nb = (befs L).length := by cases h9; rfl
  obtain ⟨i0, Kd⟩ := kindIn
  have HKd := hid Kd
  have HR := hid hr
  have HBf := hid hb
  have HAp := hid hap
  have HM := hid hm
  have hbl : (befs L).length ≤ L.length := by have := sides_len L; omega
  clear h9 hr hb hap hm Kd
  go_enter Try.func27, Try.ntmps27
  go_wp2_with fail
  go_loopw [5, 11] (fun x y wr => ∃ t : Nat, t ≤ (befs L).length ∧ y = .int .i64 (t : Int) ∧ XI L base w wr (.slice pr nr cr) x t) (fun _ y _ => (befs L).length - (intOf y).toNat)
  case atStart => exact ⟨0, Nat.zero_le _, rfl, ⟨[], L, rfl, rfl, by simpa [befs, afts] using HR.out, InRow.nil _ _⟩, But.refl _ _⟩
  case round =>
    obtain ⟨t, ht, rfl, hX⟩ := hrel
    have HX := hid hX
    clear hX
    by_cases hlt : t < (befs L).length
    · have hlt' : (t : Int) < ((befs L).length : Int) := by omega
      obtain ⟨pre, e, post, hL2, hpt⟩ := next_bef L t hlt
      obtain ⟨pre0, r0, hL3, hp0, hrun0, hpl0⟩ := HX.out.ex
      have hst := befs_nil_split pre0 r0 pre ((e, true) :: post) (by rw [← hL3, hL2]) (by omega)
      have hpl := pl_split pre0 r0 pre ((e, true) :: post) (by rw [← hL3, hL2]) (by omega)
      rw [hst] at hrun0
      rw [hpl] at hpl0
      have hal : alls ((e, true) :: post) = e :: alls post := rfl
      rw [hal] at hrun0
      have hsl := sides_len pre
      obtain ⟨g, hpg, hnr, hbg, hgl, hnc⟩ := hrun0.some_ (by simp; omega)
      have hbb : EvRow base wr (.slice pb (befs L).length cb) (befs L) := ownsRow_keep HBf.out (fun k hk hl => HX.out.but.block k (HBf.out.lt k hk).2 (fun e => HAp.out k e hk))
      obtain ⟨gb, hpb, _, _, hgbl, _⟩ := hbb.some_ (by omega)
      have hbL : befs L = befs pre ++ e :: befs post := by rw [hL2, befs_app]; simp [befs]
      subst hpb
      subst hpg
      have hbb2 := hbb
      rw [hbL] at hbb2
      obtain ⟨b0, b1, _, _, _⟩ := hbb2.at_
      rw [hpt] at b0 b1
      obtain ⟨V, hV⟩ : ∃ X, X = wr.alloc (.cells #[.int .i64 e.task, .int .i64 e.port] 39) := ⟨_, rfl⟩
      have hbV : Below wr.heap.size wr V := by rw [hV]; exact below1 _ _
      have bx : Box V wr.heap.size #[.int .i64 e.task, .int .i64 e.port] 39 := by rw [hV]; exact Box.new _ _ _
      have e0 := bx.cell 0
      have e1 := bx.cell 1
      simp at e0 e1
      have hLl : L.length = pre.length + 1 + post.length := by rw [hL2]; simp; omega
      have hpl2 : pre.length < 2000 := by omega
      have hnrt : t < nr := by rw [hnr]; simp; omega
      have hnrn : nr ≤ 140737488355328 := by rw [hnr]; simp [alls_len]; omega
      have htn : t ≤ pre.length := by omega
      have hafl : (afts pre).length = pre.length - t := by omega
      obtain ⟨pq, cq, hveq, hin⟩ := (hrun0.below hbV).in_ (by rw [← hnr]; exact hnrn)
      cases hveq
      have hsub := evSub hin (t := t) (by simp; omega)
      have hne : ∀ x ∈ afts pre, x ≠ e := fun x hx h => by
        have h2 : Mono (pre ++ (e, true) :: post) := by rw [← hL2]; exact HM.out
        exact h2.afts x hx (by rw [h])
      have HI : Hid (Calls Try.prog 39 #[.slice (if cr = t then (some ⟨g, 0, none⟩ : Option Addr) else some ⟨g, t * 2, none⟩) ((befs pre ++ afts pre ++ e :: alls post).length - t) (cr - t), .agg #[.int .i64 e.task, .int .i64 e.port]] V.drew fun r w' => r = .returned (.int .i64 ((pre.length - t : Nat) : Int)) ∧ Below V.heap.size V w') := by
        refine (YNe_any _ e V.drew _ (hsub.below (Below.refl _ V).drew)).mono ?_
        rintro r w' ⟨hq, hbq⟩
        have hb9 : Below V.heap.size V w' := (Below.refl _ V).drew.trans hbq
        have hget : ∀ q, q < (afts pre).length → (befs pre ++ afts pre ++ e :: alls post).getD (t + q) ⟨0, 0⟩ ∈ afts pre := fun q hq => by
          rw [List.getD_eq_getElem?_getD, List.append_assoc, List.getElem?_append_right (by omega), List.getElem?_append_left (by omega), hpt, Nat.add_sub_cancel_left, List.getElem?_eq_getElem hq]
          exact List.getElem_mem hq
        have hat : (befs pre ++ afts pre ++ e :: alls post).getD (t + (afts pre).length) ⟨0, 0⟩ = e := by
          rw [List.getD_eq_getElem?_getD, List.getElem?_append_right (by rw [List.length_append]; omega), List.length_append, hpt, Nat.sub_self]
          rfl
        rcases hq with ⟨_, h⟩ | ⟨k, h1, h2, h3, h4⟩
        · exact (h (afts pre).length (by dsimp only; simp; omega) hat).elim
        · have hk : k = (afts pre).length := by
            rcases Nat.lt_trichotomy k (afts pre).length with h5 | h5 | h5
            · exact (hne _ (hget k h5) h3).elim
            · exact h5
            · exact (h4 _ h5 hat).elim
          refine ⟨?_, hb9⟩
          rw [h2, hk, hafl]
      have hncr : (befs pre ++ afts pre ++ e :: alls post).length ≤ cr := hnc
      have hnrt' : (t : Int) ≤ (((befs pre ++ afts pre ++ e :: alls post).length : Nat) : Int) := by omega
      have ht0 : (0 : Int) ≤ (t : Int) := by omega
      have HRunV := hid (hrun0.below hbV)
      have HPlV := hid (hpl0.below hbV)
      have HButV : Hid (But (fun k => (Value.slice (some ⟨g, 0, none⟩) (befs pre ++ afts pre ++ e :: alls post).length cr).ownBlock = some k) w V) := HX.out.but.trans (But.ofBelow hbV)
      have HV := hid hV
      have HPt := hid hpt
      have HL2 := hid hL2
      have HHafl := hid hafl
      have HGb := hid hbg
      have HSl := hid hsl
      have HSzw : Hid (w.heap.size ≤ V.heap.size) := HButV.out.size
      clear hV hbV bx hrun0 hpl0 hst hpl hal hbb hbb2 hbL hin hsub hne hL3 hp0 hpt hL2 hafl hsl hnr
      obtain ⟨nn, hnn⟩ : ∃ nn, nn = (befs pre ++ afts pre ++ e :: alls post).length := ⟨_, rfl⟩
      rw [← hnn] at HI hncr hnrt' HRunV HButV hnrt hnrn hnc HR HAp HX ⊢
      have HNn := hid hnn
      clear hnn
      go_upto_region 5 with fail
      rw [← HV.out]
      refine wp_region_calmE 30 (fun wx => Below V.heap.size V wx) [(0, true), (1, true), (2, true), (3, true), (4, false)] (.one 5 false [(6, true), (7, true)] .done) (by kernel_rfl) (by kernel_rfl) (Below.refl _ _).drew ?_
      refine wpPre_e rfl rfl (fun K1 hK1 => ?_)
      apply Exists.intro
      refine And.intro (fun wx hx => ?_) ?_
      · go_simp
        try rfl
      go_simp
      refine hK1 _ ?_
      clear hK1 K1
      refine wpPre_e rfl rfl (fun K1 hK1 => ?_)
      apply Exists.intro
      refine And.intro (fun wx hx => ?_) ?_
      · go_simp
        try rfl
      go_simp
      refine hK1 _ ?_
      clear hK1 K1
      refine wpPre_e rfl rfl (fun K1 hK1 => ?_)
      apply Exists.intro
      refine And.intro (fun wx hx => ?_) ?_
      · go_simp
        try rfl
      go_simp
      refine hK1 _ ?_
      clear hK1 K1
      refine wpPre_e rfl rfl (fun K1 hK1 => ?_)
      apply Exists.intro
      refine And.intro (fun wx hx => ?_) ?_
      · go_simp
        try rfl
      go_simp
      refine hK1 _ ?_
      clear hK1 K1
      generalize hpe : (if cr = t then (some ⟨g, 0, none⟩ : Option Addr) else some ⟨g, t * 2, none⟩) = ps
      rw [hpe] at HI
      clear hpe
      refine wpPre_e rfl rfl (fun K1 hK1 => ?_)
      apply Exists.intro
      refine And.intro (fun wx hx => ?_) ?_
      · have e0 := below_fact hx rfl e0
        have e1 := below_fact hx rfl e1
        go_simp
        try rfl
      go_simp
      refine hK1 _ ?_
      clear hK1 K1
      refine wpPre_nil ?_
      refine wpTr_e rfl (fun K1 hK1 => ?_)
      refine step_callG (by first | rfl | go_simp) 39 #[.tmp 19, .tmp 20] _ rfl Try.f39 Try.func39 (by kernel_rfl) rfl #[.slice ps (nn - t) (cr - t), .agg #[.int .i64 e.task, .int .i64 e.port]] rfl _ HI.out ?_
      rintro e_ w2 ⟨rfl, hb2⟩
      refine ⟨_, rfl, ?_⟩
      have HB2 := hid hb2
      clear hb2
      go_simp
      refine hK1 _ _ (fun h => by cases h) ?_
      clear hK1 K1
      refine wpPre_e rfl rfl (fun K1 hK1 => ?_)
      apply Exists.intro
      refine And.intro (fun wx hx => ?_) ?_
      · go_simp
        try rfl
      go_simp
      refine hK1 _ ?_
      clear hK1 K1
      rw [show IntKind.i64.wrap ((t : Int) + ((pre.length - t : Nat) : Int)) = (pre.length : Int) by rw [IntKind.wrap_i64]; omega]
      refine wpPre_e rfl rfl (fun K1 hK1 => ?_)
      apply Exists.intro
      refine And.intro (fun wx hx => ?_) ?_
      · go_simp
        try rfl
      go_simp
      refine hK1 _ ?_
      clear hK1 K1
      refine wpPre_nil ?_
      refine wpTr_done ?_
      have HJ0 : Hid (XJ pre e (alls post) base w w2 (.slice (some ⟨g, 0, none⟩) nn cr) u5 pre.length) := XJ.first (HRunV.out.below HB2.out) (HPlV.out.below HB2.out) (HButV.out.trans (But.ofBelow HB2.out))
      obtain ⟨wo, hwo⟩ : ∃ x, x = wr := ⟨_, rfl⟩
      subst hwo
      clear e0 e1 b0 b1
      go_wp2_with fail
      go_loopw [5, 8] (fun x y wr => ∃ j : Nat, t ≤ j ∧ j ≤ pre.length ∧ y = .int .i64 (j : Int) ∧ XJ pre e (alls post) base w wr (.slice (some ⟨g, 0, none⟩) nn cr) x j) (fun _ y _ => (intOf y).toNat)
      case atStart => exact ⟨pre.length, htn, Nat.le_refl _, rfl, HJ0.out⟩
      case round =>
        obtain ⟨j, htj, hjn, rfl, hJ⟩ := hrel
        have HJ := hid hJ
        clear hJ
        by_cases htj2 : t < j
        · obtain ⟨j, rfl⟩ : ∃ k, j = k + 1 := ⟨j - 1, by omega⟩
          have htj' : (t : Int) < ((j + 1 : Nat) : Int) := by omega
          obtain ⟨A, x0, B, hA, hr1, hr2⟩ := run_split pre e (alls post) (j := j) (by have := HPt.out; omega) (by omega)
          have hrun := HJ.out.run
          rw [hr1] at hrun
          have hA0 := hrun.at_
          rw [show A ++ x0 :: e :: B = (A ++ [x0]) ++ e :: B by simp] at hrun
          have hA1 := hrun.at_
          rw [show (A ++ [x0]) ++ e :: B = A ++ x0 :: e :: B by simp] at hrun
          obtain ⟨a0, a1, f0, f1, gl⟩ := hA0
          obtain ⟨a2, a3, f2, f3, _⟩ := hA1
          have hA' : (A ++ [x0]).length = j + 1 := by simp [hA]
          rw [hA] at a0 a1 f0 f1
          rw [hA'] at a2 a3 f2 f3
          have hnn2 : nn = (A ++ x0 :: e :: B).length := by obtain ⟨p9, c9, h9⟩ := ownsRow_slice hrun; cases h9; rfl
          have hjnn : j + 1 < nn := by rw [hnn2]; simp; omega
          have hjnn' : (j : Int) + 1 < (nn : Int) := by omega
          have hjnn2 : (j : Int) < (nn : Int) := by omega
          have hsw := EvRow.swap (by rw [← hnn2]; exact hrun)
          rw [← hnn2, hA] at hsw
          obtain ⟨U, hU⟩ : ∃ U, U = (((wr.setCell ⟨g, j * 2, none⟩ (.int .i64 e.task)).setCell ⟨g, j * 2 + 1, none⟩ (.int .i64 e.port)).setCell ⟨g, (j + 1) * 2, none⟩ (.int .i64 x0.task)).setCell ⟨g, (j + 1) * 2 + 1, none⟩ (.int .i64 x0.port) := ⟨_, rfl⟩
          rw [← hU, ← hr2] at hsw
          have hbU : But (fun k => k = g) wr U := by rw [hU]; exact ((((But.one wr g).setAt _ _).setAt _ _).setAt _ _).setAt _ _
          have HSw := hid hsw
          have HU := hid hU
          have HBU := hid hbU
          clear hsw hU hbU hrun hr1 hr2 hA hA' hnn2
          have d1 : ¬ (j + 1) * 2 = j * 2 := by omega
          have d2 : ¬ (j + 1) * 2 = j * 2 + 1 := by omega
          have d3 : ¬ (j + 1) * 2 + 1 = j * 2 := by omega
          have d4 : ¬ (j + 1) * 2 + 1 = j * 2 + 1 := by omega
          have d5 : ¬ j * 2 = (j + 1) * 2 := by omega
          have d6 : ¬ j * 2 + 1 = (j + 1) * 2 := by omega
          have d7 : ¬ j * 2 = (j + 1) * 2 + 1 := by omega
          have d8 : ¬ j * 2 + 1 = (j + 1) * 2 + 1 := by omega
          have hj47 : j + 1 ≤ 140737488355328 := by omega
          go_upto_region 8 with fail
          refine wp_region_calmE 30 (fun wx => Below wr.heap.size wr wx) [(0, true), (1, true), (2, true), (3, true), (4, true), (5, true), (6, true), (7, true), (8, false), (9, true), (10, true), (11, true), (12, true), (13, false), (14, true)] (.one 15 false [(16, true)] (.one 17 false [] .done)) (by kernel_rfl) (by kernel_rfl) (Below.refl _ _).drew ?_
          refine wpPre_e rfl rfl (fun K1 hK1 => ?_)
          apply Exists.intro
          refine And.intro (fun wx hx => ?_) ?_
          · go_simp
            try rfl
          go_simp
          refine hK1 _ ?_
          clear hK1 K1
          refine wpPre_e rfl rfl (fun K1 hK1 => ?_)
          apply Exists.intro
          refine And.intro (fun wx hx => ?_) ?_
          · go_simp
            try rfl
          go_simp
          refine hK1 _ ?_
          clear hK1 K1
          refine wpPre_e rfl rfl (fun K1 hK1 => ?_)
          apply Exists.intro
          refine And.intro (fun wx hx => ?_) ?_
          · go_simp
            try rfl
          go_simp
          refine hK1 _ ?_
          clear hK1 K1
          first | rw [show IntKind.i64.wrap ((j : Int) + 1 - 1) = (j : Int) by rw [IntKind.wrap_i64]; omega] | rw [show IntKind.i64.wrap (j : Int) = (j : Int) by rw [IntKind.wrap_i64]; omega]
          refine wpPre_e rfl rfl (fun K1 hK1 => ?_)
          apply Exists.intro
          refine And.intro (fun wx hx => ?_) ?_
          · go_simp
            try rfl
          go_simp
          refine hK1 _ ?_
          clear hK1 K1
          refine wpPre_e rfl rfl (fun K1 hK1 => ?_)
          apply Exists.intro
          refine And.intro (fun wx hx => ?_) ?_
          · go_simp
            try rfl
          go_simp
          refine hK1 _ ?_
          clear hK1 K1
          refine wpPre_e rfl rfl (fun K1 hK1 => ?_)
          apply Exists.intro
          refine And.intro (fun wx hx => ?_) ?_
          · go_simp
            try rfl
          go_simp
          refine hK1 _ ?_
          clear hK1 K1
          refine wpPre_e rfl rfl (fun K1 hK1 => ?_)
          apply Exists.intro
          refine And.intro (fun wx hx => ?_) ?_
          · go_simp
            try rfl
          go_simp
          refine hK1 _ ?_
          clear hK1 K1
          refine wpPre_e rfl rfl (fun K1 hK1 => ?_)
          apply Exists.intro
          refine And.intro (fun wx hx => ?_) ?_
          · go_simp
            try rfl
          go_simp
          refine hK1 _ ?_
          clear hK1 K1
          refine wpPre_e rfl rfl (fun K1 hK1 => ?_)
          apply Exists.intro
          refine And.intro (fun wx hx => ?_) ?_
          · have e0 := below_fact hx rfl a0
            have e1 := below_fact hx rfl a1
            have e2 := below_fact hx rfl a2
            have e3 := below_fact hx rfl a3
            go_simp
            try rfl
          go_simp
          refine hK1 _ ?_
          clear hK1 K1
          refine wpPre_e rfl rfl (fun K1 hK1 => ?_)
          apply Exists.intro
          refine And.intro (fun wx hx => ?_) ?_
          · go_simp
            try rfl
          go_simp
          refine hK1 _ ?_
          clear hK1 K1
          refine wpPre_e rfl rfl (fun K1 hK1 => ?_)
          apply Exists.intro
          refine And.intro (fun wx hx => ?_) ?_
          · go_simp
            try rfl
          go_simp
          refine hK1 _ ?_
          clear hK1 K1
          refine wpPre_e rfl rfl (fun K1 hK1 => ?_)
          apply Exists.intro
          refine And.intro (fun wx hx => ?_) ?_
          · go_simp
            try rfl
          go_simp
          refine hK1 _ ?_
          clear hK1 K1
          first | rw [show IntKind.i64.wrap ((j : Int) + 1 - 1) = (j : Int) by rw [IntKind.wrap_i64]; omega] | rw [show IntKind.i64.wrap (j : Int) = (j : Int) by rw [IntKind.wrap_i64]; omega]
          refine wpPre_e rfl rfl (fun K1 hK1 => ?_)
          apply Exists.intro
          refine And.intro (fun wx hx => ?_) ?_
          · go_simp
            try rfl
          go_simp
          refine hK1 _ ?_
          clear hK1 K1
          refine wpPre_e rfl rfl (fun K1 hK1 => ?_)
          apply Exists.intro
          refine And.intro (fun wx hx => ?_) ?_
          · have e0 := below_fact hx rfl a0
            have e1 := below_fact hx rfl a1
            have e2 := below_fact hx rfl a2
            have e3 := below_fact hx rfl a3
            go_simp
            try rfl
          go_simp
          refine hK1 _ ?_
          clear hK1 K1
          refine wpPre_e rfl rfl (fun K1 hK1 => ?_)
          apply Exists.intro
          refine And.intro (fun wx hx => ?_) ?_
          · go_simp
            try rfl
          go_simp
          refine hK1 _ ?_
          clear hK1 K1
          refine wpPre_nil ?_
          refine wpTr_e rfl (fun K1 hK1 => ?_)
          go_simp
          refine hK1 _ _ (fun h => by cases h) ?_
          clear hK1 K1
          refine wpPre_e rfl rfl (fun K1 hK1 => ?_)
          apply Exists.intro
          refine And.intro (fun wx hx => ?_) ?_
          · go_simp
            try rfl
          go_simp
          refine hK1 _ ?_
          clear hK1 K1
          refine wpPre_nil ?_
          refine wpTr_e rfl (fun K1 hK1 => ?_)
          go_simp
          refine hK1 _ _ (fun h => by cases h) ?_
          clear hK1 K1
          refine wpPre_nil ?_
          refine wpTr_done ?_
          rw [← HU.out]
          have hgw : g < w.heap.size := (HR.out.lt g rfl).2
          have hplu : InRow w.heap.size U u5 (pl pre 0 0 ++ down pre.length (j + 1)) := HJ.out.pls.keep fun k hk hl => HBU.out.block k hl (fun e => by omega)
          have HPU := hid hplu
          have hpl4 : (pl pre 0 0 ++ down pre.length (j + 1)).length ≤ 4002000 := by
            have h1 := pl_len pre 0 0 2000 (by omega)
            have h2 : pre.length * 2000 ≤ 2000 * 2000 := Nat.mul_le_mul_right _ (by omega)
            rw [List.length_append, down_len]
            omega
          have HNw : Hid (∀ j' u', [Value.int .i64 (j : Int)][j']? = some u' → ((U.drew).alloc (.cells #[.int .i64 (j : Int)] 3)).cell? ((⟨U.heap.size, 0, none⟩ : Addr).add j') = some u') := fun j' u' hu => by
            have h9 := (Box.new U.drew #[.int .i64 (j : Int)] 3).cell (0 + j')
            rw [Go.WideShapes.add_plain]
            refine Eq.trans h9 ?_
            rw [show 0 + j' = j' by omega]
            simpa using hu
          obtain ⟨P0, hP0⟩ : ∃ q, q = pl pre 0 0 ++ down pre.length (j + 1) := ⟨_, rfl⟩
          rw [← hP0] at HPU hpl4
          have HP0 := hid hP0
          clear hP0 hplu
          have hszU : w.heap.size ≤ U.heap.size := Nat.le_trans HJ.out.but.size HBU.out.size
          clear a0 a1 a2 a3 f0 f1 f2 f3 d1 d2 d3 d4 d5 d6 d7 d8
          go_wp2_with (at_builtin; refine wpList_app rfl (.tmp 44) (.tmp 47) 23 3 i0 _ 1 8 HKd.out rfl w.heap.size u5 P0.length _ rfl (World.ownsRow.alloc HPU.out _) ⟨U.heap.size, 0, none⟩ 1 1 [.int .i64 (j : Int)] rfl rfl HNw.out (by simp [Value.oneCell']) (by omega) (by omega) (by simp; omega) ?_)
          intro v3 w3 ho3 hg3 hn3
          obtain ⟨pp, cc, rfl⟩ := ownsRow_slice ho3
          have ha : Below U.heap.size U (U.alloc (.cells #[.int .i64 (j : Int)] 3)).drew := (below1 _ _).drew
          have HJn : Hid (XJ pre e (alls post) base w w3 (.slice (some ⟨g, 0, none⟩) nn cr) (.slice pp (P0.length + 1) cc) j) := by
            have hub : ∀ k, u5.ownBlock = some k → w.heap.size ≤ k := fun k hk => (HPU.out.lt k hk).1
            have hbk : ∀ k, k < U.heap.size → u5.ownBlock ≠ some k → w3.heap[k]? = U.heap[k]? := fun k hk hne => (hg3.block k (Nat.lt_of_lt_of_le hk ha.size) (fun e => hne e.symm)).trans (ha.block k hk)
            refine ⟨?_, ?_, ?_⟩
            · exact ownsRow_keep HSw.out (fun k hk hl => hbk k hl (fun e => by cases hk; have := hub g e; omega))
            · have e9 : pl pre 0 0 ++ down pre.length j = P0 ++ [(j : Int)] := by rw [HP0.out, down_snoc (by omega), List.append_assoc]
              rw [e9]
              exact InRow.push ho3
            · refine ⟨hg3.os.trans (ha.os.trans (HBU.out.os.trans HJ.out.but.os)), hg3.tape.trans (ha.tape.trans (HBU.out.tape.trans HJ.out.but.tape)), hg3.output.trans (ha.output.trans (HBU.out.output.trans HJ.out.but.output)), Nat.le_trans hszU (Nat.le_trans ha.size hg3.size), fun k hk hx => ?_⟩
              have hkg : k ≠ g := fun e => hx (by rw [e]; rfl)
              exact (hbk k (by omega) (fun e => by have := hub k e; omega)).trans ((HBU.out.block k (Nat.lt_of_lt_of_le hk HJ.out.but.size) hkg).trans (HJ.out.but.block k hk hx))
          clear ho3 hg3 hn3 ha HNw
          go_wp2
          go_roundw
          case rel => exact ⟨j, by omega, by omega, by go_num, HJn.out⟩
          case measure => simp [intOf]
        · obtain rfl : j = t := by omega
          have HXn : Hid (XI L base w wr (.slice (some ⟨g, 0, none⟩) nn cr) u5 (j + 1)) := by
            have h1 := HJ.out
            rw [← HPt.out] at h1 ⊢
            exact h1.last HL2.out
          go_wp2
          go_roundw
          case rel => exact ⟨j + 1, by omega, by go_num, HXn.out⟩
          case measure => simp [intOf]; omega
    · obtain rfl : t = (befs L).length := by omega
      obtain ⟨pre, r, h1, h2, h3, h4⟩ := HX.out.ex
      obtain ⟨pp, cc, hpc⟩ := ownsRow_slice h4
      have hnb : befs r = [] := List.eq_nil_of_length_eq_zero (by
        have h5 : (befs L).length = (befs pre).length + (befs r).length := by rw [h1, befs_app, List.length_append]
        omega)
      have h6 : pl L 0 0 = pl pre 0 0 := by rw [h1, pl_app, pl_nobef r _ _ hnb, List.append_nil]
      have H4 : Hid (InRow w.heap.size wr u5 (pl L 0 0)) := by rw [h6]; exact h4
      have HC := hid hpc
      clear h1 h2 h3 h4 h6 hnb hpc
      obtain ⟨m, hm⟩ : ∃ m, m = (pl pre 0 0).length := ⟨_, rfl⟩
      rw [← hm] at HC
      clear hm
      have hv := HC.out
      subst hv
      go_wp2
      go_ret
      exact ⟨_, rfl, H4.out, HX.out.but⟩
end Go.Proofs.Ytdpfgflofjiheaa
