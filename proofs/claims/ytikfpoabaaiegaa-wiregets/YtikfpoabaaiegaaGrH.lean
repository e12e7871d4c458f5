import Derived.Test.YtikfpoabaaiegaaGrG
import Derived.Test.YtikfpoabaaiegaaPack23
import Derived.Test.YtikfpoabaaiegaaPack24
import Derived.Test.YtikfpoabaaiegaaPack7
namespace Go.Proofs.Ytikfpoabaaiegaa
open Go.RowKit
set_option maxRecDepth 8000
def DecU (w : World) (r : DR) (x : Ending) (w' : World) : Prop := ∃ (u : VT) (n e : Nat), x = .returned (.tuple #[u.val, .int .i64 (n : Int), .int .i64 (e : Int)]) ∧ VT.In w' (fun b => w.heap.size ≤ b) u ∧ Below w.heap.size w w' ∧ (∀ t a q, r = .ok (t, a, q) → e = 0 ∧ n = a ∧ VT.Alike t u) ∧ (∀ k, r = .error k → e = k ∧ n = 0)
theorem dec_u {w : World} {r : DR} {x : Ending} {w' : World} (h : DecPost w r x w') : DecU w r x w' := by
  cases r with
  | error k =>
    obtain ⟨rfl, hb⟩ := h.2 k rfl
    exact ⟨mkN, 0, k, rfl, in_zero _ _, hb, fun _ _ _ h => (by cases h), fun k2 h => (by cases h; exact ⟨rfl, rfl⟩)⟩
  | ok z =>
    obtain ⟨t, a, q⟩ := z
    obtain ⟨u, rfl, hal, hin, hb⟩ := h.1 t a q rfl
    exact ⟨u, a, 0, rfl, hin, hb, fun _ _ _ h => (by cases h; exact ⟨rfl, rfl, hal⟩), fun _ h => (by cases h)⟩
theorem dec_err0 {f : Nat → Int} {n e : Nat} (h : decS f n 3 0 0 0 = .error e) : e ≠ 0 := by
  rcases dec_known _ _ _ _ _ h with h1 | h1 | h1 | h1 <;> omega
theorem dec_place {f : Nat → Int} {n a q : Nat} {t : VT} (hf : ∀ j, j < n → 0 ≤ f j ∧ f j ≤ 255) (h : decS f n 3 0 0 0 = .ok (t, a, q)) : 0 < a ∧ a ≤ n := by
  have := dec_sound hf 3 0 0 0 t a q h
  exact ⟨this.2.1, this.2.2.1⟩
structure VQ (w : World) (q : Nat) (u : VT) (wx : World) : Prop where
  lo : w.heap.size ≤ q
  box : Box wx q #[.int .i64 u.kind, .int .i64 u.int, .string u.text, .slice u.p u.n u.c] 24
  inn : VT.In wx (fun b => w.heap.size ≤ b ∧ b ≠ q) u
  bel : Below w.heap.size w wx
theorem vq_gen {w w5 : World} {q : Nat} {u : VT} (hlo : w.heap.size ≤ q) (hbel : Below w.heap.size w w5) (hbx : Box w5 q #[.int .i64 0, .int .i64 0, .string ⟨#[]⟩, .slice none 0 0] 24) (hin : VT.In w5 (fun b => w.heap.size ≤ b ∧ b ≠ q) u) :
    VQ w q u ((((w5.setCell ⟨q, 0, none⟩ (.int .i64 u.kind)).setCell ⟨q, 1, none⟩ (.int .i64 u.int)).setCell ⟨q, 2, none⟩ (.string u.text)).setCell ⟨q, 3, none⟩ (.slice u.p u.n u.c)) := by
  have h4 := (((hbx.set 0 (.int .i64 u.kind)).set 1 (.int .i64 u.int)).set 2 (.string u.text)).set 3 (.slice u.p u.n u.c)
  simp at h4
  have hb : But (fun x => x = q) w5 ((((w5.setCell ⟨q, 0, none⟩ (.int .i64 u.kind)).setCell ⟨q, 1, none⟩ (.int .i64 u.int)).setCell ⟨q, 2, none⟩ (.string u.text)).setCell ⟨q, 3, none⟩ (.slice u.p u.n u.c)) := But.setFour w5 q 0 _ _ _ _
  exact ⟨hlo, h4, hin.kept hb.size (fun b hb2 hl => hb.block b hl hb2.2), hbel.trans (hb.below (Nat.le_trans hbel.size (Nat.le_refl _)) (fun x hx => by omega))⟩
theorem tail_byts {w0 : World} {rb : Nat} {S : Nat → Prop} {gb go bc : Nat} {B : List Int} (h : GB w0 rb S (some ⟨gb, go, none⟩) bc B) {w : World} (hb : Below rb w0 w) {p : Nat} (hp : p ≤ B.length) : Byts w S (if bc = p then some ⟨gb, go, none⟩ else some ⟨gb, go + p, none⟩) (B.length - p) (bc - p) (fun j => (B.drop p).getD j 0) := by
  have hk := h.byts.kept hb.size (fun b hb2 _ => hb.block b (h.hS b hb2))
  have hnc := h.byts.nc
  have hcc := h.byts.cc
  have hnn := h.byts.nn
  refine ⟨fun hn => ?_, by omega, by omega, by omega, fun j hj => ?_, fun hne => ?_⟩
  · obtain ⟨b, o, e, hS, hl, ha⟩ := hk.at_ (by omega)
    cases e
    rw [if_neg (by omega)]
    refine ⟨gb, go + p, rfl, hS, hl, fun j hj => ?_⟩
    rw [Nat.add_assoc, ha (p + j) (by omega)]
    rw [getD_drop]
  · rw [getD_drop]
    exact hk.fit (p + j) (by omega)
  · exfalso
    split at hne <;> cases hne
set_option maxHeartbeats 8000000 in
theorem refPiece_val {w0 : World} {rb : Nat} {w : World} {bp : Option Addr} {bc : Nat} {S : Nat → Prop} {B : List Int} {p : Nat} {g : Bg} (hB : GB w0 rb S bp bc B) (h : GMv w0 rb w (.slice bp B.length bc) (p : Int) 0 g) (hp : p ≤ B.length) (hf : Few_ g p) (h0 : 0 < p) : Calls Try.prog 116 #[.pointer (some ⟨rb, 0, none⟩), .int .u8 (118 : Int)] w fun x w' => PcP (pieceR 118 g) w0 rb (.slice bp B.length bc) B p x w' := by
  obtain ⟨a, b, cc, V', h, hv⟩ := h
  have hlen := hB.len
  have HBB := hid hB
  have HM := hid h
  have HV := hid hv
  have HP := hid (And.intro hp hf)
  have hws := h.box.lt
  have d0 := h.box.cell 0
  have d1 := h.box.cell 1
  have d2 := h.box.cell 2
  have g1 := h.box.frozen 1
  have g2 := h.box.frozen 2
  simp at d0 d1 d2
  have hpb : (p : Int) ≤ 1000000 := by omega
  have hsub : IntKind.i64.wrap ((B.length : Int) - (p : Int)) = (B.length : Int) - (p : Int) := by rw [IntKind.wrap_i64]; omega
  obtain ⟨iV, KdV⟩ := kindV
  have HKV := hid KdV
  have HPc : Hid (pieceR 118 g (B.drop p) = bindS valS (fun v => retS ⟨g.N, g.K, g.V ++ [v]⟩) (B.drop p)) := rfl
  have hlV := hf.V
  · obtain ⟨gb, go, hbp⟩ : ∃ gb go, bp = some ⟨gb, go, none⟩ := by
      obtain ⟨b1, o1, hp1, _⟩ := hB.byts.at_ (by omega)
      exact ⟨b1, o1, hp1⟩
    subst hbp
    have HDec : Hid (∀ W, Below w.heap.size w W → Calls Try.prog 140 #[.slice (if bc = p then some ⟨gb, go, none⟩ else some ⟨gb, go + p, none⟩) (B.length - p) (bc - p)] W fun x w' => DecU W (decS (fun j => (B.drop p).getD j 0) (B.length - p) 3 0 0 0) x w') := fun W hW =>
      (refDecode_any _ _ _ _ S W (tail_byts hB (h.below.trans (hW.mono (by omega))) hp) (fun b hb => by have := hB.hS b hb; have := hW.size; omega)).mono fun _ _ h => dec_u h
    have HFt : Hid (∀ j, j < B.length - p → 0 ≤ (B.drop p).getD j 0 ∧ (B.drop p).getD j 0 ≤ 255) := fun j hj => by
      have h9 := hB.byts.fit (p + j) (by omega)
      rw [getD_drop]
      exact ⟨h9.1, by omega⟩
    have hcap := hB.byts.nc
    have hcc := hB.byts.cc
    have hs1 : (p : Int) ≤ (B.length : Int) := by omega
    have hs2 : (B.length : Int) ≤ (bc : Int) := by omega
    have htn : ((B.length : Int) - (p : Int)).toNat = B.length - p := by omega
    have htc : ((bc : Int) - (p : Int)).toNat = bc - p := by omega
    clear hB h hv hp hf KdV
    go_enter Try.func116, Try.ntmps116
    go_wp2_with fail
    refine wp_region_calmD 30 (fun wx => Below w.heap.size w wx) [(0, true), (1, true), (2, true), (3, false), (4, true), (5, true), (6, true), (7, true), (8, false), (9, true), (10, true)] [] (by kernel_rfl) (by kernel_rfl) (Below.refl _ _).drew ?_
    refine wpPre_e rfl rfl (fun K1 hK1 => ?_)
    apply Exists.intro
    refine And.intro (fun wx hx => ?_) ?_
    · go_simp
      try rfl
    go_simp
    refine hK1 _ ?_
    clear hK1 K1
    refine wpPre_e rfl rfl (fun K1 hK1 => ?_)
    apply Exists.intro
    refine And.intro (fun wx hx => ?_) ?_
    · go_simp
      try rfl
    go_simp
    refine hK1 _ ?_
    clear hK1 K1
    refine wpPre_e rfl rfl (fun K1 hK1 => ?_)
    apply Exists.intro
    refine And.intro (fun wx hx => ?_) ?_
    · go_simp
      try rfl
    go_simp
    refine hK1 _ ?_
    clear hK1 K1
    refine wpPre_e rfl rfl (fun K1 hK1 => ?_)
    apply Exists.intro
    refine And.intro (fun wx hx => ?_) ?_
    · have e0 := below_fact hx rfl d0
      have e1 := below_fact hx rfl d1
      go_simp
      try rfl
    go_simp
    refine hK1 _ ?_
    clear hK1 K1
    refine wpPre_e rfl rfl (fun K1 hK1 => ?_)
    apply Exists.intro
    refine And.intro (fun wx hx => ?_) ?_
    · go_simp
      try rfl
    go_simp
    refine hK1 _ ?_
    clear hK1 K1
    refine wpPre_e rfl rfl (fun K1 hK1 => ?_)
    apply Exists.intro
    refine And.intro (fun wx hx => ?_) ?_
    · go_simp
      try rfl
    go_simp
    refine hK1 _ ?_
    clear hK1 K1
    refine wpPre_e rfl rfl (fun K1 hK1 => ?_)
    apply Exists.intro
    refine And.intro (fun wx hx => ?_) ?_
    · go_simp
      try rfl
    go_simp
    refine hK1 _ ?_
    clear hK1 K1
    refine wpPre_e rfl rfl (fun K1 hK1 => ?_)
    apply Exists.intro
    refine And.intro (fun wx hx => ?_) ?_
    · go_simp
      try rfl
    go_simp
    refine hK1 _ ?_
    clear hK1 K1
    refine wpPre_e rfl rfl (fun K1 hK1 => ?_)
    apply Exists.intro
    refine And.intro (fun wx hx => ?_) ?_
    · have e0 := below_fact hx rfl d0
      have e1 := below_fact hx rfl d1
      go_simp
      try rfl
    go_simp
    refine hK1 _ ?_
    clear hK1 K1
    refine wpPre_e rfl rfl (fun K1 hK1 => ?_)
    apply Exists.intro
    refine And.intro (fun wx hx => ?_) ?_
    · go_simp
      try rfl
    go_simp
    refine hK1 _ ?_
    clear hK1 K1
    refine wpPre_e rfl rfl (fun K1 hK1 => ?_)
    apply Exists.intro
    refine And.intro (fun wx hx => ?_) ?_
    · go_simp
      try rfl
    go_simp
    refine hK1 _ ?_
    clear hK1 K1
    refine wpPre_nil ?_
    refine wpStg_nil ?_
    go_wp2_with fail
    go_cut [6, 7, 8] (fun x6 x7 x8 wx => ∃ (q : Nat) (u : VT) (n e : Nat), x6 = .pointer (some ⟨q, 0, none⟩) ∧ x7 = .int .i64 (n : Int) ∧ x8 = .int .i64 (e : Int) ∧ VQ w q u wx ∧ (∀ t a q, decS (fun j => (B.drop p).getD j 0) (B.length - p) 3 0 0 0 = .ok (t, a, q) → e = 0 ∧ n = a ∧ VT.Alike t u) ∧ (∀ k, decS (fun j => (B.drop p).getD j 0) (B.length - p) 3 0 0 0 = .error k → e = k ∧ n = 0))
    case first =>
      refine wp_region_calmE 30 (fun wx => Below w.heap.size w wx) [(0, true), (1, true), (2, true), (3, false), (4, true), (5, true), (6, true), (7, false), (8, true)] (.two 9 false [(10, true), (11, true), (12, true), (13, true)] (.one 14 true [] (.one 15 false [(16, true), (17, true)] .done)) 14 true [] (.one 9 false [(10, true), (11, true), (12, true), (13, true)] (.one 15 false [(16, true), (17, true)] .done))) (by kernel_rfl) (by kernel_rfl) (Below.refl _ _).drew.drew ?_
      refine wpPre_e rfl rfl (fun K1 hK1 => ?_)
      apply Exists.intro
      refine And.intro (fun wx hx => ?_) ?_
      · go_simp
        try rfl
      go_simp
      refine hK1 _ ?_
      clear hK1 K1
      refine wpPre_e rfl rfl (fun K1 hK1 => ?_)
      apply Exists.intro
      refine And.intro (fun wx hx => ?_) ?_
      · go_simp
        try rfl
      go_simp
      refine hK1 _ ?_
      clear hK1 K1
      refine wpPre_e rfl rfl (fun K1 hK1 => ?_)
      apply Exists.intro
      refine And.intro (fun wx hx => ?_) ?_
      · go_simp
        try rfl
      go_simp
      refine hK1 _ ?_
      clear hK1 K1
      refine wpPre_e rfl rfl (fun K1 hK1 => ?_)
      apply Exists.intro
      refine And.intro (fun wx hx => ?_) ?_
      · have e0 := below_fact hx rfl d0
        have e1 := below_fact hx rfl d1
        go_simp
        try rfl
      go_simp
      refine hK1 _ ?_
      clear hK1 K1
      refine wpPre_e rfl rfl (fun K1 hK1 => ?_)
      apply Exists.intro
      refine And.intro (fun wx hx => ?_) ?_
      · go_simp
        try rfl
      go_simp
      refine hK1 _ ?_
      clear hK1 K1
      refine wpPre_e rfl rfl (fun K1 hK1 => ?_)
      apply Exists.intro
      refine And.intro (fun wx hx => ?_) ?_
      · go_simp
        try rfl
      go_simp
      refine hK1 _ ?_
      clear hK1 K1
      refine wpPre_e rfl rfl (fun K1 hK1 => ?_)
      apply Exists.intro
      refine And.intro (fun wx hx => ?_) ?_
      · go_simp
        try rfl
      go_simp
      refine hK1 _ ?_
      clear hK1 K1
      refine wpPre_e rfl rfl (fun K1 hK1 => ?_)
      apply Exists.intro
      refine And.intro (fun wx hx => ?_) ?_
      · have e0 := below_fact hx rfl d0
        have e1 := below_fact hx rfl d1
        go_simp
        try rfl
      go_simp
      refine hK1 _ ?_
      clear hK1 K1
      refine wpPre_e rfl rfl (fun K1 hK1 => ?_)
      apply Exists.intro
      refine And.intro (fun wx hx => ?_) ?_
      · go_simp
        try rfl
      go_simp
      refine hK1 _ ?_
      clear hK1 K1
      refine wpPre_nil ?_
      refine And.intro ?_ ?_
      · refine wpTr_op rfl (fun K1 hK1 => ?_)
        refine step_call rfl 140 #[.tmp 152] _ rfl Try.f140 Try.func140 (by kernel_rfl) rfl #[.slice (if bc = p then some ⟨gb, go, none⟩ else some ⟨gb, go + p, none⟩) (B.length - p) (bc - p)] rfl _ (HDec.out _ (Below.refl _ _).drew.drew) (fun e w' h => ?_)
        obtain ⟨u, n, ev, rfl, hin5, hb5, hok5, her5⟩ := h
        refine ⟨_, rfl, ?_⟩
        go_simp
        refine hK1 _ _ (fun h => by cases h) ?_
        clear hK1 K1
        refine wpPre_e rfl rfl (fun K1 hK1 => ?_)
        apply Exists.intro
        refine And.intro (fun wx hx => ?_) ?_
        · go_simp
          try rfl
        go_simp
        refine hK1 _ ?_
        clear hK1 K1
        refine wpPre_e rfl rfl (fun K1 hK1 => ?_)
        apply Exists.intro
        refine And.intro (fun wx hx => ?_) ?_
        · go_simp
          try rfl
        go_simp
        refine hK1 _ ?_
        clear hK1 K1
        refine wpPre_e rfl rfl (fun K1 hK1 => ?_)
        apply Exists.intro
        refine And.intro (fun wx hx => ?_) ?_
        · go_simp
          try rfl
        go_simp
        refine hK1 _ ?_
        clear hK1 K1
        refine wpPre_e rfl rfl (fun K1 hK1 => ?_)
        apply Exists.intro
        refine And.intro (fun wx hx => ?_) ?_
        · go_simp
          try rfl
        go_simp
        refine hK1 _ ?_
        clear hK1 K1
        refine wpPre_nil ?_
        have hbw : Below w.heap.size w (w'.alloc (.cells #[.int .i64 0, .int .i64 0, .string ⟨#[]⟩, .slice none 0 0] 24)) := (((Below.refl _ _).drew.drew).trans hb5).alloc (Nat.le_trans (Nat.le_refl _) hb5.size) _
        have hbz := Box.new w' #[.int .i64 0, .int .i64 0, .string ⟨#[]⟩, .slice none 0 0] 24
        have HVQ : Hid (VQ w w'.heap.size u (w'.alloc (.cells #[.int .i64 u.kind, .int .i64 u.int, .string u.text, .slice u.p u.n u.c] 24))) := ⟨hb5.size, Box.new w' _ _, (hin5.mono (S' := fun b => w.heap.size ≤ b ∧ b ≠ w'.heap.size) (fun b hb hl => ⟨hb, by omega⟩)).below ((Below.refl _ _).alloc (Nat.le_refl _) _), (((Below.refl _ _).drew.drew).trans hb5).alloc (Nat.le_trans (Nat.le_refl _) hb5.size) _⟩
        have z0 := hbz.cell 0
        have z1 := hbz.cell 1
        have z2 := hbz.cell 2
        have z3 := hbz.cell 3
        have q0 := hbz.frozen 0
        have q1 := hbz.frozen 1
        have q2 := hbz.frozen 2
        have q3 := hbz.frozen 3
        simp at z0 z1 z2 z3
        clear hbz
        refine wpTr_e rfl (fun K1 hK1 => ?_)
        go_simp
        refine hK1 _ _ (fun _ => hbw) ?_
        clear hK1 K1
        refine wpPre_nil ?_
        refine wpTr_e rfl (fun K1 hK1 => ?_)
        unfold VT.val
        go_simp
        refine hK1 _ _ (fun h => by cases h) ?_
        clear hK1 K1
        refine wpPre_e rfl rfl (fun K1 hK1 => ?_)
        apply Exists.intro
        refine And.intro (fun wx hx => ?_) ?_
        · go_simp
          try rfl
        go_simp
        refine hK1 _ ?_
        clear hK1 K1
        refine wpPre_e rfl rfl (fun K1 hK1 => ?_)
        apply Exists.intro
        refine And.intro (fun wx hx => ?_) ?_
        · go_simp
          try rfl
        go_simp
        refine hK1 _ ?_
        clear hK1 K1
        refine wpPre_nil ?_
        refine wpTr_done ?_
        have HOK := hid (And.intro hok5 her5)
        clear hok5 her5 hb5 hin5
        generalize (if bc = p then some (⟨gb, go, none⟩ : Addr) else some ⟨gb, go + p, none⟩) = ptr
        go_wp2_with fail
        go_meet
        exact ⟨_, u, n, ev, rfl, rfl, rfl, HVQ.out, HOK.out⟩
      · refine wpTr_op rfl (fun K1 hK1 => ?_)
        go_simp
        have hbw : Below w.heap.size w ((w.alloc (.cells #[.int .i64 0, .int .i64 0, .string ⟨#[]⟩, .slice none 0 0] 24)).drew.drew) := ((Below.refl _ _).alloc (Nat.le_refl _) _).drew.drew
        refine hK1 _ _ (fun _ => hbw) ?_
        clear hK1 K1
        refine wpPre_nil ?_
        refine wpTr_e rfl (fun K1 hK1 => ?_)
        refine step_call rfl 140 #[.tmp 152] _ rfl Try.f140 Try.func140 (by kernel_rfl) rfl #[.slice (if bc = p then some ⟨gb, go, none⟩ else some ⟨gb, go + p, none⟩) (B.length - p) (bc - p)] rfl _ (HDec.out _ hbw) (fun e w' h => ?_)
        obtain ⟨u, n, ev, rfl, hin5, hb5, hok5, her5⟩ := h
        refine ⟨_, rfl, ?_⟩
        go_simp
        refine hK1 _ _ (fun h => by cases h) ?_
        clear hK1 K1
        refine wpPre_e rfl rfl (fun K1 hK1 => ?_)
        apply Exists.intro
        refine And.intro (fun wx hx => ?_) ?_
        · go_simp
          try rfl
        go_simp
        refine hK1 _ ?_
        clear hK1 K1
        refine wpPre_e rfl rfl (fun K1 hK1 => ?_)
        apply Exists.intro
        refine And.intro (fun wx hx => ?_) ?_
        · go_simp
          try rfl
        go_simp
        refine hK1 _ ?_
        clear hK1 K1
        refine wpPre_e rfl rfl (fun K1 hK1 => ?_)
        apply Exists.intro
        refine And.intro (fun wx hx => ?_) ?_
        · go_simp
          try rfl
        go_simp
        refine hK1 _ ?_
        clear hK1 K1
        refine wpPre_e rfl rfl (fun K1 hK1 => ?_)
        apply Exists.intro
        refine And.intro (fun wx hx => ?_) ?_
        · go_simp
          try rfl
        go_simp
        refine hK1 _ ?_
        clear hK1 K1
        refine wpPre_nil ?_
        have hbz := ((Box.new w #[.int .i64 0, .int .i64 0, .string ⟨#[]⟩, .slice none 0 0] 24).below (Below.refl _ _).drew.drew).below hb5
        have HVQ := hid (vq_gen (u := u) (w := w) (w5 := w') (q := w.heap.size) (Nat.le_refl _) (hbw.trans (hb5.mono hbw.size)) hbz (hin5.mono (S' := fun b => w.heap.size ≤ b ∧ b ≠ w.heap.size) (fun b hb hl => by have h7 : (w.alloc (.cells #[.int .i64 0, .int .i64 0, .string ⟨#[]⟩, .slice none 0 0] 24)).heap.size ≤ b := hb; simp at h7; exact ⟨by omega, by omega⟩)))
        have z0 := hbz.cell 0
        have z1 := hbz.cell 1
        have z2 := hbz.cell 2
        have z3 := hbz.cell 3
        have q0 := hbz.frozen 0
        have q1 := hbz.frozen 1
        have q2 := hbz.frozen 2
        have q3 := hbz.frozen 3
        simp at z0 z1 z2 z3
        clear hbz
        refine wpTr_e rfl (fun K1 hK1 => ?_)
        unfold VT.val
        go_simp
        refine hK1 _ _ (fun h => by cases h) ?_
        clear hK1 K1
        refine wpPre_e rfl rfl (fun K1 hK1 => ?_)
        apply Exists.intro
        refine And.intro (fun wx hx => ?_) ?_
        · go_simp
          try rfl
        go_simp
        refine hK1 _ ?_
        clear hK1 K1
        refine wpPre_e rfl rfl (fun K1 hK1 => ?_)
        apply Exists.intro
        refine And.intro (fun wx hx => ?_) ?_
        · go_simp
          try rfl
        go_simp
        refine hK1 _ ?_
        clear hK1 K1
        refine wpPre_nil ?_
        refine wpTr_done ?_
        have HOK := hid (And.intro hok5 her5)
        clear hok5 her5 hb5 hin5
        generalize (if bc = p then some (⟨gb, go, none⟩ : Addr) else some ⟨gb, go + p, none⟩) = ptr
        go_wp2_with fail
        go_meet
        exact ⟨_, u, n, ev, rfl, rfl, rfl, HVQ.out, HOK.out⟩
    case rest =>
      obtain ⟨q, u, n, ev, rfl, rfl, rfl, hq, hok, her⟩ := hcut
      clear d0 d1 d2 g1 g2 HDec hs1 hs2 htn htc
      have hM := HM.out.kept hq.bel
      have hqlt := hq.box.lt
      have hws2 := hM.box.lt
      have hqr : rb < q := by have := hq.lo; omega
      have hqr2 : rb ≠ q := by omega
      -- the error, behind region 18
      have hM1 := hM.setE (ev : Int)
      have hbE : But (fun x => x = rb) wc (wc.setCell ⟨rb, 2, none⟩ (.int .i64 (ev : Int))) := (But.one wc rb).setAt 2 _
      have d2 := hM.box.cell 2
      have g2 := hM.box.frozen 2
      simp at d2
      have hqb := hq.box.but hbE (by omega)
      have huin := hq.inn.kept hbE.size (fun b hb hl => hbE.block b hl (by have := hb.1; omega))
      have HSz : Hid ((wc.setCell ⟨rb, 2, none⟩ (.int .i64 (ev : Int))).heap.size = wc.heap.size) := by unfold Hid; simp [World.setCell]
      obtain ⟨pc, ccap, hcs⟩ := ownsRow_slice hM1.oV
      have HLo := hid hq.lo
      have HOw : Hid (∀ q, w.heap.size ≤ q → VB rb a b cc q) := fun z hz => ⟨by omega, fun e => (by have := (HM.out.oN.lt z e).2; omega), fun e => (by have := (HM.out.oK.lt z e).2; omega), fun e => (by have := (HM.out.oV.lt z e).2; omega)⟩
      clear hM hq
      go_wp2_with fail
      clear d2 g2
      generalize (wc.setCell ⟨rb, 2, none⟩ (.int .i64 (ev : Int))) = W at *
      subst hcs
      have x5 := hM1.box.cell 5
      simp at x5
      have r0 := hqb.cell 0
      have r1 := hqb.cell 1
      have r2 := hqb.cell 2
      have r3 := hqb.cell 3
      simp at r0 r1 r2 r3
      have HM1 := hid hM1
      have hws3 := hM1.box.lt
      have hlV' : V'.length ≤ p := by rw [HV.out.1]; exact hlV
      have HVl : Hid ((valC V').length = V'.length * 4) := valC_len V'
      refine wp_region_calmE 30 (fun wx => Below W.heap.size W wx) [(0, true), (1, true), (2, true), (3, true), (4, false), (5, false), (6, true)] (.one 7 true [] (.one 8 false [(9, true), (11, true), (12, true), (13, true)] (.two 10 false [] (.one 14 false [] .done) 14 false [] (.one 10 false [] .done)))) (by kernel_rfl) (by kernel_rfl) (Below.refl _ _).drew ?_
      refine wpPre_e rfl rfl (fun K1 hK1 => ?_)
      apply Exists.intro
      refine And.intro (fun wx hx => ?_) ?_
      · go_simp
        try rfl
      go_simp
      refine hK1 _ ?_
      clear hK1 K1
      refine wpPre_e rfl rfl (fun K1 hK1 => ?_)
      apply Exists.intro
      refine And.intro (fun wx hx => ?_) ?_
      · go_simp
        try rfl
      go_simp
      refine hK1 _ ?_
      clear hK1 K1
      refine wpPre_e rfl rfl (fun K1 hK1 => ?_)
      apply Exists.intro
      refine And.intro (fun wx hx => ?_) ?_
      · go_simp
        try rfl
      go_simp
      refine hK1 _ ?_
      clear hK1 K1
      refine wpPre_e rfl rfl (fun K1 hK1 => ?_)
      apply Exists.intro
      refine And.intro (fun wx hx => ?_) ?_
      · go_simp
        try rfl
      go_simp
      refine hK1 _ ?_
      clear hK1 K1
      refine wpPre_e rfl rfl (fun K1 hK1 => ?_)
      apply Exists.intro
      refine And.intro (fun wx hx => ?_) ?_
      · have e0 := below_fact hx rfl x5
        have e1 := below_fact hx rfl r0
        have e2 := below_fact hx rfl r1
        have e3 := below_fact hx rfl r2
        have e4 := below_fact hx rfl r3
        go_simp
        try rfl
      go_simp
      refine hK1 _ ?_
      clear hK1 K1
      refine wpPre_e rfl rfl (fun K1 hK1 => ?_)
      apply Exists.intro
      refine And.intro (fun wx hx => ?_) ?_
      · have e0 := below_fact hx rfl x5
        have e1 := below_fact hx rfl r0
        have e2 := below_fact hx rfl r1
        have e3 := below_fact hx rfl r2
        have e4 := below_fact hx rfl r3
        go_simp
        try rfl
      go_simp
      refine hK1 _ ?_
      clear hK1 K1
      refine wpPre_e rfl rfl (fun K1 hK1 => ?_)
      apply Exists.intro
      refine And.intro (fun wx hx => ?_) ?_
      · go_simp
        try rfl
      go_simp
      refine hK1 _ ?_
      clear hK1 K1
      refine wpPre_nil ?_
      have hal : Below W.heap.size W ((W.alloc (.cells #[.int .i64 0, .int .i64 0, .string ⟨#[]⟩, .slice none 0 0] 24)).drew) := ((Below.refl _ _).alloc (Nat.le_refl _) _).drew
      have H1 := hid (HM1.out.kept hal)
      have HNw := hid (news4 W (.int .i64 0) (.int .i64 0) (.string ⟨#[]⟩) (.slice none 0 0) 24)
      have HU1 := hid (huin.below hal)
      refine wpTr_e rfl (fun K1 hK1 => ?_)
      go_simp
      refine hK1 _ _ (fun _ => hal) ?_
      clear hK1 K1 hal
      refine wpPre_nil ?_
      refine wpTr_e rfl (fun K1 hK1 => ?_)
      refine step_app rfl (.tmp 165) (.tmp 168) 22 24 iV _ 4 56 HKV.out rfl (rb + 1) _ V'.length (valC V') rfl H1.out.oV ⟨W.heap.size, 0, none⟩ 1 1 [.int .i64 0, .int .i64 0, .string ⟨#[]⟩, .slice none 0 0] rfl rfl HNw.out one_zero (by omega) (by omega) (by simp; omega) ?_
      intro v3 w3 ho3 hg3 hn3
      obtain ⟨g3, c3, rfl⟩ := own_some ho3 (by omega)
      have HO3 := hid ho3
      have hst := stored4 ho3 HVl.out (.int .i64 u.kind) (.int .i64 u.int) (.string u.text) (.slice u.p u.n u.c)
      have hgr : g3 ≠ rb := by have := (ho3.lt g3 rfl).1; omega
      have hrg : rb ≠ g3 := by omega
      have hl1 : (V'.length : Int) < (V'.length : Int) + 1 := by omega
      have fz := ho3.frozenAt
      have k0 : w3.cell? ⟨g3, V'.length * 4, none⟩ = some (.int .i64 0) := last4 ho3 HVl.out 0 _ rfl
      have k1 : w3.cell? ⟨g3, V'.length * 4 + 1, none⟩ = some (.int .i64 0) := last4 ho3 HVl.out 1 _ rfl
      have k2 : w3.cell? ⟨g3, V'.length * 4 + 2, none⟩ = some (.string ⟨#[]⟩) := last4 ho3 HVl.out 2 _ rfl
      have k3 : w3.cell? ⟨g3, V'.length * 4 + 3, none⟩ = some (.slice none 0 0) := last4 ho3 HVl.out 3 _ rfl
      have hx3 := H1.out.boxV hg3
      have y5 := hx3.cell 5
      have g5 := hx3.frozen 5
      simp at y5
      have HP := hid (H1.out.vals (M := [u]) (fun x hx => by simp at hx; rw [hx]; exact HU1.out.mono (fun b hb _ => HOw.out b hb.1)) (by rw [show valC [u] = u.cells by simp [valC]]; exact hst) (grown_but hg3 hn3 rfl (But.setFour w3 g3 (V'.length * 4) (.int .i64 u.kind) (.int .i64 u.int) (.string u.text) (.slice u.p u.n u.c))) hn3)
      go_simp
      refine hK1 _ _ (fun h => by cases h) ?_
      clear hK1 K1
      refine wpPre_e rfl rfl (fun K1 hK1 => ?_)
      apply Exists.intro
      refine And.intro (fun wx hx => ?_) ?_
      · go_simp
        try rfl
      go_simp
      refine hK1 _ ?_
      clear hK1 K1
      refine wpPre_e rfl rfl (fun K1 hK1 => ?_)
      apply Exists.intro
      refine And.intro (fun wx hx => ?_) ?_
      · go_simp
        try rfl
      go_simp
      refine hK1 _ ?_
      clear hK1 K1
      refine wpPre_e rfl rfl (fun K1 hK1 => ?_)
      apply Exists.intro
      refine And.intro (fun wx hx => ?_) ?_
      · go_simp
        try rfl
      go_simp
      refine hK1 _ ?_
      clear hK1 K1
      refine wpPre_e rfl rfl (fun K1 hK1 => ?_)
      apply Exists.intro
      refine And.intro (fun wx hx => ?_) ?_
      · go_simp
        try rfl
      go_simp
      refine hK1 _ ?_
      clear hK1 K1
      refine wpPre_nil ?_
      refine And.intro ?_ ?_
      · refine wpTr_op rfl (fun K1 hK1 => ?_)
        go_simp
        refine hK1 _ _ (fun h => by cases h) ?_
        clear hK1 K1
        refine wpPre_nil ?_
        refine wpTr_e rfl (fun K1 hK1 => ?_)
        go_simp
        refine hK1 _ _ (fun h => by cases h) ?_
        clear hK1 K1
        refine wpPre_nil ?_
        refine wpTr_done ?_
        have z1 := HP.out.box.cell 1
        have q1 := HP.out.box.frozen 1
        have y1 := hx3.cell 1
        have g1 := hx3.frozen 1
        simp at z1 y1
        cases hD : decS (fun j => (B.drop p).getD j 0) (B.length - p) 3 0 0 0 with
        | error k =>
          obtain ⟨rfl, rfl⟩ := her k hD
          have HS : Hid (pieceR 118 g (B.drop p) = .error ev) := by unfold Hid; rw [HPc.out]; unfold bindS valS; rw [List.length_drop, hD]
          have HK0 := hid (dec_err0 hD)
          have HF := hid (HP.out.setP ((p : Int) + ((0 : Nat) : Int)))
          clear hok her hD HP
          go_wp2
          refine bodyPost_end (results_none rfl _ _ _) rfl ?_
          refine ⟨rfl, fun y R hy => (by rw [HS.out] at hy; cases hy), fun e he => (by rw [HS.out] at he; cases he; exact ⟨HK0.out, _, ⟨g.N, g.K, g.V ++ [u]⟩, _, _, _, _, HF.out, HV.out.snoc (VT.Alike.refl _)⟩)⟩
        | ok z =>
          obtain ⟨t, a1, q9⟩ := z
          obtain ⟨rfl, rfl, hal9⟩ := hok t a1 q9 hD
          obtain ⟨hn1, hn2⟩ := dec_place HFt.out hD
          have HS : Hid (pieceR 118 g (B.drop p) = .ok (⟨g.N, g.K, g.V ++ [t]⟩, B.drop (p + n))) := by
            unfold Hid
            rw [HPc.out]
            unfold bindS valS
            rw [List.length_drop, hD]
            simp only [retS, List.drop_drop]
          have HF := hid (HP.out.setP ((p : Int) + (n : Int)))
          have HPk : Hid ((p : Int) + (n : Int) = ((p + n : Nat) : Int)) := by unfold Hid; omega
          have hlb : (n : Int) ≤ 1000000 := by omega
          have HAl := hid hal9
          clear hok her hD HP hal9
          go_wp2
          refine bodyPost_end (results_none rfl _ _ _) rfl ?_
          refine ⟨rfl, fun y R2 hy => (by rw [HS.out] at hy; cases hy; exact ⟨p + n, by omega, rfl, by omega, _, _, _, _, by rw [← HPk.out]; exact HF.out, HV.out.snoc HAl.out⟩), fun e he => (by rw [HS.out] at he; cases he)⟩

      · refine wpTr_op rfl (fun K1 hK1 => ?_)
        go_simp
        refine hK1 _ _ (fun h => by cases h) ?_
        clear hK1 K1
        refine wpPre_nil ?_
        refine wpTr_e rfl (fun K1 hK1 => ?_)
        go_simp
        refine hK1 _ _ (fun h => by cases h) ?_
        clear hK1 K1
        refine wpPre_nil ?_
        refine wpTr_done ?_
        rw [head_first w3 hgr]
        have z1 := HP.out.box.cell 1
        have q1 := HP.out.box.frozen 1
        have y1 := hx3.cell 1
        have g1 := hx3.frozen 1
        simp at z1 y1
        cases hD : decS (fun j => (B.drop p).getD j 0) (B.length - p) 3 0 0 0 with
        | error k =>
          obtain ⟨rfl, rfl⟩ := her k hD
          have HS : Hid (pieceR 118 g (B.drop p) = .error ev) := by unfold Hid; rw [HPc.out]; unfold bindS valS; rw [List.length_drop, hD]
          have HK0 := hid (dec_err0 hD)
          have HF := hid (HP.out.setP ((p : Int) + ((0 : Nat) : Int)))
          clear hok her hD HP
          go_wp2
          refine bodyPost_end (results_none rfl _ _ _) rfl ?_
          refine ⟨rfl, fun y R hy => (by rw [HS.out] at hy; cases hy), fun e he => (by rw [HS.out] at he; cases he; exact ⟨HK0.out, _, ⟨g.N, g.K, g.V ++ [u]⟩, _, _, _, _, HF.out, HV.out.snoc (VT.Alike.refl _)⟩)⟩
        | ok z =>
          obtain ⟨t, a1, q9⟩ := z
          obtain ⟨rfl, rfl, hal9⟩ := hok t a1 q9 hD
          obtain ⟨hn1, hn2⟩ := dec_place HFt.out hD
          have HS : Hid (pieceR 118 g (B.drop p) = .ok (⟨g.N, g.K, g.V ++ [t]⟩, B.drop (p + n))) := by
            unfold Hid
            rw [HPc.out]
            unfold bindS valS
            rw [List.length_drop, hD]
            simp only [retS, List.drop_drop]
          have HF := hid (HP.out.setP ((p : Int) + (n : Int)))
          have HPk : Hid ((p : Int) + (n : Int) = ((p + n : Nat) : Int)) := by unfold Hid; omega
          have hlb : (n : Int) ≤ 1000000 := by omega
          have HAl := hid hal9
          clear hok her hD HP hal9
          go_wp2
          refine bodyPost_end (results_none rfl _ _ _) rfl ?_
          refine ⟨rfl, fun y R2 hy => (by rw [HS.out] at hy; cases hy; exact ⟨p + n, by omega, rfl, by omega, _, _, _, _, by rw [← HPk.out]; exact HF.out, HV.out.snoc HAl.out⟩), fun e he => (by rw [HS.out] at he; cases he)⟩

end Go.Proofs.Ytikfpoabaaiegaa
