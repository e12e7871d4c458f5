import Derived.Test.YtpknlbibijheaaaDnD
namespace Go.Proofs.Ytpknlbibijheaaa
open Go.RowKit
set_option maxRecDepth 8000
/-- while cells and keys are gathered: a variable of a number and two rows -/
structure JoI (W3 wr : World) (O : Nat) (num : Int) (vO vP : Value) (xs : List VT) (ps : List ByteArray) : Prop where
  box : Box wr O #[.int .i64 num, vO, vP] 30
  own : CRow W3.heap.size wr vO xs
  row : StRow W3.heap.size wr vP ps
  ap : ∀ g, vO.ownBlock = some g → vP.ownBlock ≠ some g
  ap2 : ∀ j, j < xs.length → VT.In wr (fun b => W3.heap.size ≤ b ∧ vO.ownBlock ≠ some b ∧ vP.ownBlock ≠ some b) (xs.getD j zC)
  but : But (fun b => b = O) W3 wr
  lo : O < W3.heap.size
theorem JoI.below {W3 wr w' : World} {O : Nat} {num : Int} {vO vP : Value} {xs : List VT} {ps : List ByteArray} (h : JoI W3 wr O num vO vP xs ps) (hb : Below wr.heap.size wr w') : JoI W3 w' O num vO vP xs ps :=
  ⟨h.box.below hb, h.own.below hb, h.row.below hb, h.ap, fun j hj => (h.ap2 j hj).below hb, h.but.trans (But.ofBelow hb), h.lo⟩
theorem JoI.midO {W3 wr w5 : World} {O : Nat} {num : Int} {vO vP : Value} {xs : List VT} {ps : List ByteArray} {o : Obj} (h : JoI W3 wr O num vO vP xs ps) (hg : (wr.alloc o).grownBy w5 vO.ownBlock) : Box w5 O #[.int .i64 num, vO, vP] 30 := by
  have hl := h.box.lt
  refine (h.box.below (below1 wr o)).kept (hg.block _ (by simp; omega) fun e => ?_)
  have := (h.own.own.lt _ e.symm).1
  have := h.lo
  omega
theorem JoI.midP {W3 wr w5 : World} {O : Nat} {num : Int} {vO vP : Value} {xs : List VT} {ps : List ByteArray} {o : Obj} (h : JoI W3 wr O num vO vP xs ps) (hg : (wr.alloc o).grownBy w5 vP.ownBlock) : Box w5 O #[.int .i64 num, vO, vP] 30 := by
  have hl := h.box.lt
  refine (h.box.below (below1 wr o)).kept (hg.block _ (by simp; omega) fun e => ?_)
  have := (h.row.lt _ e.symm).1
  have := h.lo
  omega
theorem near_not {w : World} {v v' : Value} {b : Nat} (hn : Near w v v') (hv : v.ownBlock ≠ some b) (hb : b < w.heap.size) : v'.ownBlock ≠ some b := fun e => by
  rcases hn with h1 | h1
  · exact hv (h1 ▸ e)
  · have := h1 b e; omega
theorem JoI.stepO {W3 wr w5 : World} {O : Nat} {num : Int} {vO vP v5 : Value} {xs : List VT} {ps : List ByteArray} {o : Obj} {u : VT} (h : JoI W3 wr O num vO vP xs ps) (hu : VT.In wr (fun b => W3.heap.size ≤ b ∧ vO.ownBlock ≠ some b ∧ vP.ownBlock ≠ some b) u)
    (hown : w5.ownsRow W3.heap.size 62 2 v5 (xs.length + 1) (((List.range xs.length).flatMap fun j => elCell.cells (xs.getD j zC)) ++ elCell.cells u)) (hg : (wr.alloc o).grownBy w5 vO.ownBlock) (hn : Near (wr.alloc o) vO v5) : JoI W3 (w5.setCell ⟨O, 1, none⟩ v5) O num v5 vP (xs ++ [u]) ps := by
  have hlo := h.lo
  have hbs := h.but.size
  have h0 := h.below (below1 wr o)
  have hsz : (wr.alloc o).heap.size = wr.heap.size + 1 := by simp
  have h1 : CRow W3.heap.size w5 v5 (xs ++ [u]) := h0.own.push ((hu.below (below1 wr o)).mono fun b hb _ => ⟨hb.1, hb.2.1⟩) hown hg hn
  have hb1 : But (fun q => q = O) w5 (w5.setCell ⟨O, 1, none⟩ v5) := (But.one w5 O).setAt _ _
  have mvI : ∀ {c : VT}, VT.In (wr.alloc o) (fun b => W3.heap.size ≤ b ∧ vO.ownBlock ≠ some b ∧ vP.ownBlock ≠ some b) c → VT.In (w5.setCell ⟨O, 1, none⟩ v5) (fun b => W3.heap.size ≤ b ∧ v5.ownBlock ≠ some b ∧ vP.ownBlock ≠ some b) c := fun {c} hc => by
    have k1 : VT.In (wr.alloc o) (fun b => W3.heap.size ≤ b ∧ vO.ownBlock ≠ some b ∧ vP.ownBlock ≠ some b ∧ v5.ownBlock ≠ some b) c := hc.mono fun b hb hl => ⟨hb.1, hb.2.1, hb.2.2, near_not hn hb.2.1 hl⟩
    have k2 := k1.kept hg.size fun b hb hl => hg.block b hl fun e => hb.2.1 e.symm
    have k3 := k2.but hb1 fun b hb _ e => by have := hb.1; omega
    exact k3.mono fun b hb _ => ⟨hb.1, hb.2.2.2, hb.2.2.1⟩
  refine ⟨by simpa using (h.midO hg).set 1 v5, OwnL.keep h1 hb1.size fun k hk hl => hb1.block k hl (by omega), ?_, ?_, ?_, ?_, hlo⟩
  · refine ownsRow_keep (ownsRow_keep h0.row fun g hg2 hl => hg.block g hl fun e => h.ap g e.symm hg2) fun g hg2 hl => hb1.block g hl ?_
    have := (h.row.lt g hg2).1
    omega
  · intro g hg1 hg2
    rcases hn with hn | hn
    · exact h.ap g (hn ▸ hg1) hg2
    · have := hn g hg1
      have := (h.row.lt g hg2).2
      omega
  · intro j hj
    rw [List.length_append, List.length_singleton] at hj
    by_cases hjn : j < xs.length
    · have e : (xs ++ [u]).getD j zC = xs.getD j zC := by simp [hjn, List.getElem?_append_left hjn]
      rw [e]
      exact mvI (h0.ap2 j hjn)
    · obtain rfl : j = xs.length := by omega
      have e : (xs ++ [u]).getD xs.length zC = u := by simp
      rw [e]
      exact mvI (hu.below (below1 wr o))
  · refine ((h.but.trans (But.ofBelow (below1 wr o))).grown hg fun k hk hl => ?_).trans hb1
    have := (h.own.own.lt k hk).1
    omega
theorem JoI.stepP {W3 wr w5 : World} {O : Nat} {num : Int} {vO vP v5 : Value} {xs : List VT} {ps : List ByteArray} {o : Obj} {key : ByteArray} (h : JoI W3 wr O num vO vP xs ps)
    (hown : StRow W3.heap.size w5 v5 (ps ++ [key])) (hg : (wr.alloc o).grownBy w5 vP.ownBlock) (hn : Near (wr.alloc o) vP v5) : JoI W3 (w5.setCell ⟨O, 2, none⟩ v5) O num vO v5 xs (ps ++ [key]) := by
  have hlo := h.lo
  have hbs := h.but.size
  have h0 := h.below (below1 wr o)
  have hsz : (wr.alloc o).heap.size = wr.heap.size + 1 := by simp
  have hb1 : But (fun q => q = O) w5 (w5.setCell ⟨O, 2, none⟩ v5) := (But.one w5 O).setAt _ _
  have mvI : ∀ {c : VT}, VT.In (wr.alloc o) (fun b => W3.heap.size ≤ b ∧ vO.ownBlock ≠ some b ∧ vP.ownBlock ≠ some b) c → VT.In (w5.setCell ⟨O, 2, none⟩ v5) (fun b => W3.heap.size ≤ b ∧ vO.ownBlock ≠ some b ∧ v5.ownBlock ≠ some b) c := fun {c} hc => by
    have k1 : VT.In (wr.alloc o) (fun b => W3.heap.size ≤ b ∧ vO.ownBlock ≠ some b ∧ vP.ownBlock ≠ some b ∧ v5.ownBlock ≠ some b) c := hc.mono fun b hb hl => ⟨hb.1, hb.2.1, hb.2.2, near_not hn hb.2.2 hl⟩
    have k2 := k1.kept hg.size fun b hb hl => hg.block b hl fun e => hb.2.2.1 e.symm
    have k3 := k2.but hb1 fun b hb _ e => by have := hb.1; omega
    exact k3.mono fun b hb _ => ⟨hb.1, hb.2.1, hb.2.2.2⟩
  refine ⟨by simpa using (h.midP hg).set 2 v5, ?_, ownsRow_keep hown fun g hg2 hl => hb1.block g hl (by have := (hown.lt g hg2).1; omega), ?_, fun j hj => mvI (h0.ap2 j hj), ?_, hlo⟩
  · refine ⟨?_, fun j hj => (mvI (h0.ap2 j hj)).mono fun b hb _ => ⟨hb.1, hb.2.1⟩⟩
    refine ownsRow_keep (ownsRow_keep h0.own.own fun g hg2 hl => hg.block g hl fun e => h.ap g hg2 e.symm) fun g hg2 hl => hb1.block g hl ?_
    have := (h.own.own.lt g hg2).1
    omega
  · intro g hg1 hg2
    rcases hn with hn | hn
    · exact h.ap g hg1 (hn ▸ hg2)
    · have := hn g hg2
      have := (h.own.own.lt g hg1).2
      omega
  · refine ((h.but.trans (But.ofBelow (below1 wr o))).grown hg fun k hk hl => ?_).trans hb1
    have := (h.row.lt k hk).1
    omega
theorem jGone_has {d f : DT} (hd : Rise id d.gone.toL) (hf : Rise id f.gone.toL) : (jGone d f).length < f.gone.n ↔ ∃ g ∈ f.gone.toL, g ∈ d.gone.toL := by
  have hsub : (jGone d f).Sublist f.gone.toL := wo_sub _ _ _ _ _ _
  have hl := LT.toL_len f.gone
  constructor
  · intro h
    refine Classical.byContradiction fun hn => ?_
    have e : jGone d f = f.gone.toL := by
      refine Rise.ext (k := id) (wo_rise _ _ _ _ hf hd) hf fun x => ?_
      rw [jGone, wo_mem _ _ _ _ hf hd x]
      exact ⟨fun h => h.1, fun h => ⟨h, fun y hy e => hn ⟨x, h, by have e2 : y = x := e; rw [← e2]; exact hy⟩⟩⟩
    rw [e, hl] at h
    omega
  · rintro ⟨g, h1, h2⟩
    rcases Nat.lt_or_ge (jGone d f).length f.gone.n with h | h
    · exact h
    · have e := hsub.eq_of_length_le (by omega)
      have : g ∈ jGone d f := by rw [e]; exact h1
      rw [jGone, wo_mem _ _ _ _ hf hd g] at this
      exact (this.2 g h2 rfl).elim
theorem joinE_val {d f : DT} (h1 : chkD d = 0) (h2 : chkD f = 0) : ((∃ g ∈ f.gone.toL, g ∈ d.gone.toL) → joinE d f = 110) ∧ ((∀ g ∈ f.gone.toL, g ∉ d.gone.toL) → joinE d f = if 64 < (jS d.nS f.gone.toL f.nS).length ∨ 64 < (jG d.gone.toL f.nS f.gone.toL).length then 111 else 0) := by
  have hg := jGone_has (d := d) (f := f) (chkD_ok h1).gone (chkD_ok h2).gone
  have e1 : (jSet d f).length = (jS d.nS f.gone.toL f.nS).length := by rw [DT.nS, DT.nS, jS_nat, List.length_map]; rfl
  have e2 : (jAll d f).length = (jG d.gone.toL f.nS f.gone.toL).length := by rw [DT.nS, jG_nat]; rfl
  unfold joinE
  rw [if_neg (by simpa using h1), if_neg (by simpa using h2)]
  constructor
  · intro h
    rw [if_pos (hg.2 h)]
  · intro h
    rw [if_neg (fun k => by obtain ⟨g, a, b⟩ := hg.1 k; exact h g a b), e1, e2]
structure JoK (d f : DT) (K : List ByteArray) : Prop where
  hd : DOk d
  hf : DOk f
  rK : Rise id K
  mK : ∀ k, k ∈ K ↔ keyIn d.set.toL k ∨ keyIn f.set.toL k ∨ k ∈ d.gone.toL ∨ k ∈ f.gone.toL
theorem JoK.rR {d f : DT} {K : List ByteArray} (h : JoK d f K) : Rise VT.text (jS d.nS f.gone.toL f.nS) := jS_rise (nS_rise h.hd.set) (nS_rise h.hf.set) h.hf.gone
theorem JoK.rG {d f : DT} {K : List ByteArray} (h : JoK d f K) : Rise id (jG d.gone.toL f.nS f.gone.toL) := jG_rise h.hd.gone h.hf.gone (nS_rise h.hf.set)
theorem JoK.inS {d f : DT} {K : List ByteArray} (h : JoK d f K) : ∀ c ∈ jS d.nS f.gone.toL f.nS, c.text ∈ K := by
  intro c hc
  rw [h.mK]
  rcases (keyIn_jS (nS_rise h.hd.set) (nS_rise h.hf.set) h.hf.gone c.text).1 ⟨c, hc, rfl⟩ with h1 | ⟨h1, _⟩
  · exact .inr (.inl (keyIn_norm.1 h1))
  · exact .inl (keyIn_norm.1 h1)
theorem JoK.inG {d f : DT} {K : List ByteArray} (h : JoK d f K) : ∀ k ∈ jG d.gone.toL f.nS f.gone.toL, id k ∈ K := by
  intro k hk
  show k ∈ K
  rw [h.mK]
  rcases (jG_key h.hd.gone h.hf.gone (nS_rise h.hf.set) k).1 hk with h1 | ⟨h1, _⟩
  · exact .inr (.inr (.inr h1))
  · exact .inr (.inr (.inl h1))
def zD : DT := ⟨0, ⟨none, 0, 0, fun _ => zC⟩, ⟨none, 0, 0, fun _ => ⟨#[]⟩⟩⟩
theorem zD_in (w : World) (S : Nat → Prop) : DT.In w S zD := ⟨LT.In.none_ _ _ _ none 0 _ (Nat.zero_le _) (fun _ => rfl), LT.In.none_ _ _ _ none 0 _ (Nat.zero_le _) (fun _ => rfl), by show (-9223372036854775808 : Int) ≤ 0; omega, by show (0 : Int) ≤ 9223372036854775807; omega⟩
theorem strs_toL (p : Option Addr) (c : Nat) (ps : List ByteArray) : LT.toL ⟨p, ps.length, c, fun j => ps.getD j ⟨#[]⟩⟩ = ps := by
  unfold LT.toL
  apply List.ext_getElem
  · simp
  · intro i h1 h2
    simp at h1
    simp [h1]
theorem StRow.in_ {base : Nat} {w : World} {p : Option Addr} {n c : Nat} {ps : List ByteArray} (h : StRow base w (.slice p n c) ps) (hn : ps.length ≤ 140737488355328) (hk : ∀ k ∈ ps, k.size ≤ 140737488355328) : LT.In elStr w (fun b => base ≤ b) ⟨p, ps.length, c, fun j => ps.getD j ⟨#[]⟩⟩ ∧ n = ps.length := by
  have e : ps.map Value.string = (List.range ps.length).flatMap fun j => elStr.cells (ps.getD j ⟨#[]⟩) := by
    have h1 := strs_flat ⟨p, ps.length, c, fun j => ps.getD j ⟨#[]⟩⟩
    rw [strs_toL] at h1
    exact h1.symm
  have h2 : OwnL elStr base w (.slice p n c) ps.length (fun j => ps.getD j ⟨#[]⟩) := by
    refine ⟨by rw [← e]; exact h, fun j hj => ?_⟩
    show (ps.getD j ⟨#[]⟩).size ≤ _
    have e2 : ps.getD j ⟨#[]⟩ = ps[j] := by simp [hj]
    rw [e2]
    exact hk _ (List.getElem_mem hj)
  obtain ⟨p', c', e3, h3⟩ := h2.in_ hn
  cases e3
  exact ⟨h3, rfl⟩
set_option maxHeartbeats 16000000 in
theorem rjoin_any (d f : DT) (w : World) (S : Nat → Prop) (hd : DT.In w S d) (hf : DT.In w S f) (hS : ∀ k, S k → k < w.heap.size) (zd : DSz d) (zf : DSz f) :
    Calls Try.prog 26 #[.agg #[.int .i64 d.num, .slice d.set.p d.set.n d.set.c, .slice d.gone.p d.gone.n d.gone.c], .agg #[.int .i64 f.num, .slice f.set.p f.set.n f.set.c, .slice f.gone.p f.gone.n f.gone.c]] w fun e w' => ∃ u : DT, e = .returned (.tuple #[.agg #[.int .i64 u.num, .slice u.set.p u.set.n u.set.c, .slice u.gone.p u.gone.n u.gone.c], .int .i64 (joinE d f : Int)]) ∧ DT.In w' (fun k => w.heap.size ≤ k) u ∧ (joinE d f = 0 → Jnd d f u) ∧ (joinE d f ≠ 0 → u = zD) ∧ Below w.heap.size w w' := by
  obtain ⟨i0, Kd⟩ := kindCs
  have HKd := hid Kd
  obtain ⟨i1, Ks⟩ := kindS
  have HKs := hid Ks
  clear Kd Ks
  obtain ⟨W0, hW0⟩ : ∃ X, X = ((w.alloc (.cells #[.int .i64 d.num, .slice d.set.p d.set.n d.set.c, .slice d.gone.p d.gone.n d.gone.c] 30)).alloc (.cells #[.int .i64 f.num, .slice f.set.p f.set.n f.set.c, .slice f.gone.p f.gone.n f.gone.c] 30)).alloc (.cells #[.int .i64 0, .slice none 0 0, .slice none 0 0] 30) := ⟨_, rfl⟩
  have hB0 : Below w.heap.size w W0 := by rw [hW0]; exact (below2 _ _ _).alloc (by simp; omega) _
  have hs00 : W0.heap.size = w.heap.size + 3 := by rw [hW0]; simp
  have bS : Box W0 w.heap.size #[.int .i64 d.num, .slice d.set.p d.set.n d.set.c, .slice d.gone.p d.gone.n d.gone.c] 30 := by rw [hW0]; exact ((Box.new w _ _).below (below1 _ _)).below (below1 _ _)
  have bD : Box W0 (w.heap.size + 1) #[.int .i64 f.num, .slice f.set.p f.set.n f.set.c, .slice f.gone.p f.gone.n f.gone.c] 30 := by
    have h1 := Box.new (w.alloc (.cells #[.int .i64 d.num, .slice d.set.p d.set.n d.set.c, .slice d.gone.p d.gone.n d.gone.c] 30)) #[.int .i64 f.num, .slice f.set.p f.set.n f.set.c, .slice f.gone.p f.gone.n f.gone.c] 30
    rw [World.size_alloc] at h1
    rw [hW0]
    exact h1.below (below1 _ _)
  have bR : Box W0 (w.heap.size + 2) #[.int .i64 0, .slice none 0 0, .slice none 0 0] 30 := by
    have h1 := Box.new ((w.alloc (.cells #[.int .i64 d.num, .slice d.set.p d.set.n d.set.c, .slice d.gone.p d.gone.n d.gone.c] 30)).alloc (.cells #[.int .i64 f.num, .slice f.set.p f.set.n f.set.c, .slice f.gone.p f.gone.n f.gone.c] 30)) #[.int .i64 0, .slice none 0 0, .slice none 0 0] 30
    rw [World.size_alloc, World.size_alloc] at h1
    rw [hW0]
    exact h1
  have hdI := hd.below hB0
  have hfI := hf.below hB0
  have HSt := hid (rcheck_any d W0 S hdI zd)
  have HW0 := hid hW0
  have HB0 := hid hB0
  have HS00 := hid hs00
  have HbS := hid bS
  have HbD := hid bD
  have HbR := hid bR
  have HdI := hid hdI
  have HfI := hid hfI
  have HS := hid hS
  have HZd := hid zd
  have HZf := hid zf
  have a0 := bS.cell 0
  have a1 := bS.cell 1
  have a2 := bS.cell 2
  have al := bS.lt
  simp at a0 a1 a2
  clear hW0 hB0 hs00 bS bD bR hdI hfI hd hf hS zd zf
  go_enter Try.func26, Try.ntmps26
  go_upto_region 1 with fail
  rw [← HW0.out]
  go_wp2_with fail
  refine HSt.out.mono ?_
  rintro e W1 ⟨rfl, hb1⟩
  have HB1 : Hid (Below w.heap.size w W1) := HB0.out.trans (hb1.mono HB0.out.size)
  replace HbS := hid (HbS.out.below hb1)
  replace HbD := hid (HbD.out.below hb1)
  replace HbR := hid (HbR.out.below hb1)
  replace HdI := hid (HdI.out.below hb1)
  replace HfI := hid (HfI.out.below hb1)
  have HZ1 : Hid (w.heap.size + 3 ≤ W1.heap.size) := by have := HS00.out; have := hb1.size; show _ ≤ _; omega
  obtain ⟨cs, hcs⟩ : ∃ x, x = chkD d := ⟨_, rfl⟩
  rw [← hcs]
  have HCs := hid hcs
  clear hb1 HSt hcs a0 a1 a2 al
  by_cases h0 : cs = 0
  case neg =>
    have h0' : ((cs : Int) != 0) = true := by simp; omega
    have HR : Hid (joinE d f = cs) := by show _ = _; unfold joinE; rw [← HCs.out, if_pos h0]
    have r0 := HbR.out.cell 0
    have rf0 := HbR.out.frozen 0
    have r1 := HbR.out.cell 1
    have rf1 := HbR.out.frozen 1
    have r2 := HbR.out.cell 2
    have rf2 := HbR.out.frozen 2
    have rl := HbR.out.lt
    simp at r0 r1 r2
    go_wp2
    have hbx : Box (((W1.setCell ⟨w.heap.size + 2, 0, none⟩ (.int .i64 0)).setCell ⟨w.heap.size + 2, 1, none⟩ (.slice none 0 0)).setCell ⟨w.heap.size + 2, 2, none⟩ (.slice none 0 0)) (w.heap.size + 2) #[.int .i64 0, .slice none 0 0, .slice none 0 0] 30 := by simpa using ((HbR.out.set 0 (.int .i64 0)).set 1 (.slice none 0 0)).set 2 (.slice none 0 0)
    have hbt : But (fun x => x = w.heap.size + 2) W1 (((W1.setCell ⟨w.heap.size + 2, 0, none⟩ (.int .i64 0)).setCell ⟨w.heap.size + 2, 1, none⟩ (.slice none 0 0)).setCell ⟨w.heap.size + 2, 2, none⟩ (.slice none 0 0)) := (((But.one _ _).setAt 0 _).setAt 1 _).setAt 2 _
    have g0 := hbx.cell 0
    have g1 := hbx.cell 1
    have g2 := hbx.cell 2
    simp at g0 g1 g2
    exact bodyPost_ret (v := .tuple #[.agg #[.int .i64 0, .slice none 0 0, .slice none 0 0], .int .i64 (cs : Int)]) (by simp [results, Try.results26, go_sem, g0, g1, g2]) rfl ⟨zD, by rw [HR.out]; try rfl, zD_in _ _, fun h => (by rw [HR.out] at h; exact (by omega : False).elim), fun _ => rfl, HB1.out.trans (hbt.below HB1.out.size (fun q hq => by omega))⟩
  case pos =>
    subst h0
    have HOkS : Hid (chkD d = 0) := HCs.out.symm
    clear HCs
    have b0 := HbD.out.cell 0
    have b1 := HbD.out.cell 1
    have b2 := HbD.out.cell 2
    have bl := HbD.out.lt
    simp at b0 b1 b2
    have HCk := hid (rcheck_any f W1 S HfI.out HZf.out)
    go_wp2_with fail
    refine HCk.out.mono ?_
    rintro e W2 ⟨rfl, hb2⟩
    have HB2 : Hid (Below w.heap.size w W2) := HB1.out.trans (hb2.mono HB1.out.size)
    replace HbS := hid (HbS.out.below hb2)
    replace HbD := hid (HbD.out.below hb2)
    replace HbR := hid (HbR.out.below hb2)
    replace HdI := hid (HdI.out.below hb2)
    replace HfI := hid (HfI.out.below hb2)
    have HZ2 : Hid (w.heap.size + 3 ≤ W2.heap.size) := by have := HZ1.out; have := hb2.size; show _ ≤ _; omega
    obtain ⟨cd, hcd⟩ : ∃ x, x = chkD f := ⟨_, rfl⟩
    rw [← hcd]
    have HCd := hid hcd
    clear hb2 HCk hcd HB1 b0 b1 b2 bl
    by_cases h0 : cd = 0
    case neg =>
      have h0' : ((cd : Int) != 0) = true := by simp; omega
      have HR : Hid (joinE d f = cd) := by show _ = _; unfold joinE; rw [if_neg (by simpa using HOkS.out), ← HCd.out, if_pos h0]
      have r0 := HbR.out.cell 0
      have rf0 := HbR.out.frozen 0
      have r1 := HbR.out.cell 1
      have rf1 := HbR.out.frozen 1
      have r2 := HbR.out.cell 2
      have rf2 := HbR.out.frozen 2
      have rl := HbR.out.lt
      simp at r0 r1 r2
      go_wp2
      have hbx : Box (((W2.setCell ⟨w.heap.size + 2, 0, none⟩ (.int .i64 0)).setCell ⟨w.heap.size + 2, 1, none⟩ (.slice none 0 0)).setCell ⟨w.heap.size + 2, 2, none⟩ (.slice none 0 0)) (w.heap.size + 2) #[.int .i64 0, .slice none 0 0, .slice none 0 0] 30 := by simpa using ((HbR.out.set 0 (.int .i64 0)).set 1 (.slice none 0 0)).set 2 (.slice none 0 0)
      have hbt : But (fun x => x = w.heap.size + 2) W2 (((W2.setCell ⟨w.heap.size + 2, 0, none⟩ (.int .i64 0)).setCell ⟨w.heap.size + 2, 1, none⟩ (.slice none 0 0)).setCell ⟨w.heap.size + 2, 2, none⟩ (.slice none 0 0)) := (((But.one _ _).setAt 0 _).setAt 1 _).setAt 2 _
      have g0 := hbx.cell 0
      have g1 := hbx.cell 1
      have g2 := hbx.cell 2
      simp at g0 g1 g2
      exact bodyPost_ret (v := .tuple #[.agg #[.int .i64 0, .slice none 0 0, .slice none 0 0], .int .i64 (cd : Int)]) (by simp [results, Try.results26, go_sem, g0, g1, g2]) rfl ⟨zD, by rw [HR.out]; try rfl, zD_in _ _, fun h => (by rw [HR.out] at h; exact (by omega : False).elim), fun _ => rfl, HB2.out.trans (hbt.below HB2.out.size (fun q hq => by omega))⟩
    case pos =>
      subst h0
      have HOkD : Hid (chkD f = 0) := HCd.out.symm
      clear HCd
      have HDo := hid (chkD_ok HOkS.out)
      have HFo := hid (chkD_ok HOkD.out)
      have hdn := HDo.out.sn
      have hgn := HDo.out.gn
      have hfn := HFo.out.sn
      have hhn := HFo.out.gn
      obtain ⟨V2, hV2⟩ : ∃ X, X = W2.alloc (.cells #[.int .i64 f.num, .slice none 0 0, .slice none 0 0] 30) := ⟨_, rfl⟩
      have hbV : Below W2.heap.size W2 V2 := by rw [hV2]; exact below1 _ _
      have HbO : Hid (Box V2 W2.heap.size #[.int .i64 f.num, .slice none 0 0, .slice none 0 0] 30) := by show Box _ _ _ _; rw [hV2]; exact Box.new _ _ _
      have HVs : Hid (V2.heap.size = W2.heap.size + 1) := by show _ = _; rw [hV2]; simp
      have HV2 := hid hV2
      have b0 := HbD.out.cell 0
      have b1 := HbD.out.cell 1
      have b2 := HbD.out.cell 2
      have bl := HbD.out.lt
      simp at b0 b1 b2
      go_upto_region 8 with fail
      rw [← HV2.out]
      clear b0 b1 b2 bl
      replace HbS := hid (HbS.out.below hbV)
      replace HbD := hid (HbD.out.below hbV)
      replace HbR := hid (HbR.out.below hbV)
      replace HdI := hid (HdI.out.below hbV)
      replace HfI := hid (HfI.out.below hbV)
      have HBV : Hid (Below w.heap.size w V2) := HB2.out.trans (hbV.mono HB2.out.size)
      have HKy := hid (rkeys_any d.set f.set d.gone f.gone V2 S HdI.out.set HfI.out.set HdI.out.gone HfI.out.gone ⟨by omega, by omega, by omega, by omega⟩)
      have a0 := HbS.out.cell 0
      have a1 := HbS.out.cell 1
      have a2 := HbS.out.cell 2
      have al := HbS.out.lt
      simp at a0 a1 a2
      have b0 := HbD.out.cell 0
      have b1 := HbD.out.cell 1
      have b2 := HbD.out.cell 2
      have bl := HbD.out.lt
      simp at b0 b1 b2
      clear hV2 hbV
      go_wp2_with fail
      refine HKy.out.mono ?_
      rintro e W3 ⟨vK, K, rfl, hK, hrow, hb3⟩
      replace HbS := hid (HbS.out.below hb3)
      replace HbD := hid (HbD.out.below hb3)
      replace HbR := hid (HbR.out.below hb3)
      replace HdI := hid (HdI.out.below hb3)
      replace HfI := hid (HfI.out.below hb3)
      replace HbO := hid (HbO.out.below hb3)
      have HB3 : Hid (Below w.heap.size w W3) := HBV.out.trans (hb3.mono HBV.out.size)
      have HJK : Hid (JoK d f K) := ⟨HDo.out, HFo.out, hK.rise, fun k => by rw [hK.mem, allK_mem]⟩
      have hKl : K.length ≤ 400 := by
        have h1 := nodup_len hK.rise.nodup (fun x hx => (hK.mem x).1 hx)
        have h2 : (allK d.set f.set d.gone f.gone).length ≤ 400 := by simp [allK, LT.toL_len]; omega
        omega
      obtain ⟨pk, ck, hvk⟩ := ownsRow_slice hrow
      obtain ⟨LK, hLK⟩ : ∃ n, n = K.length := ⟨_, rfl⟩
      rw [← hLK] at hvk hKl
      subst hvk
      have HLK := hid hLK
      have HRow := hid hrow
      have HZ3 : Hid (V2.heap.size ≤ W3.heap.size) := hb3.size
      obtain ⟨O, hO⟩ : ∃ O, O = W2.heap.size := ⟨_, rfl⟩
      have HO : Hid (w.heap.size + 3 ≤ O ∧ O < W3.heap.size ∧ V2.heap.size = O + 1) := by have := HVs.out; have := HZ3.out; have := HZ2.out; show _ ∧ _; omega
      rw [← hO] at HbO
      rw [← hO]
      obtain ⟨R, hR⟩ : ∃ R, R = jS d.nS f.gone.toL f.nS := ⟨_, rfl⟩
      have HRR := hid hR
      obtain ⟨G, hG⟩ : ∃ G, G = jG d.gone.toL f.nS f.gone.toL := ⟨_, rfl⟩
      have HGG := hid hG
      clear hK hrow hb3 hLK hO hR hG HKy HVs HZ3 HZ2 HV2 HW0 a0 a1 a2 al b0 b1 b2 bl
      go_wp2_with fail
      go_loopw [9] (fun x wr => ∃ (k : Nat) (vO vP : Value) (xs : List VT) (ps : List ByteArray), k ≤ LK ∧ x = .int .i64 (k : Int) ∧ JoI W3 wr O f.num vO vP xs ps ∧ xs.length ≤ k ∧ ps.length ≤ k ∧ Gth VT.text K k R (xs.map VT.norm) ∧ Gth id K k G ps ∧ ∀ g ∈ K.take k, g ∈ f.gone.toL → g ∉ d.gone.toL) (fun x _ => LK - (intOf x).toNat)
      case atStart => exact ⟨0, _, _, [], [], Nat.zero_le _, rfl, ⟨HbO.out, CRow.nil _ _, StRow.nil _ _, fun g h => (by cases h), fun j hj => absurd hj (by show ¬ j < 0; omega), But.refl _ _, HO.out.2.1⟩, Nat.le_refl _, Nat.le_refl _, Gth.start _ _ _, Gth.start _ _ _, fun g h => by simp at h⟩
      case round =>
        obtain ⟨k, vO, vP, xs, ps, hk, rfl, hA, hxl, hpl, hG, hH, hgo⟩ := hrel
        obtain ⟨po, co, hvo⟩ := ownsRow_slice hA.own.own
        subst hvo
        obtain ⟨pp, cp, hvp⟩ := ownsRow_slice hA.row
        obtain ⟨LP, hLP⟩ : ∃ n, n = ps.length := ⟨_, rfl⟩
        rw [← hLP] at hvp hpl
        have HLP := hid hLP
        subst hvp
        have hO := HO.out
        have bSr := HbS.out.but hA.but (by omega)
        have bDr := HbD.out.but hA.but (by omega)
        have bRr := HbR.out.but hA.but (by omega)
        have HdR : Hid (DT.In wr S d) := HdI.out.kept hA.but.size (fun b hb hl => hA.but.block b hl (by have := HS.out b hb; omega))
        have HfR : Hid (DT.In wr S f) := HfI.out.kept hA.but.size (fun b hb hl => hA.but.block b hl (by have := HS.out b hb; omega))
        have HRowR : Hid (StRow V2.heap.size wr (.slice pk LK ck) K) := ownsRow_keep HRow.out fun q hq hl => hA.but.block q hl (by have := (HRow.out.lt q hq).1; omega)
        have HBr : Hid (Below w.heap.size w wr) := HB3.out.trans (hA.but.below HB3.out.size (fun q hq => by omega))
        have a0 := bSr.cell 0
        have a1 := bSr.cell 1
        have a2 := bSr.cell 2
        have al := bSr.lt
        simp at a0 a1 a2
        have b0 := bDr.cell 0
        have b1 := bDr.cell 1
        have b2 := bDr.cell 2
        have bl := bDr.lt
        simp at b0 b1 b2
        have HSr := hid bSr
        have HDr := hid bDr
        have HRr := hid bRr
        have HA := hid hA
        have HG := hid hG
        have HH := hid hH
        have HGo := hid hgo
        have HA0 : Hid (W3.heap.size ≤ wr.heap.size) := hA.but.size
        have HA00 : Hid (∀ b, (Value.slice po xs.length co).ownBlock = some b → b < wr.heap.size) := fun b hb => (hA.own.own.lt b hb).2
        have HA01 : Hid (∀ b, (Value.slice pp LP cp).ownBlock = some b → b < wr.heap.size) := fun b hb => (hA.row.lt b hb).2
        clear hA hG hH hgo bSr bDr bRr hO hLP
        by_cases hlt : k < LK
        · have hlt' : (k : Int) < (LK : Int) := by omega
          obtain ⟨key, hkey⟩ : ∃ key, K[k]? = some key := ⟨_, List.getElem?_eq_getElem (by have := HLK.out; omega)⟩
          obtain ⟨gk, hpk, hgk, hck⟩ := HRowR.out.at_ (by have := HLK.out; omega)
          have k0 := hck k key hkey
          have HKey := hid hkey
          rw [hpk]
          clear hck hkey hpk
          have HAt : Hid (∀ X, Below wr.heap.size wr X → Calls Try.prog 52 #[.slice d.set.p d.set.n d.set.c, .string key] X fun e w' => ∃ (u : VT) (had : Bool), e = .returned (.tuple #[.agg #[.string u.text, .slice u.p u.n u.c], .bool had]) ∧ AtR d.set key had u w' (fun b => X.heap.size ≤ b) ∧ Below X.heap.size X w') := fun X hX => rat_one d.set key X S ((HdR.out.set).below hX) ⟨HZd.out.set, HZd.out.item⟩
          go_upto_region 12 with fail
          go_cut [10, 11] (fun s10 s11 wx => ∃ (bz : Nat) (u : VT) (had : Bool), s10 = .pointer (some ⟨bz, 0, none⟩) ∧ s11 = .bool had ∧ wr.heap.size ≤ bz ∧ Box wx bz #[.string u.text, .slice u.p u.n u.c] 62 ∧ AtR d.set key had u wx (fun b => wr.heap.size ≤ b ∧ b ≠ bz) ∧ Below wr.heap.size wr wx)
          case first =>
            refine wp_region_calmE 30 (fun wx => Below wr.heap.size wr wx) [(0, true), (1, false), (2, true), (3, true), (4, true), (5, false)] (.two 6 true [(7, true), (8, true), (9, true)] (.one 10 true [] (.one 11 false [(12, true)] .done)) 10 true [] (.one 6 true [(7, true), (8, true), (9, true)] (.one 11 false [(12, true)] .done))) (by kernel_rfl) (by kernel_rfl) (Below.refl _ _).drew ?_
            refine wpPre_e rfl rfl (fun K1 hK1 => ?_)
            apply Exists.intro
            refine And.intro (fun wx hx => ?_) ?_
            · go_simp
              try rfl
            go_simp
            refine hK1 _ ?_
            clear hK1 K1
            refine wpPre_e rfl rfl (fun K1 hK1 => ?_)
            apply Exists.intro
            refine And.intro (fun wx hx => ?_) ?_
            · have e0 := below_fact hx rfl a0
              have e1 := below_fact hx rfl a1
              have e2 := below_fact hx rfl a2
              have e3 := below_fact hx rfl k0
              go_simp
              try rfl
            go_simp
            refine hK1 _ ?_
            clear hK1 K1
            refine wpPre_e rfl rfl (fun K1 hK1 => ?_)
            apply Exists.intro
            refine And.intro (fun wx hx => ?_) ?_
            · go_simp
              try rfl
            go_simp
            refine hK1 _ ?_
            clear hK1 K1
            refine wpPre_e rfl rfl (fun K1 hK1 => ?_)
            apply Exists.intro
            refine And.intro (fun wx hx => ?_) ?_
            · go_simp
              try rfl
            go_simp
            refine hK1 _ ?_
            clear hK1 K1
            refine wpPre_e rfl rfl (fun K1 hK1 => ?_)
            apply Exists.intro
            refine And.intro (fun wx hx => ?_) ?_
            · go_simp
              try rfl
            go_simp
            refine hK1 _ ?_
            clear hK1 K1
            refine wpPre_e rfl rfl (fun K1 hK1 => ?_)
            apply Exists.intro
            refine And.intro (fun wx hx => ?_) ?_
            · have e0 := below_fact hx rfl a0
              have e1 := below_fact hx rfl a1
              have e2 := below_fact hx rfl a2
              have e3 := below_fact hx rfl k0
              go_simp
              try rfl
            go_simp
            refine hK1 _ ?_
            clear hK1 K1
            refine wpPre_nil ?_
            refine wpTr_two rfl rfl (fun K1 hK1 => ?_) (fun K1 hK1 => ?_)
            · refine step_call rfl 52 #[.tmp 48, .tmp 52] _ rfl Try.f52 Try.func52 (by kernel_rfl) rfl #[.slice d.set.p d.set.n d.set.c, .string key] rfl _ (HAt.out _ (Below.refl wr.heap.size wr).drew) (fun e w1 h1 => ?_)
              obtain ⟨u, had, rfl, hat, hb1⟩ := h1
              have HB1 : Hid (Below wr.heap.size wr w1) := (Below.refl wr.heap.size wr).drew.trans hb1
              have HA1 := hid hat
              clear hb1 hat
              refine ⟨_, rfl, ?_⟩
              go_simp
              refine hK1 _ _ (fun _ => HB1.out) ?_
              clear hK1 K1
              refine wpPre_e rfl rfl (fun K1 hK1 => ?_)
              apply Exists.intro
              refine And.intro (fun wx hx => ?_) ?_
              · go_simp
                try rfl
              go_simp
              refine hK1 _ ?_
              clear hK1 K1
              refine wpPre_e rfl rfl (fun K1 hK1 => ?_)
              apply Exists.intro
              refine And.intro (fun wx hx => ?_) ?_
              · go_simp
                try rfl
              go_simp
              refine hK1 _ ?_
              clear hK1 K1
              refine wpPre_e rfl rfl (fun K1 hK1 => ?_)
              apply Exists.intro
              refine And.intro (fun wx hx => ?_) ?_
              · go_simp
                try rfl
              go_simp
              refine hK1 _ ?_
              clear hK1 K1
              refine wpPre_nil ?_
              refine wpTr_e rfl (fun K1 hK1 => ?_)
              go_simp
              refine hK1 _ _ (fun _ => HB1.out.trans ((below1 w1 _).mono HB1.out.size)) ?_
              clear hK1 K1
              refine wpPre_nil ?_
              refine wpTr_e rfl (fun K1 hK1 => ?_)
              go_simp
              refine hK1 _ _ (fun h => by cases h) ?_
              clear hK1 K1
              refine wpPre_e rfl rfl (fun K1 hK1 => ?_)
              apply Exists.intro
              refine And.intro (fun wx hx => ?_) ?_
              · go_simp
                try rfl
              go_simp
              refine hK1 _ ?_
              clear hK1 K1
              refine wpPre_nil ?_
              refine wpTr_done ?_
              go_wp2_with fail
              go_meet
              exact ⟨w1.heap.size, u, had, rfl, rfl, HB1.out.size, Box.new _ _ _, HA1.out.keep (by simp) (fun b _ hl => Below.heap_alloc _ _ _ hl) (fun b hb hl => ⟨hb, by omega⟩), HB1.out.trans ((below1 w1 _).mono HB1.out.size)⟩
            · go_simp
              obtain ⟨V, hV⟩ : ∃ V, V = (wr.alloc (.cells #[.string ⟨#[]⟩, .slice none 0 0] 62)).drew := ⟨_, rfl⟩
              have HBV : Hid (Below wr.heap.size wr V) := by show Below _ _ _; rw [hV]; exact (below1 wr _).drew
              have HBx : Hid (Box V wr.heap.size #[.string ⟨#[]⟩, .slice none 0 0] 62) := by show Box _ _ _ _; rw [hV]; exact Box.new wr _ _
              have HVs : Hid (V.heap.size = wr.heap.size + 1) := by show _ = _; rw [hV]; simp
              rw [← hV]
              clear hV
              refine hK1 _ _ (fun _ => HBV.out) ?_
              clear hK1 K1
              refine wpPre_nil ?_
              refine wpTr_e rfl (fun K1 hK1 => ?_)
              refine step_call rfl 52 #[.tmp 48, .tmp 52] _ rfl Try.f52 Try.func52 (by kernel_rfl) rfl #[.slice d.set.p d.set.n d.set.c, .string key] rfl _ (HAt.out _ HBV.out) (fun e w1 h1 => ?_)
              obtain ⟨u, had, rfl, hat, hb1⟩ := h1
              have HB1 : Hid (Below wr.heap.size wr w1) := HBV.out.trans (hb1.mono HBV.out.size)
              have HA1 := hid hat
              have bx := HBx.out.below hb1
              have q0 := bx.cell 0
              have q1 := bx.cell 1
              have g0 := bx.frozen 0
              have g1 := bx.frozen 1
              have ql := bx.lt
              simp at q0 q1
              have HX1 := hid bx
              clear hb1 hat bx
              refine ⟨_, rfl, ?_⟩
              go_simp
              refine hK1 _ _ (fun _ => HB1.out) ?_
              clear hK1 K1
              refine wpPre_e rfl rfl (fun K1 hK1 => ?_)
              apply Exists.intro
              refine And.intro (fun wx hx => ?_) ?_
              · go_simp
                try rfl
              go_simp
              refine hK1 _ ?_
              clear hK1 K1
              refine wpPre_e rfl rfl (fun K1 hK1 => ?_)
              apply Exists.intro
              refine And.intro (fun wx hx => ?_) ?_
              · go_simp
                try rfl
              go_simp
              refine hK1 _ ?_
              clear hK1 K1
              refine wpPre_e rfl rfl (fun K1 hK1 => ?_)
              apply Exists.intro
              refine And.intro (fun wx hx => ?_) ?_
              · go_simp
                try rfl
              go_simp
              refine hK1 _ ?_
              clear hK1 K1
              refine wpPre_nil ?_
              refine wpTr_e rfl (fun K1 hK1 => ?_)
              go_simp
              refine hK1 _ _ (fun h => by cases h) ?_
              clear hK1 K1
              refine wpPre_e rfl rfl (fun K1 hK1 => ?_)
              apply Exists.intro
              refine And.intro (fun wx hx => ?_) ?_
              · go_simp
                try rfl
              go_simp
              refine hK1 _ ?_
              clear hK1 K1
              refine wpPre_nil ?_
              refine wpTr_done ?_
              go_wp2_with fail
              go_meet
              have hvs := HVs.out
              have hbt : But (fun x => x = wr.heap.size) w1 ((w1.setCell ⟨wr.heap.size, 0, none⟩ (.string u.text)).setCell ⟨wr.heap.size, 1, none⟩ (.slice u.p u.n u.c)) := ((But.one _ _).setAt 0 _).setAt 1 _
              exact ⟨wr.heap.size, u, had, rfl, rfl, Nat.le_refl _, by simpa using (HX1.out.set 0 (.string u.text)).set 1 (.slice u.p u.n u.c), HA1.out.keep hbt.size (fun b hb hl => hbt.block b hl (by omega)) (fun b hb hl => ⟨by omega, by omega⟩), HB1.out.trans (hbt.below HB1.out.size (fun q hq => by omega))⟩
          case rest =>
            obtain ⟨bx, x, had, rfl, rfl, hbx0, hbxB, hatx, hbel⟩ := hcut
            obtain ⟨X1, hX1⟩ : ∃ X, X = wc := ⟨_, rfl⟩
            subst hX1
            have HAx := hid hatx
            have HBx := hid hbxB
            have k1 : X1.cell? ⟨gk, k, none⟩ = some (.string key) := (World.cell?_of_block (a := ⟨gk, k, none⟩) (hbel.block gk hgk)).trans k0
            have hgk1 : gk < X1.heap.size := Nat.lt_of_lt_of_le hgk hbel.size
            replace HSr := hid (HSr.out.below hbel)
            replace HDr := hid (HDr.out.below hbel)
            replace HRr := hid (HRr.out.below hbel)
            replace HdR := hid (HdR.out.below hbel)
            replace HfR := hid (HfR.out.below hbel)
            replace HA := hid (HA.out.below hbel)
            replace HBr := hid (HBr.out.trans (hbel.mono HBr.out.size))
            have HW1 := hid hbel
            clear hbx0 hbxB hatx hbel HAt k0 hgk a0 a1 a2 al b0 b1 b2 bl
            have b0 := HDr.out.cell 0
            have b1 := HDr.out.cell 1
            have b2 := HDr.out.cell 2
            have bl := HDr.out.lt
            simp at b0 b1 b2
            have HAt : Hid (∀ X, Below X1.heap.size X1 X → Calls Try.prog 52 #[.slice f.set.p f.set.n f.set.c, .string key] X fun e w' => ∃ (u : VT) (had : Bool), e = .returned (.tuple #[.agg #[.string u.text, .slice u.p u.n u.c], .bool had]) ∧ AtR f.set key had u w' (fun b => X.heap.size ≤ b) ∧ Below X.heap.size X w') := fun X hX => rat_one f.set key X S ((HfR.out.set).below hX) ⟨HZf.out.set, HZf.out.item⟩
            go_upto_region 13 with fail
            go_cut [12, 13] (fun s12 s13 wx => ∃ (bz : Nat) (u : VT) (had : Bool), s12 = .pointer (some ⟨bz, 0, none⟩) ∧ s13 = .bool had ∧ X1.heap.size ≤ bz ∧ Box wx bz #[.string u.text, .slice u.p u.n u.c] 62 ∧ AtR f.set key had u wx (fun b => X1.heap.size ≤ b ∧ b ≠ bz) ∧ Below X1.heap.size X1 wx)
            case first =>
              refine wp_region_calmE 30 (fun wx => Below X1.heap.size X1 wx) [(0, true), (1, false), (2, true), (3, true), (4, true), (5, false)] (.two 6 true [(7, true), (8, true), (9, true)] (.one 10 true [] (.one 11 false [(12, true)] .done)) 10 true [] (.one 6 true [(7, true), (8, true), (9, true)] (.one 11 false [(12, true)] .done))) (by kernel_rfl) (by kernel_rfl) (Below.refl _ _).drew ?_
              refine wpPre_e rfl rfl (fun K1 hK1 => ?_)
              apply Exists.intro
              refine And.intro (fun wx hx => ?_) ?_
              · go_simp
                try rfl
              go_simp
              refine hK1 _ ?_
              clear hK1 K1
              refine wpPre_e rfl rfl (fun K1 hK1 => ?_)
              apply Exists.intro
              refine And.intro (fun wx hx => ?_) ?_
              · have e0 := below_fact hx rfl b0
                have e1 := below_fact hx rfl b1
                have e2 := below_fact hx rfl b2
                have e3 := below_fact hx rfl k1
                go_simp
                try rfl
              go_simp
              refine hK1 _ ?_
              clear hK1 K1
              refine wpPre_e rfl rfl (fun K1 hK1 => ?_)
              apply Exists.intro
              refine And.intro (fun wx hx => ?_) ?_
              · go_simp
                try rfl
              go_simp
              refine hK1 _ ?_
              clear hK1 K1
              refine wpPre_e rfl rfl (fun K1 hK1 => ?_)
              apply Exists.intro
              refine And.intro (fun wx hx => ?_) ?_
              · go_simp
                try rfl
              go_simp
              refine hK1 _ ?_
              clear hK1 K1
              refine wpPre_e rfl rfl (fun K1 hK1 => ?_)
              apply Exists.intro
              refine And.intro (fun wx hx => ?_) ?_
              · go_simp
                try rfl
              go_simp
              refine hK1 _ ?_
              clear hK1 K1
              refine wpPre_e rfl rfl (fun K1 hK1 => ?_)
              apply Exists.intro
              refine And.intro (fun wx hx => ?_) ?_
              · have e0 := below_fact hx rfl b0
                have e1 := below_fact hx rfl b1
                have e2 := below_fact hx rfl b2
                have e3 := below_fact hx rfl k1
                go_simp
                try rfl
              go_simp
              refine hK1 _ ?_
              clear hK1 K1
              refine wpPre_nil ?_
              refine wpTr_two rfl rfl (fun K1 hK1 => ?_) (fun K1 hK1 => ?_)
              · refine step_call rfl 52 #[.tmp 58, .tmp 62] _ rfl Try.f52 Try.func52 (by kernel_rfl) rfl #[.slice f.set.p f.set.n f.set.c, .string key] rfl _ (HAt.out _ (Below.refl X1.heap.size X1).drew) (fun e w1 h1 => ?_)
                obtain ⟨u, had, rfl, hat, hb1⟩ := h1
                have HB1 : Hid (Below X1.heap.size X1 w1) := (Below.refl X1.heap.size X1).drew.trans hb1
                have HA1 := hid hat
                clear hb1 hat
                refine ⟨_, rfl, ?_⟩
                go_simp
                refine hK1 _ _ (fun _ => HB1.out) ?_
                clear hK1 K1
                refine wpPre_e rfl rfl (fun K1 hK1 => ?_)
                apply Exists.intro
                refine And.intro (fun wx hx => ?_) ?_
                · go_simp
                  try rfl
                go_simp
                refine hK1 _ ?_
                clear hK1 K1
                refine wpPre_e rfl rfl (fun K1 hK1 => ?_)
                apply Exists.intro
                refine And.intro (fun wx hx => ?_) ?_
                · go_simp
                  try rfl
                go_simp
                refine hK1 _ ?_
                clear hK1 K1
                refine wpPre_e rfl rfl (fun K1 hK1 => ?_)
                apply Exists.intro
                refine And.intro (fun wx hx => ?_) ?_
                · go_simp
                  try rfl
                go_simp
                refine hK1 _ ?_
                clear hK1 K1
                refine wpPre_nil ?_
                refine wpTr_e rfl (fun K1 hK1 => ?_)
                go_simp
                refine hK1 _ _ (fun _ => HB1.out.trans ((below1 w1 _).mono HB1.out.size)) ?_
                clear hK1 K1
                refine wpPre_nil ?_
                refine wpTr_e rfl (fun K1 hK1 => ?_)
                go_simp
                refine hK1 _ _ (fun h => by cases h) ?_
                clear hK1 K1
                refine wpPre_e rfl rfl (fun K1 hK1 => ?_)
                apply Exists.intro
                refine And.intro (fun wx hx => ?_) ?_
                · go_simp
                  try rfl
                go_simp
                refine hK1 _ ?_
                clear hK1 K1
                refine wpPre_nil ?_
                refine wpTr_done ?_
                go_wp2_with fail
                go_meet
                exact ⟨w1.heap.size, u, had, rfl, rfl, HB1.out.size, Box.new _ _ _, HA1.out.keep (by simp) (fun b _ hl => Below.heap_alloc _ _ _ hl) (fun b hb hl => ⟨hb, by omega⟩), HB1.out.trans ((below1 w1 _).mono HB1.out.size)⟩
              · go_simp
                obtain ⟨V, hV⟩ : ∃ V, V = (X1.alloc (.cells #[.string ⟨#[]⟩, .slice none 0 0] 62)).drew := ⟨_, rfl⟩
                have HBV : Hid (Below X1.heap.size X1 V) := by show Below _ _ _; rw [hV]; exact (below1 X1 _).drew
                have HBx : Hid (Box V X1.heap.size #[.string ⟨#[]⟩, .slice none 0 0] 62) := by show Box _ _ _ _; rw [hV]; exact Box.new X1 _ _
                have HVs : Hid (V.heap.size = X1.heap.size + 1) := by show _ = _; rw [hV]; simp
                rw [← hV]
                clear hV
                refine hK1 _ _ (fun _ => HBV.out) ?_
                clear hK1 K1
                refine wpPre_nil ?_
                refine wpTr_e rfl (fun K1 hK1 => ?_)
                refine step_call rfl 52 #[.tmp 58, .tmp 62] _ rfl Try.f52 Try.func52 (by kernel_rfl) rfl #[.slice f.set.p f.set.n f.set.c, .string key] rfl _ (HAt.out _ HBV.out) (fun e w1 h1 => ?_)
                obtain ⟨u, had, rfl, hat, hb1⟩ := h1
                have HB1 : Hid (Below X1.heap.size X1 w1) := HBV.out.trans (hb1.mono HBV.out.size)
                have HA1 := hid hat
                have bx := HBx.out.below hb1
                have q0 := bx.cell 0
                have q1 := bx.cell 1
                have g0 := bx.frozen 0
                have g1 := bx.frozen 1
                have ql := bx.lt
                simp at q0 q1
                have HX1 := hid bx
                clear hb1 hat bx
                refine ⟨_, rfl, ?_⟩
                go_simp
                refine hK1 _ _ (fun _ => HB1.out) ?_
                clear hK1 K1
                refine wpPre_e rfl rfl (fun K1 hK1 => ?_)
                apply Exists.intro
                refine And.intro (fun wx hx => ?_) ?_
                · go_simp
                  try rfl
                go_simp
                refine hK1 _ ?_
                clear hK1 K1
                refine wpPre_e rfl rfl (fun K1 hK1 => ?_)
                apply Exists.intro
                refine And.intro (fun wx hx => ?_) ?_
                · go_simp
                  try rfl
                go_simp
                refine hK1 _ ?_
                clear hK1 K1
                refine wpPre_e rfl rfl (fun K1 hK1 => ?_)
                apply Exists.intro
                refine And.intro (fun wx hx => ?_) ?_
                · go_simp
                  try rfl
                go_simp
                refine hK1 _ ?_
                clear hK1 K1
                refine wpPre_nil ?_
                refine wpTr_e rfl (fun K1 hK1 => ?_)
                go_simp
                refine hK1 _ _ (fun h => by cases h) ?_
                clear hK1 K1
                refine wpPre_e rfl rfl (fun K1 hK1 => ?_)
                apply Exists.intro
                refine And.intro (fun wx hx => ?_) ?_
                · go_simp
                  try rfl
                go_simp
                refine hK1 _ ?_
                clear hK1 K1
                refine wpPre_nil ?_
                refine wpTr_done ?_
                go_wp2_with fail
                go_meet
                have hvs := HVs.out
                have hbt : But (fun x => x = X1.heap.size) w1 ((w1.setCell ⟨X1.heap.size, 0, none⟩ (.string u.text)).setCell ⟨X1.heap.size, 1, none⟩ (.slice u.p u.n u.c)) := ((But.one _ _).setAt 0 _).setAt 1 _
                exact ⟨X1.heap.size, u, had, rfl, rfl, Nat.le_refl _, by simpa using (HX1.out.set 0 (.string u.text)).set 1 (.slice u.p u.n u.c), HA1.out.keep hbt.size (fun b hb hl => hbt.block b hl (by omega)) (fun b hb hl => ⟨by omega, by omega⟩), HB1.out.trans (hbt.below HB1.out.size (fun q hq => by omega))⟩
            case rest =>
              obtain ⟨bY, y, set_, rfl, rfl, hbx0, hbxB, hatx, hbel⟩ := hcut
              obtain ⟨X2, hX2⟩ : ∃ X, X = wc := ⟨_, rfl⟩
              subst hX2
              have HAy := hid hatx
              have HBy := hid hbxB
              have k2 : X2.cell? ⟨gk, k, none⟩ = some (.string key) := (World.cell?_of_block (a := ⟨gk, k, none⟩) (hbel.block gk hgk1)).trans k1
              have hgk2 : gk < X2.heap.size := Nat.lt_of_lt_of_le hgk1 hbel.size
              replace HSr := hid (HSr.out.below hbel)
              replace HDr := hid (HDr.out.below hbel)
              replace HRr := hid (HRr.out.below hbel)
              replace HdR := hid (HdR.out.below hbel)
              replace HfR := hid (HfR.out.below hbel)
              replace HA := hid (HA.out.below hbel)
              replace HBx := hid (HBx.out.below hbel)
              replace HAx := hid (HAx.out.keep hbel.size (fun b _ hl => hbel.block b hl) (fun b hb _ => hb))
              replace HBr := hid (HBr.out.trans (hbel.mono HBr.out.size))
              have HW2 := hid hbel
              clear hbx0 hbxB hatx hbel HAt k1 hgk1 b0 b1 b2 bl
              have b0 := HSr.out.cell 0
              have b1 := HSr.out.cell 1
              have b2 := HSr.out.cell 2
              have bl := HSr.out.lt
              simp at b0 b1 b2
              have HIn := hid (rin_any d.gone key X2.drew S (HdR.out.gone.below (Below.refl _ _).drew))
              go_upto_region 14 with fail
              refine wp_region_calmE 30 (fun wx => Below X2.heap.size X2 wx) [(0, true), (1, false), (2, true), (3, true), (4, true), (5, false)] (.one 6 false [(7, true)] .done) (by kernel_rfl) (by kernel_rfl) (Below.refl _ _).drew ?_
              refine wpPre_e rfl rfl (fun K1 hK1 => ?_)
              apply Exists.intro
              refine And.intro (fun wx hx => ?_) ?_
              · go_simp
                try rfl
              go_simp
              refine hK1 _ ?_
              clear hK1 K1
              refine wpPre_e rfl rfl (fun K1 hK1 => ?_)
              apply Exists.intro
              refine And.intro (fun wx hx => ?_) ?_
              · have e0 := below_fact hx rfl b0
                have e1 := below_fact hx rfl b1
                have e2 := below_fact hx rfl b2
                have e3 := below_fact hx rfl k2
                go_simp
                try rfl
              go_simp
              refine hK1 _ ?_
              clear hK1 K1
              refine wpPre_e rfl rfl (fun K1 hK1 => ?_)
              apply Exists.intro
              refine And.intro (fun wx hx => ?_) ?_
              · go_simp
                try rfl
              go_simp
              refine hK1 _ ?_
              clear hK1 K1
              refine wpPre_e rfl rfl (fun K1 hK1 => ?_)
              apply Exists.intro
              refine And.intro (fun wx hx => ?_) ?_
              · go_simp
                try rfl
              go_simp
              refine hK1 _ ?_
              clear hK1 K1
              refine wpPre_e rfl rfl (fun K1 hK1 => ?_)
              apply Exists.intro
              refine And.intro (fun wx hx => ?_) ?_
              · go_simp
                try rfl
              go_simp
              refine hK1 _ ?_
              clear hK1 K1
              refine wpPre_e rfl rfl (fun K1 hK1 => ?_)
              apply Exists.intro
              refine And.intro (fun wx hx => ?_) ?_
              · have e0 := below_fact hx rfl b0
                have e1 := below_fact hx rfl b1
                have e2 := below_fact hx rfl b2
                have e3 := below_fact hx rfl k2
                go_simp
                try rfl
              go_simp
              refine hK1 _ ?_
              clear hK1 K1
              refine wpPre_nil ?_
              refine wpTr_e rfl (fun K1 hK1 => ?_)
              refine step_callG (by first | rfl | go_simp) 53 #[.tmp 67, .tmp 71] _ rfl Try.f53 Try.func53 (by kernel_rfl) rfl #[.slice d.gone.p d.gone.n d.gone.c, .string key] rfl _ (HIn.out) ?_
              rintro e_ Y1 ⟨one, rfl, hgone, rfl⟩
              refine ⟨_, rfl, ?_⟩
              have HGd := hid hgone
              clear hgone
              go_simp
              refine hK1 _ _ (fun h => by cases h) ?_
              clear hK1 K1
              refine wpPre_e rfl rfl (fun K1 hK1 => ?_)
              apply Exists.intro
              refine And.intro (fun wx hx => ?_) ?_
              · go_simp
                try rfl
              go_simp
              refine hK1 _ ?_
              clear hK1 K1
              refine wpPre_nil ?_
              refine wpTr_done ?_
              obtain ⟨X3, hX3⟩ : ∃ X, X = X2.drew := ⟨_, rfl⟩
              have hb3 : Below X2.heap.size X2 X3 := by rw [hX3]; exact (Below.refl _ _).drew
              rw [← hX3]
              replace HSr := hid (HSr.out.below hb3)
              replace HDr := hid (HDr.out.below hb3)
              replace HRr := hid (HRr.out.below hb3)
              replace HdR := hid (HdR.out.below hb3)
              replace HfR := hid (HfR.out.below hb3)
              replace HA := hid (HA.out.below hb3)
              replace HBx := hid (HBx.out.below hb3)
              replace HBy := hid (HBy.out.below hb3)
              replace HAx := hid (HAx.out.keep hb3.size (fun b _ hl => hb3.block b hl) (fun b hb _ => hb))
              replace HAy := hid (HAy.out.keep hb3.size (fun b _ hl => hb3.block b hl) (fun b hb _ => hb))
              replace HBr := hid (HBr.out.trans (hb3.mono HBr.out.size))
              have k3 : X3.cell? ⟨gk, k, none⟩ = some (.string key) := (World.cell?_of_block (a := ⟨gk, k, none⟩) (hb3.block gk hgk2)).trans k2
              have hgk3 : gk < X3.heap.size := Nat.lt_of_lt_of_le hgk2 hb3.size
              clear hb3 hX3 HIn k2 hgk2 b0 b1 b2 bl
              have b0 := HDr.out.cell 0
              have b1 := HDr.out.cell 1
              have b2 := HDr.out.cell 2
              have bl := HDr.out.lt
              simp at b0 b1 b2
              have HIn := hid (rin_any f.gone key X3.drew S (HfR.out.gone.below (Below.refl _ _).drew))
              go_upto_region 15 with fail
              refine wp_region_calmE 30 (fun wx => Below X3.heap.size X3 wx) [(0, true), (1, false), (2, true), (3, true), (4, true), (5, false)] (.one 6 false [(7, true)] .done) (by kernel_rfl) (by kernel_rfl) (Below.refl _ _).drew ?_
              refine wpPre_e rfl rfl (fun K1 hK1 => ?_)
              apply Exists.intro
              refine And.intro (fun wx hx => ?_) ?_
              · go_simp
                try rfl
              go_simp
              refine hK1 _ ?_
              clear hK1 K1
              refine wpPre_e rfl rfl (fun K1 hK1 => ?_)
              apply Exists.intro
              refine And.intro (fun wx hx => ?_) ?_
              · have e0 := below_fact hx rfl b0
                have e1 := below_fact hx rfl b1
                have e2 := below_fact hx rfl b2
                have e3 := below_fact hx rfl k3
                go_simp
                try rfl
              go_simp
              refine hK1 _ ?_
              clear hK1 K1
              refine wpPre_e rfl rfl (fun K1 hK1 => ?_)
              apply Exists.intro
              refine And.intro (fun wx hx => ?_) ?_
              · go_simp
                try rfl
              go_simp
              refine hK1 _ ?_
              clear hK1 K1
              refine wpPre_e rfl rfl (fun K1 hK1 => ?_)
              apply Exists.intro
              refine And.intro (fun wx hx => ?_) ?_
              · go_simp
                try rfl
              go_simp
              refine hK1 _ ?_
              clear hK1 K1
              refine wpPre_e rfl rfl (fun K1 hK1 => ?_)
              apply Exists.intro
              refine And.intro (fun wx hx => ?_) ?_
              · go_simp
                try rfl
              go_simp
              refine hK1 _ ?_
              clear hK1 K1
              refine wpPre_e rfl rfl (fun K1 hK1 => ?_)
              apply Exists.intro
              refine And.intro (fun wx hx => ?_) ?_
              · have e0 := below_fact hx rfl b0
                have e1 := below_fact hx rfl b1
                have e2 := below_fact hx rfl b2
                have e3 := below_fact hx rfl k3
                go_simp
                try rfl
              go_simp
              refine hK1 _ ?_
              clear hK1 K1
              refine wpPre_nil ?_
              refine wpTr_e rfl (fun K1 hK1 => ?_)
              refine step_callG (by first | rfl | go_simp) 53 #[.tmp 74, .tmp 78] _ rfl Try.f53 Try.func53 (by kernel_rfl) rfl #[.slice f.gone.p f.gone.n f.gone.c, .string key] rfl _ (HIn.out) ?_
              rintro e_ Y2 ⟨two, rfl, hgone, rfl⟩
              refine ⟨_, rfl, ?_⟩
              have HGf := hid hgone
              clear hgone
              go_simp
              refine hK1 _ _ (fun h => by cases h) ?_
              clear hK1 K1
              refine wpPre_e rfl rfl (fun K1 hK1 => ?_)
              apply Exists.intro
              refine And.intro (fun wx hx => ?_) ?_
              · go_simp
                try rfl
              go_simp
              refine hK1 _ ?_
              clear hK1 K1
              refine wpPre_nil ?_
              refine wpTr_done ?_
              obtain ⟨X4, hX3⟩ : ∃ X, X = X3.drew := ⟨_, rfl⟩
              have hb3 : Below X3.heap.size X3 X4 := by rw [hX3]; exact (Below.refl _ _).drew
              rw [← hX3]
              replace HSr := hid (HSr.out.below hb3)
              replace HDr := hid (HDr.out.below hb3)
              replace HRr := hid (HRr.out.below hb3)
              replace HdR := hid (HdR.out.below hb3)
              replace HfR := hid (HfR.out.below hb3)
              replace HA := hid (HA.out.below hb3)
              replace HBx := hid (HBx.out.below hb3)
              replace HBy := hid (HBy.out.below hb3)
              replace HAx := hid (HAx.out.keep hb3.size (fun b _ hl => hb3.block b hl) (fun b hb _ => hb))
              replace HAy := hid (HAy.out.keep hb3.size (fun b _ hl => hb3.block b hl) (fun b hb _ => hb))
              replace HBr := hid (HBr.out.trans (hb3.mono HBr.out.size))
              have k4 : X4.cell? ⟨gk, k, none⟩ = some (.string key) := (World.cell?_of_block (a := ⟨gk, k, none⟩) (hb3.block gk hgk3)).trans k3
              have hgk4 : gk < X4.heap.size := Nat.lt_of_lt_of_le hgk3 hb3.size
              clear hb3 hX3 HIn k3 hgk3 HdR HfR HSr HDr b0 b1 b2 bl
              have HKx := hid HAx.out.key
              have HKyy := hid HAy.out.key
              cases one with
              | true =>
                have HM1 : Hid (key ∈ d.gone.toL) := HGd.out.1 rfl
                cases two with
                | true =>
                  have HM2 : Hid (key ∈ f.gone.toL) := HGf.out.1 rfl
                  have HR : Hid (joinE d f = 110) := (joinE_val HOkS.out HOkD.out).1 ⟨key, HM2.out, HM1.out⟩
                  have r0 := HRr.out.cell 0
                  have rf0 := HRr.out.frozen 0
                  have r1 := HRr.out.cell 1
                  have rf1 := HRr.out.frozen 1
                  have r2 := HRr.out.cell 2
                  have rf2 := HRr.out.frozen 2
                  have rl := HRr.out.lt
                  simp at r0 r1 r2
                  go_wp2
                  have hbx : Box (((X4.setCell ⟨w.heap.size + 2, 0, none⟩ (.int .i64 0)).setCell ⟨w.heap.size + 2, 1, none⟩ (.slice none 0 0)).setCell ⟨w.heap.size + 2, 2, none⟩ (.slice none 0 0)) (w.heap.size + 2) #[.int .i64 0, .slice none 0 0, .slice none 0 0] 30 := by simpa using ((HRr.out.set 0 (.int .i64 0)).set 1 (.slice none 0 0)).set 2 (.slice none 0 0)
                  have hbt : But (fun x => x = w.heap.size + 2) X4 (((X4.setCell ⟨w.heap.size + 2, 0, none⟩ (.int .i64 0)).setCell ⟨w.heap.size + 2, 1, none⟩ (.slice none 0 0)).setCell ⟨w.heap.size + 2, 2, none⟩ (.slice none 0 0)) := (((But.one _ _).setAt 0 _).setAt 1 _).setAt 2 _
                  have g0 := hbx.cell 0
                  have g1 := hbx.cell 1
                  have g2 := hbx.cell 2
                  simp at g0 g1 g2
                  exact bodyPost_ret (v := .tuple #[.agg #[.int .i64 0, .slice none 0 0, .slice none 0 0], .int .i64 (110)]) (by simp [results, Try.results26, go_sem, g0, g1, g2]) rfl ⟨zD, by rw [HR.out]; try rfl, zD_in _ _, fun h => (by rw [HR.out] at h; exact (by omega : False).elim), fun _ => rfl, HBr.out.trans (hbt.below HBr.out.size (fun q hq => by omega))⟩
                | false =>
                  have HM2 : Hid (key ∉ f.gone.toL) := fun h => by have := HGf.out.2 h; cases this
                  have HGo5 : Hid (∀ g ∈ K.take (k + 1), g ∈ f.gone.toL → g ∉ d.gone.toL) := by
                    intro g hg hg2
                    rw [take_snoc HKey.out] at hg
                    rcases List.mem_append.1 hg with hg | hg
                    · exact HGo.out g hg hg2
                    · rw [List.mem_singleton] at hg; subst hg; exact (HM2.out hg2).elim
                  cases set_ with
                  | true =>
                    have bo := HA.out.box
                    have o0 := bo.cell 0
                    have o1 := bo.cell 1
                    have o2 := bo.cell 2
                    have ol := bo.lt
                    simp at o0 o1 o2
                    clear bo
                    have bu := HBy.out
                    have u0 := bu.cell 0
                    have u1 := bu.cell 1
                    have ul := bu.lt
                    simp at u0 u1
                    clear bu
                    have HUi := hid (HAy.out.yes rfl)
                    have HH5 : Hid (Gth id K (k + 1) G ps) := HH.out.skip HKey.out (fun c hc e => by
                      rw [HGG.out] at hc
                      have e2 : c = key := e
                      subst e2
                      rcases (jG_key HDo.out.gone HFo.out.gone (nS_rise HFo.out.set) _).1 hc with h | ⟨h, h2⟩
                      · obtain ⟨c2, hc2, e3⟩ := HKyy.out.1 rfl; exact HFo.out.apart _ h c2 hc2 e3
                      · exact h2 (keyIn_norm.2 (HKyy.out.1 rfl))
                      )
                    go_wp2_with (at_builtin; refine wpList_app rfl (.tmp 89) (.tmp 91) 22 62 i0 _ 2 40 HKd.out rfl W3.heap.size (.slice po xs.length co) xs.length _ rfl (World.ownsRow.alloc HA.out.own.own _) ⟨X4.heap.size, 0, none⟩ 1 1 [.string y.text, .slice y.p y.n y.c] rfl rfl (newsC X4 _ _) (oneC _ _ _ _) (by omega) (by omega) (by have := HA.out.but.size; simp; omega) ?_)
                    intro v5 w5 ho5 hg5 hn5
                    obtain ⟨p5, c5, rfl⟩ := ownsRow_slice ho5
                    have HA5 : Hid (JoI W3 (w5.setCell ⟨O, 1, none⟩ (.slice p5 (xs.length + 1) c5)) O f.num (.slice p5 (xs.length + 1) c5) (.slice pp LP cp) (xs ++ [y]) ps) := HA.out.stepO (HUi.out.2.2.mono fun b hb hl => ⟨by have := HA0.out; have := hb.1; have := HW1.out.size; omega, fun e => by have := HA00.out b e; have := hb.1; have := HW1.out.size; omega, fun e => by have := HA01.out b e; have := hb.1; have := HW1.out.size; omega⟩) ho5 hg5 hn5
                    have bm := HA.out.midO hg5
                    have m0 := bm.cell 0
                    have m1 := bm.cell 1
                    have m2 := bm.cell 2
                    have mf1 := bm.frozen 1
                    have ml := bm.lt
                    simp at m0 m1 m2
                    have HG5 : Hid (Gth VT.text K (k + 1) R ((xs ++ [y]).map VT.norm)) := by
                      show Gth _ _ _ _ _
                      rw [List.map_append, List.map_singleton]
                      exact HG.out.add HJK.out.rK (by rw [HRR.out]; exact HJK.out.rR) HKey.out (by rw [HRR.out]; exact (jS_mem (nS_rise HDo.out.set) (nS_rise HFo.out.set) HFo.out.gone _).2 (.inl HUi.out.2.1)) (by rw [norm_text]; exact HUi.out.1)
                    clear ho5 hg5 hn5 bm
                    go_wp2
                    go_roundw
                    case rel => exact ⟨k + 1, _, _, _, _, by omega, by go_num, HA5.out, by rw [List.length_append, List.length_singleton]; omega, by rw [← HLP.out]; omega, HG5.out, HH5.out, HGo5.out⟩
                    case measure => simp [intOf]; omega
                  | false =>
                    have bo := HA.out.box
                    have o0 := bo.cell 0
                    have o1 := bo.cell 1
                    have o2 := bo.cell 2
                    have ol := bo.lt
                    simp at o0 o1 o2
                    clear bo
                    have HG5 : Hid (Gth VT.text K (k + 1) R (xs.map VT.norm)) := HG.out.skip HKey.out (fun c hc e => by
                      rw [HRR.out] at hc
                      rcases (keyIn_jS (nS_rise HDo.out.set) (nS_rise HFo.out.set) HFo.out.gone key).1 ⟨c, hc, e⟩ with h | ⟨h, h2⟩
                      · exact HAy.out.no rfl (keyIn_norm.1 h)
                      · obtain ⟨c2, hc2, e3⟩ := keyIn_norm.1 h; exact HDo.out.apart _ HM1.out c2 hc2 e3
                      )
                    have HH5 : Hid (Gth id K (k + 1) G (ps ++ [key])) := HH.out.add HJK.out.rK (by rw [HGG.out]; exact HJK.out.rG) HKey.out (by rw [HGG.out]; exact (jG_key HDo.out.gone HFo.out.gone (nS_rise HFo.out.set) _).2 (.inr ⟨HM1.out, fun h => HAy.out.no rfl (keyIn_norm.1 h)⟩)) rfl
                    have HOl : Hid (World.ownsRow X4 W3.heap.size 9 1 (.slice pp LP cp) LP (ps.map Value.string)) := by have h := HA.out.row; unfold StRow at h; rw [← HLP.out] at h; exact h
                    have hs4 : W3.heap.size ≤ X4.heap.size := HA.out.but.size
                    go_upto_region 21 with fail
                    refine wp_region_calmE 30 (fun wx => Below X4.heap.size X4 wx) [(0, true), (1, false), (2, true), (3, true), (4, true), (5, false)] (.one 6 true [] (.one 7 false [(8, true)] (.one 9 false [] .done))) (by kernel_rfl) (by kernel_rfl) (Below.refl _ _).drew ?_
                    refine wpPre_e rfl rfl (fun K1 hK1 => ?_)
                    apply Exists.intro
                    refine And.intro (fun wx hx => ?_) ?_
                    · go_simp
                      try rfl
                    go_simp
                    refine hK1 _ ?_
                    clear hK1 K1
                    refine wpPre_e rfl rfl (fun K1 hK1 => ?_)
                    apply Exists.intro
                    refine And.intro (fun wx hx => ?_) ?_
                    · have e0 := below_fact hx rfl o0
                      have e1 := below_fact hx rfl o1
                      have e2 := below_fact hx rfl o2
                      have e3 := below_fact hx rfl k4
                      go_simp
                      try rfl
                    go_simp
                    refine hK1 _ ?_
                    clear hK1 K1
                    refine wpPre_e rfl rfl (fun K1 hK1 => ?_)
                    apply Exists.intro
                    refine And.intro (fun wx hx => ?_) ?_
                    · go_simp
                      try rfl
                    go_simp
                    refine hK1 _ ?_
                    clear hK1 K1
                    refine wpPre_e rfl rfl (fun K1 hK1 => ?_)
                    apply Exists.intro
                    refine And.intro (fun wx hx => ?_) ?_
                    · go_simp
                      try rfl
                    go_simp
                    refine hK1 _ ?_
                    clear hK1 K1
                    refine wpPre_e rfl rfl (fun K1 hK1 => ?_)
                    apply Exists.intro
                    refine And.intro (fun wx hx => ?_) ?_
                    · go_simp
                      try rfl
                    go_simp
                    refine hK1 _ ?_
                    clear hK1 K1
                    refine wpPre_e rfl rfl (fun K1 hK1 => ?_)
                    apply Exists.intro
                    refine And.intro (fun wx hx => ?_) ?_
                    · have e0 := below_fact hx rfl o0
                      have e1 := below_fact hx rfl o1
                      have e2 := below_fact hx rfl o2
                      have e3 := below_fact hx rfl k4
                      go_simp
                      try rfl
                    go_simp
                    refine hK1 _ ?_
                    clear hK1 K1
                    refine wpPre_nil ?_
                    refine wpTr_e rfl (fun K1 hK1 => ?_)
                    go_simp
                    refine hK1 _ _ (fun _ => ((below1 X4 _).drew)) ?_
                    clear hK1 K1
                    refine wpPre_nil ?_
                    refine wpTr_e rfl (fun K1 hK1 => ?_)
                    refine step_app rfl (.tmp 100) (.tmp 105) 28 9 i1 _ 1 16 HKs.out rfl W3.heap.size (.slice pp LP cp) LP _ rfl (World.ownsRow.alloc HOl.out _) ⟨X4.heap.size, 0, none⟩ 1 1 [.string key] rfl rfl (newsS1 X4 _) (by simp [Value.oneCell']) (by omega) (by omega) (by simp; omega) ?_
                    intro v5 w5 ho5 hg5 hn5
                    obtain ⟨p5, c5, rfl⟩ := ownsRow_slice ho5
                    have hg6 : (X4.alloc (.cells #[.string key] 9)).grownBy w5 (Value.slice pp LP cp).ownBlock := ⟨hg5.os, hg5.tape, hg5.output, hg5.size, hg5.block⟩
                    have hn6 : Near (X4.alloc (.cells #[.string key] 9)) (.slice pp LP cp) (.slice p5 (LP + 1) c5) := hn5.imp id (fun h g hg => h g hg)
                    have HA5 : Hid (JoI W3 (w5.setCell ⟨O, 2, none⟩ (.slice p5 (LP + 1) c5)) O f.num (.slice po xs.length co) (.slice p5 (LP + 1) c5) xs (ps ++ [key])) := HA.out.stepP (StRow.push (by rw [← HLP.out]; exact ho5)) hg6 hn6
                    have bm := HA.out.midP hg6
                    have m0 := bm.cell 0
                    have m1 := bm.cell 1
                    have m2 := bm.cell 2
                    have mf2 := bm.frozen 2
                    have ml := bm.lt
                    simp at m0 m1 m2
                    clear ho5 hg5 hn5 hg6 hn6 bm
                    go_simp
                    refine hK1 _ _ (fun h => by cases h) ?_
                    clear hK1 K1
                    refine wpPre_e rfl rfl (fun K1 hK1 => ?_)
                    apply Exists.intro
                    refine And.intro (fun wx hx => ?_) ?_
                    · go_simp
                      try rfl
                    go_simp
                    refine hK1 _ ?_
                    clear hK1 K1
                    refine wpPre_nil ?_
                    refine wpTr_e rfl (fun K1 hK1 => ?_)
                    go_simp
                    refine hK1 _ _ (fun h => by cases h) ?_
                    clear hK1 K1
                    refine wpPre_nil ?_
                    refine wpTr_done ?_
                    go_wp2
                    go_roundw
                    case rel => exact ⟨k + 1, _, _, _, _, by omega, by go_num, HA5.out, by omega, by rw [List.length_append, List.length_singleton, ← HLP.out]; omega, HG5.out, HH5.out, HGo5.out⟩
                    case measure => simp [intOf]; omega
              | false =>
                have HM1 : Hid (key ∉ d.gone.toL) := fun h => by have := HGd.out.2 h; cases this
                cases two with
                | true =>
                  have HM2 : Hid (key ∈ f.gone.toL) := HGf.out.1 rfl
                  have HGo5 : Hid (∀ g ∈ K.take (k + 1), g ∈ f.gone.toL → g ∉ d.gone.toL) := by
                    intro g hg hg2
                    rw [take_snoc HKey.out] at hg
                    rcases List.mem_append.1 hg with hg | hg
                    · exact HGo.out g hg hg2
                    · rw [List.mem_singleton] at hg; subst hg; exact HM1.out
                  cases set_ with
                  | true =>
                    have bo := HA.out.box
                    have o0 := bo.cell 0
                    have o1 := bo.cell 1
                    have o2 := bo.cell 2
                    have ol := bo.lt
                    simp at o0 o1 o2
                    clear bo
                    have bu := HBy.out
                    have u0 := bu.cell 0
                    have u1 := bu.cell 1
                    have ul := bu.lt
                    simp at u0 u1
                    clear bu
                    have HUi := hid (HAy.out.yes rfl)
                    have HH5 : Hid (Gth id K (k + 1) G ps) := HH.out.skip HKey.out (fun c hc e => by
                      rw [HGG.out] at hc
                      have e2 : c = key := e
                      subst e2
                      rcases (jG_key HDo.out.gone HFo.out.gone (nS_rise HFo.out.set) _).1 hc with h | ⟨h, h2⟩
                      · obtain ⟨c2, hc2, e3⟩ := HKyy.out.1 rfl; exact HFo.out.apart _ h c2 hc2 e3
                      · exact h2 (keyIn_norm.2 (HKyy.out.1 rfl))
                      )
                    go_wp2_with (at_builtin; refine wpList_app rfl (.tmp 89) (.tmp 91) 22 62 i0 _ 2 40 HKd.out rfl W3.heap.size (.slice po xs.length co) xs.length _ rfl (World.ownsRow.alloc HA.out.own.own _) ⟨X4.heap.size, 0, none⟩ 1 1 [.string y.text, .slice y.p y.n y.c] rfl rfl (newsC X4 _ _) (oneC _ _ _ _) (by omega) (by omega) (by have := HA.out.but.size; simp; omega) ?_)
                    intro v5 w5 ho5 hg5 hn5
                    obtain ⟨p5, c5, rfl⟩ := ownsRow_slice ho5
                    have HA5 : Hid (JoI W3 (w5.setCell ⟨O, 1, none⟩ (.slice p5 (xs.length + 1) c5)) O f.num (.slice p5 (xs.length + 1) c5) (.slice pp LP cp) (xs ++ [y]) ps) := HA.out.stepO (HUi.out.2.2.mono fun b hb hl => ⟨by have := HA0.out; have := hb.1; have := HW1.out.size; omega, fun e => by have := HA00.out b e; have := hb.1; have := HW1.out.size; omega, fun e => by have := HA01.out b e; have := hb.1; have := HW1.out.size; omega⟩) ho5 hg5 hn5
                    have bm := HA.out.midO hg5
                    have m0 := bm.cell 0
                    have m1 := bm.cell 1
                    have m2 := bm.cell 2
                    have mf1 := bm.frozen 1
                    have ml := bm.lt
                    simp at m0 m1 m2
                    have HG5 : Hid (Gth VT.text K (k + 1) R ((xs ++ [y]).map VT.norm)) := by
                      show Gth _ _ _ _ _
                      rw [List.map_append, List.map_singleton]
                      exact HG.out.add HJK.out.rK (by rw [HRR.out]; exact HJK.out.rR) HKey.out (by rw [HRR.out]; exact (jS_mem (nS_rise HDo.out.set) (nS_rise HFo.out.set) HFo.out.gone _).2 (.inl HUi.out.2.1)) (by rw [norm_text]; exact HUi.out.1)
                    clear ho5 hg5 hn5 bm
                    go_wp2
                    go_roundw
                    case rel => exact ⟨k + 1, _, _, _, _, by omega, by go_num, HA5.out, by rw [List.length_append, List.length_singleton]; omega, by rw [← HLP.out]; omega, HG5.out, HH5.out, HGo5.out⟩
                    case measure => simp [intOf]; omega
                  | false =>
                    have bo := HA.out.box
                    have o0 := bo.cell 0
                    have o1 := bo.cell 1
                    have o2 := bo.cell 2
                    have ol := bo.lt
                    simp at o0 o1 o2
                    clear bo
                    have HG5 : Hid (Gth VT.text K (k + 1) R (xs.map VT.norm)) := HG.out.skip HKey.out (fun c hc e => by
                      rw [HRR.out] at hc
                      rcases (keyIn_jS (nS_rise HDo.out.set) (nS_rise HFo.out.set) HFo.out.gone key).1 ⟨c, hc, e⟩ with h | ⟨h, h2⟩
                      · exact HAy.out.no rfl (keyIn_norm.1 h)
                      · exact h2 HM2.out
                      )
                    have HH5 : Hid (Gth id K (k + 1) G (ps ++ [key])) := HH.out.add HJK.out.rK (by rw [HGG.out]; exact HJK.out.rG) HKey.out (by rw [HGG.out]; exact (jG_key HDo.out.gone HFo.out.gone (nS_rise HFo.out.set) _).2 (.inl HM2.out)) rfl
                    have HOl : Hid (World.ownsRow X4 W3.heap.size 9 1 (.slice pp LP cp) LP (ps.map Value.string)) := by have h := HA.out.row; unfold StRow at h; rw [← HLP.out] at h; exact h
                    have hs4 : W3.heap.size ≤ X4.heap.size := HA.out.but.size
                    go_upto_region 21 with fail
                    refine wp_region_calmE 30 (fun wx => Below X4.heap.size X4 wx) [(0, true), (1, false), (2, true), (3, true), (4, true), (5, false)] (.one 6 true [] (.one 7 false [(8, true)] (.one 9 false [] .done))) (by kernel_rfl) (by kernel_rfl) (Below.refl _ _).drew ?_
                    refine wpPre_e rfl rfl (fun K1 hK1 => ?_)
                    apply Exists.intro
                    refine And.intro (fun wx hx => ?_) ?_
                    · go_simp
                      try rfl
                    go_simp
                    refine hK1 _ ?_
                    clear hK1 K1
                    refine wpPre_e rfl rfl (fun K1 hK1 => ?_)
                    apply Exists.intro
                    refine And.intro (fun wx hx => ?_) ?_
                    · have e0 := below_fact hx rfl o0
                      have e1 := below_fact hx rfl o1
                      have e2 := below_fact hx rfl o2
                      have e3 := below_fact hx rfl k4
                      go_simp
                      try rfl
                    go_simp
                    refine hK1 _ ?_
                    clear hK1 K1
                    refine wpPre_e rfl rfl (fun K1 hK1 => ?_)
                    apply Exists.intro
                    refine And.intro (fun wx hx => ?_) ?_
                    · go_simp
                      try rfl
                    go_simp
                    refine hK1 _ ?_
                    clear hK1 K1
                    refine wpPre_e rfl rfl (fun K1 hK1 => ?_)
                    apply Exists.intro
                    refine And.intro (fun wx hx => ?_) ?_
                    · go_simp
                      try rfl
                    go_simp
                    refine hK1 _ ?_
                    clear hK1 K1
                    refine wpPre_e rfl rfl (fun K1 hK1 => ?_)
                    apply Exists.intro
                    refine And.intro (fun wx hx => ?_) ?_
                    · go_simp
                      try rfl
                    go_simp
                    refine hK1 _ ?_
                    clear hK1 K1
                    refine wpPre_e rfl rfl (fun K1 hK1 => ?_)
                    apply Exists.intro
                    refine And.intro (fun wx hx => ?_) ?_
                    · have e0 := below_fact hx rfl o0
                      have e1 := below_fact hx rfl o1
                      have e2 := below_fact hx rfl o2
                      have e3 := below_fact hx rfl k4
                      go_simp
                      try rfl
                    go_simp
                    refine hK1 _ ?_
                    clear hK1 K1
                    refine wpPre_nil ?_
                    refine wpTr_e rfl (fun K1 hK1 => ?_)
                    go_simp
                    refine hK1 _ _ (fun _ => ((below1 X4 _).drew)) ?_
                    clear hK1 K1
                    refine wpPre_nil ?_
                    refine wpTr_e rfl (fun K1 hK1 => ?_)
                    refine step_app rfl (.tmp 100) (.tmp 105) 28 9 i1 _ 1 16 HKs.out rfl W3.heap.size (.slice pp LP cp) LP _ rfl (World.ownsRow.alloc HOl.out _) ⟨X4.heap.size, 0, none⟩ 1 1 [.string key] rfl rfl (newsS1 X4 _) (by simp [Value.oneCell']) (by omega) (by omega) (by simp; omega) ?_
                    intro v5 w5 ho5 hg5 hn5
                    obtain ⟨p5, c5, rfl⟩ := ownsRow_slice ho5
                    have hg6 : (X4.alloc (.cells #[.string key] 9)).grownBy w5 (Value.slice pp LP cp).ownBlock := ⟨hg5.os, hg5.tape, hg5.output, hg5.size, hg5.block⟩
                    have hn6 : Near (X4.alloc (.cells #[.string key] 9)) (.slice pp LP cp) (.slice p5 (LP + 1) c5) := hn5.imp id (fun h g hg => h g hg)
                    have HA5 : Hid (JoI W3 (w5.setCell ⟨O, 2, none⟩ (.slice p5 (LP + 1) c5)) O f.num (.slice po xs.length co) (.slice p5 (LP + 1) c5) xs (ps ++ [key])) := HA.out.stepP (StRow.push (by rw [← HLP.out]; exact ho5)) hg6 hn6
                    have bm := HA.out.midP hg6
                    have m0 := bm.cell 0
                    have m1 := bm.cell 1
                    have m2 := bm.cell 2
                    have mf2 := bm.frozen 2
                    have ml := bm.lt
                    simp at m0 m1 m2
                    clear ho5 hg5 hn5 hg6 hn6 bm
                    go_simp
                    refine hK1 _ _ (fun h => by cases h) ?_
                    clear hK1 K1
                    refine wpPre_e rfl rfl (fun K1 hK1 => ?_)
                    apply Exists.intro
                    refine And.intro (fun wx hx => ?_) ?_
                    · go_simp
                      try rfl
                    go_simp
                    refine hK1 _ ?_
                    clear hK1 K1
                    refine wpPre_nil ?_
                    refine wpTr_e rfl (fun K1 hK1 => ?_)
                    go_simp
                    refine hK1 _ _ (fun h => by cases h) ?_
                    clear hK1 K1
                    refine wpPre_nil ?_
                    refine wpTr_done ?_
                    go_wp2
                    go_roundw
                    case rel => exact ⟨k + 1, _, _, _, _, by omega, by go_num, HA5.out, by omega, by rw [List.length_append, List.length_singleton, ← HLP.out]; omega, HG5.out, HH5.out, HGo5.out⟩
                    case measure => simp [intOf]; omega
                | false =>
                  have HM2 : Hid (key ∉ f.gone.toL) := fun h => by have := HGf.out.2 h; cases this
                  have HGo5 : Hid (∀ g ∈ K.take (k + 1), g ∈ f.gone.toL → g ∉ d.gone.toL) := by
                    intro g hg hg2
                    rw [take_snoc HKey.out] at hg
                    rcases List.mem_append.1 hg with hg | hg
                    · exact HGo.out g hg hg2
                    · rw [List.mem_singleton] at hg; subst hg; exact HM1.out
                  cases set_ with
                  | true =>
                    have bo := HA.out.box
                    have o0 := bo.cell 0
                    have o1 := bo.cell 1
                    have o2 := bo.cell 2
                    have ol := bo.lt
                    simp at o0 o1 o2
                    clear bo
                    have bu := HBy.out
                    have u0 := bu.cell 0
                    have u1 := bu.cell 1
                    have ul := bu.lt
                    simp at u0 u1
                    clear bu
                    have HUi := hid (HAy.out.yes rfl)
                    have HH5 : Hid (Gth id K (k + 1) G ps) := HH.out.skip HKey.out (fun c hc e => by
                      rw [HGG.out] at hc
                      have e2 : c = key := e
                      subst e2
                      rcases (jG_key HDo.out.gone HFo.out.gone (nS_rise HFo.out.set) _).1 hc with h | ⟨h, h2⟩
                      · obtain ⟨c2, hc2, e3⟩ := HKyy.out.1 rfl; exact HFo.out.apart _ h c2 hc2 e3
                      · exact h2 (keyIn_norm.2 (HKyy.out.1 rfl))
                      )
                    go_wp2_with (at_builtin; refine wpList_app rfl (.tmp 89) (.tmp 91) 22 62 i0 _ 2 40 HKd.out rfl W3.heap.size (.slice po xs.length co) xs.length _ rfl (World.ownsRow.alloc HA.out.own.own _) ⟨X4.heap.size, 0, none⟩ 1 1 [.string y.text, .slice y.p y.n y.c] rfl rfl (newsC X4 _ _) (oneC _ _ _ _) (by omega) (by omega) (by have := HA.out.but.size; simp; omega) ?_)
                    intro v5 w5 ho5 hg5 hn5
                    obtain ⟨p5, c5, rfl⟩ := ownsRow_slice ho5
                    have HA5 : Hid (JoI W3 (w5.setCell ⟨O, 1, none⟩ (.slice p5 (xs.length + 1) c5)) O f.num (.slice p5 (xs.length + 1) c5) (.slice pp LP cp) (xs ++ [y]) ps) := HA.out.stepO (HUi.out.2.2.mono fun b hb hl => ⟨by have := HA0.out; have := hb.1; have := HW1.out.size; omega, fun e => by have := HA00.out b e; have := hb.1; have := HW1.out.size; omega, fun e => by have := HA01.out b e; have := hb.1; have := HW1.out.size; omega⟩) ho5 hg5 hn5
                    have bm := HA.out.midO hg5
                    have m0 := bm.cell 0
                    have m1 := bm.cell 1
                    have m2 := bm.cell 2
                    have mf1 := bm.frozen 1
                    have ml := bm.lt
                    simp at m0 m1 m2
                    have HG5 : Hid (Gth VT.text K (k + 1) R ((xs ++ [y]).map VT.norm)) := by
                      show Gth _ _ _ _ _
                      rw [List.map_append, List.map_singleton]
                      exact HG.out.add HJK.out.rK (by rw [HRR.out]; exact HJK.out.rR) HKey.out (by rw [HRR.out]; exact (jS_mem (nS_rise HDo.out.set) (nS_rise HFo.out.set) HFo.out.gone _).2 (.inl HUi.out.2.1)) (by rw [norm_text]; exact HUi.out.1)
                    clear ho5 hg5 hn5 bm
                    go_wp2
                    go_roundw
                    case rel => exact ⟨k + 1, _, _, _, _, by omega, by go_num, HA5.out, by rw [List.length_append, List.length_singleton]; omega, by rw [← HLP.out]; omega, HG5.out, HH5.out, HGo5.out⟩
                    case measure => simp [intOf]; omega
                  | false =>
                    cases had with
                    | true =>
                      have bo := HA.out.box
                      have o0 := bo.cell 0
                      have o1 := bo.cell 1
                      have o2 := bo.cell 2
                      have ol := bo.lt
                      simp at o0 o1 o2
                      clear bo
                      have bu := HBx.out
                      have u0 := bu.cell 0
                      have u1 := bu.cell 1
                      have ul := bu.lt
                      simp at u0 u1
                      clear bu
                      have HUi := hid (HAx.out.yes rfl)
                      have HH5 : Hid (Gth id K (k + 1) G ps) := HH.out.skip HKey.out (fun c hc e => by
                        rw [HGG.out] at hc
                        have e2 : c = key := e
                        subst e2
                        rcases (jG_key HDo.out.gone HFo.out.gone (nS_rise HFo.out.set) _).1 hc with h | ⟨h, h2⟩
                        · exact HM2.out h
                        · exact HM1.out h
                        )
                      go_wp2_with (at_builtin; refine wpList_app rfl (.tmp 111) (.tmp 113) 22 62 i0 _ 2 40 HKd.out rfl W3.heap.size (.slice po xs.length co) xs.length _ rfl (World.ownsRow.alloc HA.out.own.own _) ⟨X4.heap.size, 0, none⟩ 1 1 [.string x.text, .slice x.p x.n x.c] rfl rfl (newsC X4 _ _) (oneC _ _ _ _) (by omega) (by omega) (by have := HA.out.but.size; simp; omega) ?_)
                      intro v5 w5 ho5 hg5 hn5
                      obtain ⟨p5, c5, rfl⟩ := ownsRow_slice ho5
                      have HA5 : Hid (JoI W3 (w5.setCell ⟨O, 1, none⟩ (.slice p5 (xs.length + 1) c5)) O f.num (.slice p5 (xs.length + 1) c5) (.slice pp LP cp) (xs ++ [x]) ps) := HA.out.stepO (HUi.out.2.2.mono fun b hb hl => ⟨by have := HA0.out; have := hb.1; have := HW1.out.size; omega, fun e => by have := HA00.out b e; have := hb.1; have := HW1.out.size; omega, fun e => by have := HA01.out b e; have := hb.1; have := HW1.out.size; omega⟩) ho5 hg5 hn5
                      have bm := HA.out.midO hg5
                      have m0 := bm.cell 0
                      have m1 := bm.cell 1
                      have m2 := bm.cell 2
                      have mf1 := bm.frozen 1
                      have ml := bm.lt
                      simp at m0 m1 m2
                      have HG5 : Hid (Gth VT.text K (k + 1) R ((xs ++ [x]).map VT.norm)) := by
                        show Gth _ _ _ _ _
                        rw [List.map_append, List.map_singleton]
                        exact HG.out.add HJK.out.rK (by rw [HRR.out]; exact HJK.out.rR) HKey.out (by rw [HRR.out]; exact (jS_mem (nS_rise HDo.out.set) (nS_rise HFo.out.set) HFo.out.gone _).2 (.inr ⟨⟨HUi.out.2.1, fun g hg e => HM2.out (by rw [norm_text, HUi.out.1] at e; rw [← e]; exact hg)⟩, fun b hb e => HAy.out.no rfl (keyIn_norm.1 ⟨b, hb, by rw [e, norm_text]; exact HUi.out.1⟩)⟩)) (by rw [norm_text]; exact HUi.out.1)
                      clear ho5 hg5 hn5 bm
                      go_wp2
                      go_roundw
                      case rel => exact ⟨k + 1, _, _, _, _, by omega, by go_num, HA5.out, by rw [List.length_append, List.length_singleton]; omega, by rw [← HLP.out]; omega, HG5.out, HH5.out, HGo5.out⟩
                      case measure => simp [intOf]; omega
                    | false =>
                      exfalso
                      rcases (HJK.out.mK key).1 (List.mem_of_getElem? HKey.out) with h | h | h | h
                      · exact HAx.out.no rfl h
                      · exact HAy.out.no rfl h
                      · exact HM1.out h
                      · exact HM2.out h
        · obtain rfl : LK = k := by omega
          have HGoA : Hid (∀ g ∈ f.gone.toL, g ∉ d.gone.toL) := fun g hg => HGo.out g (by rw [HLK.out, List.take_length]; exact (HJK.out.mK g).2 (.inr (.inr (.inr hg)))) hg
          have HEq : Hid (xs.map VT.norm = R) := by
            have h := HG.out
            rw [HLK.out] at h
            show _ = _
            rw [HRR.out] at h ⊢
            exact h.done HJK.out.rR HJK.out.inS
          have HEg : Hid (ps = G) := by
            have h := HH.out
            rw [HLK.out] at h
            show _ = _
            rw [HGG.out] at h ⊢
            exact h.done HJK.out.rG HJK.out.inG
          have HLn : Hid (R.length = xs.length) := by show _ = _; rw [← HEq.out, List.length_map]
          have HLg : Hid (G.length = LP) := by show _ = _; rw [← HEg.out]; exact HLP.out.symm
          have HEv := hid ((joinE_val HOkS.out HOkD.out).2 HGoA.out)
          rw [← HRR.out, ← HGG.out, HLn.out, HLg.out] at HEv
          have bo := HA.out.box
          have o0 := bo.cell 0
          have o1 := bo.cell 1
          have o2 := bo.cell 2
          have ol := bo.lt
          simp at o0 o1 o2
          clear bo a0 a1 a2 al b0 b1 b2 bl
          by_cases h64 : 64 < xs.length
          · have h64' : (64 : Int) < (xs.length : Int) := by omega
            have HR : Hid (joinE d f = 111) := by show _ = _; rw [HEv.out, if_pos (.inl h64)]
            have r0 := HRr.out.cell 0
            have rf0 := HRr.out.frozen 0
            have r1 := HRr.out.cell 1
            have rf1 := HRr.out.frozen 1
            have r2 := HRr.out.cell 2
            have rf2 := HRr.out.frozen 2
            have rl := HRr.out.lt
            simp at r0 r1 r2
            go_wp2
            have hbx : Box (((wr.setCell ⟨w.heap.size + 2, 0, none⟩ (.int .i64 0)).setCell ⟨w.heap.size + 2, 1, none⟩ (.slice none 0 0)).setCell ⟨w.heap.size + 2, 2, none⟩ (.slice none 0 0)) (w.heap.size + 2) #[.int .i64 0, .slice none 0 0, .slice none 0 0] 30 := by simpa using ((HRr.out.set 0 (.int .i64 0)).set 1 (.slice none 0 0)).set 2 (.slice none 0 0)
            have hbt : But (fun x => x = w.heap.size + 2) wr (((wr.setCell ⟨w.heap.size + 2, 0, none⟩ (.int .i64 0)).setCell ⟨w.heap.size + 2, 1, none⟩ (.slice none 0 0)).setCell ⟨w.heap.size + 2, 2, none⟩ (.slice none 0 0)) := (((But.one _ _).setAt 0 _).setAt 1 _).setAt 2 _
            have g0 := hbx.cell 0
            have g1 := hbx.cell 1
            have g2 := hbx.cell 2
            simp at g0 g1 g2
            exact bodyPost_ret (v := .tuple #[.agg #[.int .i64 0, .slice none 0 0, .slice none 0 0], .int .i64 (111)]) (by simp [results, Try.results26, go_sem, g0, g1, g2]) rfl ⟨zD, by rw [HR.out]; try rfl, zD_in _ _, fun h => (by rw [HR.out] at h; exact (by omega : False).elim), fun _ => rfl, HBr.out.trans (hbt.below HBr.out.size (fun q hq => by omega))⟩
          · have h64' : ¬ (64 : Int) < (xs.length : Int) := by omega
            by_cases h65 : 64 < LP
            · have h65' : (64 : Int) < (LP : Int) := by omega
              have HR : Hid (joinE d f = 111) := by show _ = _; rw [HEv.out, if_pos (.inr h65)]
              have r0 := HRr.out.cell 0
              have rf0 := HRr.out.frozen 0
              have r1 := HRr.out.cell 1
              have rf1 := HRr.out.frozen 1
              have r2 := HRr.out.cell 2
              have rf2 := HRr.out.frozen 2
              have rl := HRr.out.lt
              simp at r0 r1 r2
              go_wp2
              have hbx : Box (((wr.setCell ⟨w.heap.size + 2, 0, none⟩ (.int .i64 0)).setCell ⟨w.heap.size + 2, 1, none⟩ (.slice none 0 0)).setCell ⟨w.heap.size + 2, 2, none⟩ (.slice none 0 0)) (w.heap.size + 2) #[.int .i64 0, .slice none 0 0, .slice none 0 0] 30 := by simpa using ((HRr.out.set 0 (.int .i64 0)).set 1 (.slice none 0 0)).set 2 (.slice none 0 0)
              have hbt : But (fun x => x = w.heap.size + 2) wr (((wr.setCell ⟨w.heap.size + 2, 0, none⟩ (.int .i64 0)).setCell ⟨w.heap.size + 2, 1, none⟩ (.slice none 0 0)).setCell ⟨w.heap.size + 2, 2, none⟩ (.slice none 0 0)) := (((But.one _ _).setAt 0 _).setAt 1 _).setAt 2 _
              have g0 := hbx.cell 0
              have g1 := hbx.cell 1
              have g2 := hbx.cell 2
              simp at g0 g1 g2
              exact bodyPost_ret (v := .tuple #[.agg #[.int .i64 0, .slice none 0 0, .slice none 0 0], .int .i64 (111)]) (by simp [results, Try.results26, go_sem, g0, g1, g2]) rfl ⟨zD, by rw [HR.out]; try rfl, zD_in _ _, fun h => (by rw [HR.out] at h; exact (by omega : False).elim), fun _ => rfl, HBr.out.trans (hbt.below HBr.out.size (fun q hq => by omega))⟩
            · have h65' : ¬ (64 : Int) < (LP : Int) := by omega
              have HR : Hid (joinE d f = 0) := by show _ = _; rw [HEv.out, if_neg (by omega)]
              have r0 := HRr.out.cell 0
              have rf0 := HRr.out.frozen 0
              have r1 := HRr.out.cell 1
              have rf1 := HRr.out.frozen 1
              have r2 := HRr.out.cell 2
              have rf2 := HRr.out.frozen 2
              have rl := HRr.out.lt
              simp at r0 r1 r2
              obtain ⟨pv, cv, ev, hvin⟩ := HA.out.own.in_ (by omega)
              cases ev
              have HVin := hid hvin
              have HPin := hid (HA.out.row.in_ (by rw [← HLP.out]; omega) (fun q hq => by
                rw [HEg.out, HGG.out] at hq
                rcases (jG_key HDo.out.gone HFo.out.gone (nS_rise HFo.out.set) q).1 hq with h | ⟨h, _⟩
                · have := chkD_gone HOkD.out q h; omega
                · have := chkD_gone HOkS.out q h; omega))
              clear hvin
              go_wp2
              have hbx : Box (((wr.setCell ⟨w.heap.size + 2, 0, none⟩ (.int .i64 f.num)).setCell ⟨w.heap.size + 2, 1, none⟩ (.slice po xs.length co)).setCell ⟨w.heap.size + 2, 2, none⟩ (.slice pp LP cp)) (w.heap.size + 2) #[.int .i64 f.num, .slice po xs.length co, .slice pp LP cp] 30 := by simpa using ((HRr.out.set 0 (.int .i64 f.num)).set 1 (.slice po xs.length co)).set 2 (.slice pp LP cp)
              have hbt : But (fun x => x = w.heap.size + 2) wr (((wr.setCell ⟨w.heap.size + 2, 0, none⟩ (.int .i64 f.num)).setCell ⟨w.heap.size + 2, 1, none⟩ (.slice po xs.length co)).setCell ⟨w.heap.size + 2, 2, none⟩ (.slice pp LP cp)) := (((But.one _ _).setAt 0 _).setAt 1 _).setAt 2 _
              have g0 := hbx.cell 0
              have g1 := hbx.cell 1
              have g2 := hbx.cell 2
              simp at g0 g1 g2
              have hO := HO.out
              refine bodyPost_ret (v := .tuple #[.agg #[.int .i64 f.num, .slice po xs.length co, .slice pp LP cp], .int .i64 0]) (by simp [results, Try.results26, go_sem, g0, g1, g2]) rfl ⟨⟨f.num, ⟨po, xs.length, co, fun j => xs.getD j zC⟩, ⟨pp, LP, cp, fun j => ps.getD j ⟨#[]⟩⟩⟩, by rw [HR.out]; rfl, ⟨?_, ?_, HfI.out.n0, HfI.out.n1⟩, fun _ => ⟨rfl, ?_, ?_⟩, fun h => (h HR.out).elim, HBr.out.trans (hbt.below HBr.out.size (fun q hq => by omega))⟩
              · exact (HVin.out.but hbt (fun b hb _ e => by omega)).mono fun b hb _ => by omega
              · have h := (HPin.out.1.but hbt (fun b hb _ e => by omega)).mono (S' := fun k => w.heap.size ≤ k) fun b hb _ => by omega
                rw [← HLP.out] at h; exact h
              · show LT.nl _ = _
                rw [getD_nl, HEq.out, HRR.out]
              · show LT.toL _ = _
                rw [HLP.out, strs_toL, HEg.out, HGG.out]
end Go.Proofs.Ytpknlbibijheaaa
