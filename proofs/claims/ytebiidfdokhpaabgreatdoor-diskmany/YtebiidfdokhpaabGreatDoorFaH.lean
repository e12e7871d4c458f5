import Derived.Test.YtebiidfdokhpaabGreatDoorFaG
namespace Go.Proofs.YtebiidfdokhpaabGreatDoor
open Go.RowKit
set_option maxRecDepth 8000
/-- another list is laid in -/
theorem RkI.list {w w1 : World} {C : Nat → Prop} {rb : Nat} {R : RK} {p : Option Addr} {c : Nat} {fs' : List RF} (h : RkI w C rb R) (hb : Below w.heap.size w w1)
    (hrow : w1.ownsRow w.heap.size 77 3 (.slice p fs'.length c) fs'.length (fs'.flatMap RF.cells)) (hm : ∀ f ∈ fs', RfI w C f ∧ ∀ k, f.blk k → k ≠ rb)
    (hap : fs'.Pairwise (fun f g => ∀ k, f.blk k → ¬ g.blk k)) (hnd : (fs'.map RF.name).Nodup) (hn : fs'.length ≤ 400) :
    RC { R.ak with ks := fs'.map RF.key } C rb w (w1.setCell ⟨rb, 0, none⟩ (.slice p fs'.length c)) := by
  have hbt : But (fun k => k = rb) w1 (w1.setCell ⟨rb, 0, none⟩ (.slice p fs'.length c)) := (But.one _ _).setAt 0 _
  have hrl := h.bx.lt
  have hlo : ∀ k, (Value.slice p fs'.length c).ownBlock = some k → w.heap.size ≤ k := fun k hk => (hrow.lt k hk).1
  refine ⟨⟨{ R with p := p, c := c, fs := fs' }, rfl, ?_, ?_, .inl h.cb, fun k hk => ⟨.inr (hlo k hk), by have := hlo k hk; omega⟩, fun f hf => ?_, fun f hf k hk => ⟨(hm f hf).2 k hk, fun e => ?_⟩, hap, hnd, hn, h.bl, h.ba, h.bf⟩, ?_⟩
  · have := (h.bx.below hb).set 0 (.slice p fs'.length c)
    simpa using this
  · have h1 : (w1.setCell ⟨rb, 0, none⟩ (.slice p fs'.length c)).ownsRow w.heap.size 77 3 (.slice p fs'.length c) fs'.length (fs'.flatMap RF.cells) := ownsRow_keep hrow fun g hg hl => hbt.block g hl fun e => by have e' : g = rb := e; have := hlo g hg; omega
    obtain ⟨h2, h3⟩ := h1
    exact ⟨h2, h3.imp_right fun ⟨g, cap, cur, e1, e2, e3⟩ => ⟨g, cap, cur, e1, Nat.zero_le _, e3⟩⟩
  · exact (hm f hf).1.kept (fun k hk => (hbt.block k (Nat.lt_of_lt_of_le ((hm f hf).1.blk hk).2 hb.size) ((hm f hf).2 k hk)).trans (hb.block k ((hm f hf).1.blk hk).2)) (fun k hk => .inl ((hm f hf).1.blk hk).1)
  · have h1 := hlo k e
    have h2 := ((hm f hf).1.blk hk).2
    omega
  · exact (But.ofBelow hb).trans (hbt.mono fun k _ e => by have e' : k = rb := e; subst e'; exact h.cb)
def remK (s : ByteArray) (ks : List Key) : List Key := ks.filter fun k => !decide (k.1 = s)
theorem erase_key {R : RK} (hnd : (R.fs.map RF.name).Nodup) {s : ByteArray} {i : Nat} {f : RF} (hi : R.is s i f) : (R.fs.eraseIdx i).map RF.key = remK s (R.fs.map RF.key) := by
  obtain ⟨hi, rfl⟩ := hi
  have : ∀ (l : List RF) (i : Nat), (l.map RF.name).Nodup → l[i]? = some f → (l.eraseIdx i).map RF.key = remK f.name (l.map RF.key) := by
    intro l
    induction l with
    | nil => intro i _ h; simp at h
    | cons x l ih =>
      intro i hnd hi
      rw [List.map_cons, List.nodup_cons] at hnd
      cases i with
      | zero =>
        simp at hi
        subst hi
        have h2 : (l.map RF.key).filter (fun k => !decide (k.1 = x.name)) = l.map RF.key := by
          rw [List.filter_eq_self]
          intro k hk
          obtain ⟨g, hg, rfl⟩ := List.mem_map.1 hk
          have : g.key.1 ≠ x.name := fun e => hnd.1 (List.mem_map.2 ⟨g, hg, e⟩)
          simpa using this
        have h3 : x.key.1 = x.name := rfl
        simp [remK, h3]
        simpa using h2.symm
      | succ i =>
        have h1 : l[i]? = some f := by simpa using hi
        have hne : x.key.1 ≠ f.name := fun e => hnd.1 (List.mem_map.2 ⟨f, List.mem_of_getElem? h1, e.symm⟩)
        have := ih i hnd.2 h1
        simp [remK, hne] at this ⊢
        exact this
  exact this R.fs i hnd hi
def RmQ (R : RK) (s : ByteArray) (C : Nat → Prop) (rb : Nat) (w : World) (e : Ending) (w' : World) : Prop :=
  e = .returned (.int .i64 (thE R s)) ∧ ((thE R s ≠ 0 ∧ RigR (thR R s) C rb w w') ∨ (thE R s = 0 ∧ RC { (thR R s).ak with ks := remK s (R.fs.map RF.key) } C rb w w'))
theorem eraseIdx_step {α : Type} (l : List α) (i k : Nat) (x : α) (hk : l[k]? = some x) (hne : k ≠ i) : (l.take (k + 1)).eraseIdx i = (l.take k).eraseIdx i ++ [x] := by
  have hlt := (List.getElem?_eq_some_iff.1 hk).1
  have e : l.take (k + 1) = l.take k ++ [x] := by rw [List.take_add_one, hk]; rfl
  rw [e]
  by_cases h : i < k
  · rw [List.eraseIdx_append_of_lt_length (by simp; omega)]
  · rw [List.eraseIdx_of_length_le (by simp; omega), List.eraseIdx_of_length_le (by simp; omega)]
theorem eraseIdx_skip {α : Type} (l : List α) (i : Nat) (x : α) (hk : l[i]? = some x) : (l.take (i + 1)).eraseIdx i = (l.take i).eraseIdx i := by
  have hlt := (List.getElem?_eq_some_iff.1 hk).1
  have e : l.take (i + 1) = l.take i ++ [x] := by rw [List.take_add_one, hk]; rfl
  rw [e, List.eraseIdx_append_of_length_le (by simp; omega)]
  rw [List.eraseIdx_of_length_le (show (l.take i).length ≤ i by simp; omega)]
  have : i - (l.take i).length = 0 := by simp; omega
  rw [this]
  simp
theorem kindR : ∃ i, Kind 73 77 i (.agg #[.string ⟨#[]⟩, .slice none 0 0, .slice none 0 0]) 3 64 := kindO
theorem oneR (f : RF) : ∀ u ∈ f.cells, u.oneCell' = true := fun u hu => by
  simp only [RF.cells, List.mem_cons, List.not_mem_nil, or_false] at hu
  rcases hu with rfl | rfl | rfl <;> rfl
set_option maxHeartbeats 8000000 in
theorem rremove_any (R : RK) (s : ByteArray) (w : World) (C : Nat → Prop) (rb : Nat) (hR : RkI w C rb R) (hmx : s.size ≤ 140737488355328) :
    Calls Tryz.prog 40 #[.pointer (some ⟨rb, 0, none⟩), .string s] w fun e w' => RmQ R s C rb w e w' := by
  obtain ⟨i0, Kd⟩ := kindR
  have HKd := hid Kd
  have HT := hid (rthereP_any R s w C rb hR hmx)
  clear hR Kd
  go_enter Tryz.func40, Tryz.ntmps40
  go_wp2_with fail
  refine HT.out.mono ?_
  rintro e w2 ⟨hR2, ⟨h0, rfl⟩ | ⟨h0, i, f, hi, rfl⟩⟩
  · obtain ⟨q, hq⟩ : ∃ q, q = thE R s := ⟨_, rfl⟩
    rw [← hq] at h0 ⊢
    have HQ := hid hq
    have h0' : (q == 0) = false := by simpa using h0
    have H0 := hid h0
    have HR2 := hid hR2
    clear hq h0 hR2 HT
    go_wp2
    exact bodyPost_ret (v := .int .i64 q) (by simp [results, Tryz.results40, go_sem]) rfl ⟨by rw [← HQ.out], .inl ⟨by rw [← HQ.out]; exact H0.out, HR2.out⟩⟩
  · have HR2 := hid hR2
    have H0 := hid h0
    obtain ⟨R2, hRe⟩ : ∃ R2, R2 = thR R s := ⟨_, rfl⟩
    have HFs : Hid (R2.fs = R.fs) := by show R2.fs = R.fs; rw [hRe]; exact (thR_fs R s).1
    have HIk : Hid (RkI w2 C rb R2) := by show RkI _ _ _ _; rw [hRe]; exact hR2.1
    have HI2 : Hid (R2.is s i f) := ⟨by rw [HFs.out]; exact hi.1, hi.2⟩
    have HRe := hid hRe
    clear hRe hi h0 hR2 HT
    have hil : i < R2.fs.length := (List.getElem?_eq_some_iff.1 HI2.out.1).1
    have hnl : R2.fs.length ≤ 400 := HIk.out.n
    have hil' : (i : Int) < (R2.fs.length : Int) := by omega
    go_wp2_with fail
    go_loopw [7, 8] (fun v x wr => ∃ (k : Nat) (p : Option Addr) (c : Nat), k ≤ R2.fs.length ∧ x = .int .i64 (k : Int) ∧ v = .slice p ((R2.fs.take k).eraseIdx i).length c ∧ wr.ownsRow w2.heap.size 77 3 v ((R2.fs.take k).eraseIdx i).length (((R2.fs.take k).eraseIdx i).flatMap RF.cells) ∧ Below w2.heap.size w2 wr) (fun _ x _ => R2.fs.length - (intOf x).toNat)
    case atStart => exact ⟨0, none, 0, Nat.zero_le _, rfl, by simp, by simpa using World.ownsRow_nil _ _ _ _, Below.refl _ _⟩
    case round =>
      obtain ⟨k, p, c, hk, rfl, rfl, hO, hbw⟩ := hrel
      have HO := hid hO
      have HBw := hid hbw
      clear hO hbw
      have HRr := hid (HIk.out.below HBw.out)
      have r0 := HRr.out.bx.cell 0
      have rl := HRr.out.bx.lt
      simp at r0
      have HLn : Hid (((R2.fs.take k).eraseIdx i).length ≤ k) := Nat.le_trans (List.length_eraseIdx_le _ _) (by simp; omega)
      by_cases hlt : k < R2.fs.length
      · have hlt' : (k : Int) < (R2.fs.length : Int) := by omega
        obtain ⟨x, hx⟩ : ∃ x, R2.fs[k]? = some x := ⟨_, List.getElem?_eq_getElem hlt⟩
        obtain ⟨bb, hp, _, hbb, _, _, _, hat⟩ := HRr.out.at_ hx
        rw [hp] at r0
        have a0 : wr.cell? ⟨bb, k * 3, none⟩ = some (.string x.name) := hat 0 (by omega)
        have a1 : wr.cell? ⟨bb, k * 3 + 1, none⟩ = some (.slice x.sp x.su.length x.sc) := hat 1 (by omega)
        have a2 : wr.cell? ⟨bb, k * 3 + 2, none⟩ = some (.slice x.lp x.lo.length x.lc) := hat 2 (by omega)
        have HXk := hid hx
        clear hat hp hx
        by_cases hki : k = i
        · have hki' : ((k : Int) == (i : Int)) = true := by simp [hki]
          have HE : Hid ((R2.fs.take (k + 1)).eraseIdx i = (R2.fs.take k).eraseIdx i) := by
            show (R2.fs.take (k + 1)).eraseIdx i = _
            rw [← hki]
            exact eraseIdx_skip _ _ _ HXk.out
          have HKi := hid hki
          clear hki
          go_wp2
          go_roundw
          case rel => exact ⟨k + 1, p, c, by omega, by go_num, by rw [HE.out], by rw [HE.out]; exact HO.out, HBw.out⟩
          case measure => simp [intOf]; omega
        · have hki' : ((k : Int) == (i : Int)) = false := by simp; omega
          have HE : Hid ((R2.fs.take (k + 1)).eraseIdx i = (R2.fs.take k).eraseIdx i ++ [x]) := eraseIdx_step _ _ _ _ HXk.out hki
          clear hki
          have hnw : ∀ j u', (x.cells)[j]? = some u' → (wr.alloc (.cells #[.string x.name, .slice x.sp x.su.length x.sc, .slice x.lp x.lo.length x.lc] 77)).cell? ((⟨wr.heap.size, 0, none⟩ : Addr).add j) = some u' := fun j u' hu => by
            rw [Go.WideShapes.add_plain, (Box.new wr #[.string x.name, .slice x.sp x.su.length x.sc, .slice x.lp x.lo.length x.lc] 77).cell]
            rw [show 0 + j = j by omega]
            simpa [RF.cells] using hu
          have hszq := HBw.out.size
          have hown2 := HO.out.alloc (.cells #[.string x.name, .slice x.sp x.su.length x.sc, .slice x.lp x.lo.length x.lc] 77)
          go_wp2_with (at_builtin; refine wpList_app rfl (.tmp 30) (.tmp 38) 73 77 i0 _ 3 64 HKd.out rfl w2.heap.size (.slice p ((R2.fs.take k).eraseIdx i).length c) ((R2.fs.take k).eraseIdx i).length _ rfl hown2 ⟨wr.heap.size, 0, none⟩ 1 1 x.cells rfl rfl hnw (oneR x) (by have := HLn.out; omega) (by have := HLn.out; omega) (by simp; omega) ?_)
          intro vn wn hon hgn hnn2
          have HOn : Hid (wn.ownsRow w2.heap.size 77 3 vn ((R2.fs.take k).eraseIdx i ++ [x]).length (((R2.fs.take k).eraseIdx i ++ [x]).flatMap RF.cells)) := by
            show World.ownsRow _ _ _ _ _ _ _
            simpa using hon
          have HBn : Hid (Below w2.heap.size w2 wn) := (HBw.out.trans (((Below.refl _ _).alloc (Nat.le_refl _) _).mono HBw.out.size)).grown hgn (by simp; omega) (fun g hg => (hown2.lt g (by first | exact hg | (simpa using hg))).1)
          obtain ⟨pn, cn, hvn⟩ := ownsRow_slice HOn.out
          subst hvn
          clear hon hgn hnn2 hnw hown2 hszq r0 rl a0 a1 a2
          go_wp2
          go_roundw
          case rel => exact ⟨k + 1, pn, cn, by omega, by go_num, by rw [HE.out], by rw [HE.out]; exact HOn.out, HBn.out⟩
          case measure => simp [intOf]; omega
      · have hlt' : ¬ (k : Int) < (R2.fs.length : Int) := by omega
        obtain rfl : k = R2.fs.length := by omega
        rw [List.take_length] at HO ⊢
        have rg0 := HRr.out.bx.frozen 0
        have hsub : (R2.fs.eraseIdx i).Sublist R2.fs := List.eraseIdx_sublist _ _
        have HE : Hid (RC { R2.ak with ks := (R2.fs.eraseIdx i).map RF.key } C rb w2 (wr.setCell ⟨rb, 0, none⟩ (.slice p (R2.fs.eraseIdx i).length c))) := HIk.out.list HBw.out HO.out (fun f hf => ⟨HIk.out.each f (hsub.subset hf), fun k hk => (HIk.out.low f (hsub.subset hf) k hk).1⟩) (HIk.out.apart.sublist hsub) (HIk.out.nd.sublist (hsub.map _)) (Nat.le_trans hsub.length_le HIk.out.n)
        rw [erase_key HIk.out.nd HI2.out] at HE
        clear hsub
        go_wp2
        refine bodyPost_ret (v := .int .i64 0) (by simp [results, Tryz.results40, go_sem]) rfl ⟨by rw [H0.out], .inr ⟨H0.out, ?_⟩⟩
        rw [← HFs.out, ← HRe.out]
        exact RC.rigs HR2.out HE.out
end Go.Proofs.YtebiidfdokhpaabGreatDoor
