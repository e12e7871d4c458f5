import Derived.Test.YtpldokahoamdpaaPack18
namespace Go.Proofs.Ytpldokahoamdpaa
open Go.RowKit Go.Conc
set_option maxRecDepth 8000
theorem rot_step {q : List IT} {j : Nat} {x : IT} (hx : q[j]? = some x) : ∃ q', q.drop j ++ q.take j = x :: q' ∧ q.drop (j + 1) ++ q.take (j + 1) = q' ++ [x] := by
  have hj : j < q.length := by
    rcases Nat.lt_or_ge j q.length with h | h
    · exact h
    · rw [List.getElem?_eq_none h] at hx; cases hx
  refine ⟨q.drop (j + 1) ++ q.take j, ?_, ?_⟩
  · rw [List.drop_eq_getElem_cons hj]
    rw [List.getElem?_eq_getElem hj] at hx
    injection hx with hx
    rw [hx]; rfl
  · rw [List.take_add_one, hx]; simp
structure LiR (w : World) (Z : Nat → Prop) (b : Nat) (L : Ln) (j : Nat) (v : Value) (L' : Ln) (g : Nat → IT) (wr : World) : Prop where
  set : LSet w Z b L wr L'
  gl : GL elItem w.heap.size (fun k => w.heap.size ≤ k) wr Z b L' v j g
  q : L'.q = L.q.drop j ++ L.q.take j
  each : ∀ i x, i < j → L.q[i]? = some x → CopyI x (g i)
set_option maxRecDepth 60000 in
set_option maxHeartbeats 8000000 in
/-- List -/
theorem list_any (w : World) (Z : Nat → Prop) (b : Nat) (L : Ln) (hI : LnI w Z b L) (hZ : ∀ k, Z k → k < w.heap.size) :
    Calls Try.prog 16 #[.pointer (some ⟨b, 0, none⟩)] w fun e w' => ∃ u : LT IT, e = .returned (.slice u.p u.n u.c) ∧ u.n = L.q.length ∧ (∀ j x, L.q[j]? = some x → CopyI x (u.item j)) ∧ ∃ L', L'.q = L.q ∧ LSet w Z b L w' L' ∧ LT.In elItem w' (fun k => ¬ L'.C b k ∧ w.heap.size ≤ k) u := by
  obtain ⟨i0, Kd⟩ := kindIt
  have HKd := hid Kd
  have HC := hid (count_any w Z b L hI)
  have hlen := hI.len
  obtain ⟨W, hmk, r1, r2⟩ := run_make_own (P := Try.prog) w w.heap.size 22 35 i0 _ 7 Kd.ht Kd.hi Kd.hz Kd.hsize .i64 .i64 L.q.length (by rw [Kd.hby]; omega) (by unfold maxLen; omega) (Nat.le_refl _)
  have hB : Below w.heap.size w W := (Below.refl _ _).grown r2 (Nat.le_refl _) fun k hk => by cases hk
  have HC2 := hid (count_any W Z b L (hI.below hB))
  have hWs : w.heap.size < W.heap.size := (r1.lt w.heap.size rfl).2
  have H0 : Hid (LiR w Z b L 0 (.slice (some ⟨w.heap.size, 0, none⟩) 0 L.q.length) L (fun _ => ⟨0, rz⟩) W) := by
    refine ⟨LSet.below hI hB, ⟨?_, r1, fun j hj => absurd hj (Nat.not_lt_zero j)⟩, by simp, fun i x hi => absurd hi (Nat.not_lt_zero i)⟩
    have h1 : LnI w (fun k => Z k ∨ (Value.slice (some ⟨w.heap.size, 0, none⟩) 0 L.q.length).ownBlock = some k) b L := hI.z fun k hk hz => by
      rcases hz with e | e
      · exact e
      · simp [Value.ownBlock] at e; omega
    exact h1.below hB
  have HI := hid hI
  have HZ := hid hZ
  clear hI hZ r1 r2 hB Kd
  go_enter Try.func16, Try.ntmps16
  go_wp2_with fail
  refine HC.out.mono ?_
  rintro e w0 ⟨rfl, hw0⟩
  subst w0
  go_wp2_with fail
  refine HC2.out.mono ?_
  rintro e w0 ⟨rfl, hw0⟩
  subst w0
  clear hmk HC HC2
  go_wp2_with fail
  go_loopw [3, 11] (fun v x wr => ∃ j L' g, x = .int .i64 ((j : Nat) : Int) ∧ j ≤ L.q.length ∧ LiR w Z b L j v L' g wr) (fun _ x _ => L.q.length - (intOf x).toNat)
  case atStart => exact ⟨0, L, _, rfl, Nat.zero_le _, H0.out⟩
  case round =>
    obtain ⟨j, L', g, rfl, hj, hR⟩ := hrel
    obtain ⟨v, hv⟩ : ∃ v, v = u3 := ⟨_, rfl⟩
    rw [← hv] at hR ⊢
    clear hv H0
    have hs := hR.set
    have hg := hR.gl
    have HS := hid hs
    have HG := hid hg
    have HEa := hid hR.each
    have HQj := hid hR.q
    have HZ2 : Hid (∀ k, (Z k ∨ v.ownBlock = some k) → k < wr.heap.size) := fun k hk => by
      rcases hk with e | e
      · have := HZ.out k e; have := hs.but.size; omega
      · exact (hg.own.lt k e).2
    have hws := hs.but.size
    have hlq : L'.q.length ≤ 30000 := hs.ln.len
    clear hs hg hR
    by_cases hlt : j < L.q.length
    case neg =>
      obtain rfl : j = L.q.length := by omega
      go_wp2
      obtain ⟨p, c, hv, hin⟩ := HG.out.in_ (by omega)
      subst hv
      refine bodyPost_ret (v := .slice p L.q.length c) (by simp [results, Try.results16, go_sem]) rfl ⟨⟨p, L.q.length, c, g⟩, rfl, rfl, fun i x hx => ?_, L', by rw [HQj.out]; simp, HS.out, ?_⟩
      · refine HEa.out i x ?_ hx
        rcases Nat.lt_or_ge i L.q.length with h | h
        · exact h
        · rw [List.getElem?_eq_none h] at hx; cases hx
      · exact LT.In.mono hin fun k hk _ => ⟨hk.1, hk.2.elim id id⟩
    case pos =>
      have hlt' : (j : Int) < (L.q.length : Int) := by omega
      obtain ⟨x, hx⟩ : ∃ x, L.q[j]? = some x := ⟨_, List.getElem?_eq_getElem hlt⟩
      obtain ⟨q', e1, e2⟩ := rot_step hx
      have hq1 : L'.q = x :: q' := by rw [HQj.out, e1]
      have HE := hid (And.intro e2 hx)
      clear e1 e2 hx
      have HTk := hid (take_some wr (fun k => Z k ∨ v.ownBlock = some k) b L' HG.out.ln x q' hq1)
      have hxq : x ∈ L'.q := by rw [hq1]; exact List.mem_cons_self
      have hxi := HG.out.ln.it x hxq
      have HXI := hid hxi
      have HQ1 := hid hq1
      clear hxi hxq hq1
      go_wp2_with fail
      refine HTk.out.mono ?_
      rintro e w1 ⟨rfl, ht⟩
      have HT := hid ht
      have HG1 := hid (HG.out.lane ht)
      have HX1 := hid (ht.keep elItem HXI.out.1)
      obtain ⟨W, hW⟩ : ∃ W, W = w1.alloc (.cells #[.int .i64 x.mark, .string x.r.key, .int .i64 x.r.v.kind, .int .i64 x.r.v.int, .string x.r.v.text, .slice x.r.v.p x.r.v.n x.r.v.c, .slice x.r.p x.r.n x.r.c] 35) := ⟨_, rfl⟩
      have hB : Below w1.heap.size w1 W := by rw [hW]; exact (Below.refl _ _).alloc (Nat.le_refl _) _
      have hX : Box W w1.heap.size #[.int .i64 x.mark, .string x.r.key, .int .i64 x.r.v.kind, .int .i64 x.r.v.int, .string x.r.v.text, .slice x.r.v.p x.r.v.n x.r.v.c, .slice x.r.p x.r.n x.r.c] 35 := by rw [hW]; exact Box.new _ _ _
      have HW := hid hW
      have HB := hid hB
      have HX := hid hX
      have HG2 := hid (HG1.out.below hB)
      have HX2 := hid (IT.In.below HX1.out hB)
      have HS2 := hid (LSet.trans (HS.out.trans (ht.z fun k hk => .inl hk)) (LSet.below (ht.z fun k hk => .inl hk).ln hB))
      have z0 := hX.cell 0
      have z1 := hX.cell 1
      have z2 := hX.cell 2
      have z3 := hX.cell 3
      have z4 := hX.cell 4
      have z5 := hX.cell 5
      have z6 := hX.cell 6
      simp at z0 z1 z2 z3 z4 z5 z6
      have zl := hX.lt
      clear ht hW hB hX HTk
      unfold IT.val
      have HCp := hid (copied_any x W _ HX2.out HXI.out.2.sz)
      go_upto_region 5 with fail
      rw [← HW.out]
      go_wp2_with fail
      refine HCp.out.mono ?_
      rintro e w3 ⟨u, rfl, hcp, hin3, hB3⟩
      have HG3 := hid (HG2.out.below hB3)
      have HS3 := hid (LSet.trans HS2.out (LSet.below HS2.out.ln hB3))
      have HX3 := hid (IT.In.below HX2.out hB3)
      have HBx3 := hid (HX.out.below hB3)
      have hsW : w.heap.size ≤ W.heap.size := HS2.out.but.size
      have HU : Hid (IT.In w3 (fun k => ¬ (Ln.mk L'.room none L'.ch L'.cap q').C b k ∧ w.heap.size ≤ k ∧ v.ownBlock ≠ some k) u) := hin3.mono fun k hk _ => ⟨fun e => by have := HG2.out.ln.c_lt e; omega, by omega, fun e => by have := (HG2.out.own.lt k e).2; omega⟩
      have HCu := hid hcp
      have ha : Below w3.heap.size w3 (w3.alloc (.cells #[.int .i64 u.mark, .string u.r.key, .int .i64 u.r.v.kind, .int .i64 u.r.v.int, .string u.r.v.text, .slice u.r.v.p u.r.v.n u.r.v.c, .slice u.r.p u.r.n u.r.c] 35)) := (Below.refl _ _).alloc (Nat.le_refl _) _
      have HAa := hid ha
      have hsz : w.heap.size ≤ w3.heap.size := HS3.out.but.size
      have HNw : Hid (∀ j u', (elItem.cells u)[j]? = some u' → (w3.alloc (.cells #[.int .i64 u.mark, .string u.r.key, .int .i64 u.r.v.kind, .int .i64 u.r.v.int, .string u.r.v.text, .slice u.r.v.p u.r.v.n u.r.v.c, .slice u.r.p u.r.n u.r.c] 35)).cell? ((⟨w3.heap.size, 0, none⟩ : Addr).add j) = some u') := by
        intro j u' hu
        rw [Go.WideShapes.add_plain, (Box.new w3 #[.int .i64 u.mark, .string u.r.key, .int .i64 u.r.v.kind, .int .i64 u.r.v.int, .string u.r.v.text, .slice u.r.v.p u.r.v.n u.r.v.c, .slice u.r.p u.r.n u.r.c] 35).cell]
        rw [show 0 + j = j by omega]
        simpa [elItem, IT.cells] using hu
      clear hcp hin3 hB3 ha HCp z0 z1 z2 z3 z4 z5 z6
      go_wp2_with (at_builtin; refine wpList_app rfl (.tmp 18) (.tmp 21) 22 35 i0 _ 7 104 HKd.out rfl w.heap.size v j _ rfl (HG3.out.own.alloc _) ⟨w3.heap.size, 0, none⟩ 1 1 (elItem.cells u) rfl rfl HNw.out (elItem.one u) (by omega) (by omega) (by simp; omega) ?_)
      intro v4 w4 ho4 hg4 hn4
      have hB4 := HAa.out
      have HG4 := hid ((HG3.out.below hB4).push (elItem.kept HU.out hB4.size fun k _ hl => hB4.block k hl) ho4 hg4 hn4)
      have hbt4 : But (fun k => v.ownBlock = some k) w3 w4 := (But.ofBelow hB4).trans ((But.refl _ _).grown hg4 fun k hk _ => hk)
      have hown3 := HG3.out.own
      have HS4 := hid (LSet.row HS3.out hbt4 (fun k hk => (hown3.lt k hk).1) (HG4.out.ln.z fun k _ hk => .inl hk))
      have hx4 : IT.In w4 (fun k => ¬ (Ln.mk L'.room none L'.ch L'.cap q').C b k ∧ ¬ (Z k ∨ v4.ownBlock = some k)) x := by
        have h3 : IT.In w3 (fun k => (¬ (Ln.mk L'.room none L'.ch L'.cap q').C b k ∧ ¬ (Z k ∨ v.ownBlock = some k)) ∧ v4.ownBlock ≠ some k) x := HX3.out.mono fun k hk hl => ⟨hk, fun e => by
          rcases hn4 with h1 | h1
          · exact hk.2 (.inr (h1 ▸ e))
          · have := h1 k e
            simp at this
            omega⟩
        refine (h3.kept hbt4.size fun k hk hl => hbt4.block k hl fun e => hk.1.2 (.inr e)).mono fun k hk _ => ⟨hk.1.1, fun e => ?_⟩
        rcases e with e | e
        · exact hk.1.2 (.inl e)
        · exact hk.2 e
      have hBx4 : Box w4 w1.heap.size _ _ := HBx3.out.but hbt4 fun e => by have := (HG.out.own.lt _ e).2; have := HT.out.but.size; omega
      have y0 := hBx4.cell 0
      have y1 := hBx4.cell 1
      have y2 := hBx4.cell 2
      have y3 := hBx4.cell 3
      have y4 := hBx4.cell 4
      have y5 := hBx4.cell 5
      have y6 := hBx4.cell 6
      simp at y0 y1 y2 y3 y4 y5 y6
      have ql := hBx4.lt
      have HLy := hid (lay_any w4 (fun k => Z k ∨ v4.ownBlock = some k) b _ x HG4.out.ln (fun k hk => by
        rcases hk with e | e
        · have := HZ.out k e; have := hbt4.size; omega
        · exact (HG4.out.own.lt k e).2) hx4 HXI.out.2 (by show q'.length < 30000; have h9 := HQ1.out; rw [h9] at hlq; simp at hlq; omega))
      clear ho4 hg4 hn4 hB4 hbt4 hown3 hx4 hBx4 HNw HAa
      go_wp2_with fail
      refine HLy.out.mono ?_
      rintro e w5 ⟨rfl, ch5, cap5, hly⟩
      have HR5 : Hid (LiR w Z b L (j + 1) v4 ⟨L'.room, none, ch5, cap5, q' ++ [x]⟩ (fun i => if i < j then g i else u) w5) := by
        refine ⟨LSet.trans HS4.out (hly.z fun k hk => .inl hk), HG4.out.lane hly, HE.out.1.symm, fun i y hi hy => ?_⟩
        show CopyI y (if i < j then g i else u)
        by_cases hin : i < j
        · rw [if_pos hin]; exact HEa.out i y hin hy
        · rw [if_neg hin]
          obtain rfl : i = j := by omega
          have := HE.out.2
          rw [hy] at this
          injection this with this
          rw [this]
          exact HCu.out
      clear hly HLy
      go_wp2_with fail
      go_roundw
      case rel => exact ⟨j + 1, _, _, by go_num, by omega, HR5.out⟩
      case measure => simp [intOf]; omega
structure RfQ (w : World) (Z : Nat → Prop) (b : Nat) (L : Ln) (r : LT RT) (us : List IT) (L' : Ln) (w' : World) : Prop where
  q : L'.q = us ++ L.q
  set : LSet w Z b L w' L'
  len : us.length = r.n
  each : ∀ j x, us[j]? = some x → x.mark = 0 ∧ RT.Alike (r.item j) x.r
structure RfA (w : World) (Z : Nat → Prop) (b : Nat) (L : Ln) (r : LT RT) (us : List IT) (L' : Ln) (w' : World) : Prop where
  q : L'.q = L.q ++ us
  set : LSet w Z b L w' L'
  len : us.length ≤ r.n
  each : ∀ j x, us[j]? = some x → x.mark = 0 ∧ RT.Alike (r.item j) x.r
set_option maxRecDepth 60000 in
set_option maxHeartbeats 8000000 in
/-- Refill -/
theorem refill_any (w : World) (Z : Nat → Prop) (b : Nat) (L : Ln) (hI : LnI w Z b L) (hZ : ∀ k, Z k → k < w.heap.size) (r : LT RT) (S : Nat → Prop) (hr : LT.In elRec w S r) (hS : ∀ k, k < w.heap.size → S k → ¬ L.C b k) (hsz : ∀ j, j < r.n → (r.item j).n + (r.item j).v.total ≤ 10000) (hlen : L.q.length + r.n ≤ 30000) :
    Calls Try.prog 17 #[.pointer (some ⟨b, 0, none⟩), .slice r.p r.n r.c] w fun e w' => e = .returned (.int .i64 0) ∧ ∃ us L', RfQ w Z b L r us L' w' := by
  have HSh := hid (shut_no w Z b L hI)
  have HC := hid (count_any w Z b L hI)
  have hnn := hr.nn
  have hl3 := hI.len
  have H0 : Hid (RfA w Z b L r [] L w) := ⟨by simp, LSet.refl hI, Nat.zero_le _, fun j x h => by simp at h⟩
  have HL := hid hr
  have HS := hid hS
  have HZ := hid hZ
  have HI := hid hI
  clear hr hS hZ hI
  go_enter Try.func17, Try.ntmps17
  go_wp2_with fail
  refine HSh.out.mono ?_
  rintro e w0 ⟨rfl, hw0⟩
  subst w0
  go_wp2_with fail
  refine HC.out.mono ?_
  rintro e w0 ⟨rfl, hw0⟩
  subst w0
  clear HSh HC
  go_wp2_with fail
  go_loopw [16] (fun v wr => ∃ us L', v = .int .i64 ((us : List IT).length : Int) ∧ RfA w Z b L r us L' wr) (fun v _ => r.n - (intOf v).toNat)
  case atStart => exact ⟨[], L, rfl, H0.out⟩
  case round =>
    obtain ⟨us, L', rfl, hP⟩ := hrel
    obtain ⟨k, hk⟩ : ∃ k, k = us.length := ⟨_, rfl⟩
    rw [← hk]
    have HP := hid hP
    have HK := hid hk
    have hkl : k ≤ r.n := by rw [hk]; exact hP.len
    have hs1 := hP.set.but.size
    clear hP hk H0
    by_cases hlt : k < r.n
    · have hlt' : (k : Int) < (r.n : Int) := by omega
      obtain ⟨bb, o, hp, hSb, hbb, hat⟩ := HL.out.at_ (by omega)
      rw [hp]
      have hcell : ∀ q u, (elRec.cells (r.item k))[q]? = some u → wr.cell? ⟨bb, o + k * 6 + q, none⟩ = some u := fun q u hu => (World.cell?_of_block (a := ⟨bb, o + k * 6 + q, none⟩) (HP.out.set.but.block bb hbb (HS.out bb hbb hSb))).trans (hat k hlt q u hu)
      have c0 : wr.cell? ⟨bb, o + k * 6, none⟩ = some (.string (r.item k).key) := hcell 0 _ rfl
      have c1 := hcell 1 _ rfl
      have c2 := hcell 2 _ rfl
      have c3 := hcell 3 _ rfl
      have c4 := hcell 4 _ rfl
      have c5 := hcell 5 _ rfl
      have hbb2 : bb < wr.heap.size := Nat.lt_of_lt_of_le hbb HP.out.set.but.size
      have hinx : RT.In wr S (r.item k) := ((RT.In.mono (HL.out.each k hlt) (S' := fun j => S j ∧ j < w.heap.size) fun j hj hl => ⟨hj, hl⟩).kept HP.out.set.but.size fun j hj hl => HP.out.set.but.block j hl (HS.out j hl hj.1)).mono fun j hj _ => hj.1
      obtain ⟨x, hx⟩ : ∃ x, x = r.item k := ⟨_, rfl⟩
      have hszx := hsz k hlt
      rw [← hx] at c0 c1 c2 c3 c4 c5 hinx hszx
      obtain ⟨W, hW⟩ : ∃ W, W = wr.alloc (.cells #[.string x.key, .int .i64 x.v.kind, .int .i64 x.v.int, .string x.v.text, .slice x.v.p x.v.n x.v.c, .slice x.p x.n x.c] 33) := ⟨_, rfl⟩
      have hB : Below wr.heap.size wr W := by rw [hW]; exact (Below.refl _ _).alloc (Nat.le_refl _) _
      have hX : Box W wr.heap.size #[.string x.key, .int .i64 x.v.kind, .int .i64 x.v.int, .string x.v.text, .slice x.v.p x.v.n x.v.c, .slice x.p x.n x.c] 33 := by rw [hW]; exact Box.new _ _ _
      have HF := hid (freshR x W _ (hinx.below hB) hszx)
      have HW := hid hW
      have HB := hid hB
      have HXk := hid hx
      have HSt := hid (LSet.trans HP.out.set (LSet.below HP.out.set.ln hB))
      have z0 := hX.cell 0
      have z1 := hX.cell 1
      have z2 := hX.cell 2
      have z3 := hX.cell 3
      have z4 := hX.cell 4
      have z5 := hX.cell 5
      simp at z0 z1 z2 z3 z4 z5
      clear hcell hat hW hB hX hx hinx
      go_upto_region 7 with fail
      rw [← HW.out]
      go_wp2_with fail
      refine HF.out.mono ?_
      rintro e w2 ⟨u, rfl, hal, hinu, hB2⟩
      have hs2 := HSt.out.but.size
      have hs3 := hB2.size
      have hl2 := HSt.out.ln.below hB2
      have hql : L'.q.length < 30000 := by rw [HP.out.q, List.length_append, ← HK.out]; omega
      have hif : IT.In w2 (fun j => ¬ L'.C b j ∧ ¬ Z j) ⟨0, u⟩ := ⟨hinu.mono fun j hj _ => ⟨fun e => by have := HSt.out.ln.c_lt e; omega, fun e => by have := HZ.out j e; omega⟩, (by show (-9223372036854775808 : Int) ≤ 0; omega), (by show (0 : Int) ≤ 9223372036854775807; omega)⟩
      have hfi : IT.Fine ⟨0, u⟩ := ⟨by show u.n + u.v.total ≤ 10000; rw [hal.n, hal.v.total]; exact hszx, Int.le_refl _, fun e => absurd rfl e⟩
      have HLy := hid (lay_any w2 Z b L' ⟨0, u⟩ hl2 (fun j hj => by have := HZ.out j hj; omega) hif hfi hql)
      have HSt2 := hid (LSet.trans HSt.out (LSet.below HSt.out.ln hB2))
      have HAl := hid hal
      clear hal hinu hB2 hs2 hs3 hl2 hql hif hfi HF
      go_wp2_with fail
      refine HLy.out.mono ?_
      rintro e w3 ⟨rfl, ch, cap, hly⟩
      have HN : Hid (RfA w Z b L r (us ++ [⟨0, u⟩]) ⟨L'.room, L'.next, ch, cap, L'.q ++ [⟨0, u⟩]⟩ w3) := by
        refine ⟨by simp [HP.out.q], LSet.trans HSt2.out hly, by simp; have := HK.out; omega, fun j y hj => ?_⟩
        rcases Nat.lt_or_ge j us.length with hju | hju
        · rw [List.getElem?_append_left hju] at hj
          exact HP.out.each j y hj
        · rw [List.getElem?_append_right hju] at hj
          obtain rfl : j = us.length := by
            rcases Nat.eq_or_lt_of_le hju with e | e
            · exact e.symm
            · rw [List.getElem?_eq_none (by simp; omega)] at hj; cases hj
          simp at hj
          subst hj
          rw [← HK.out, ← HXk.out]
          exact ⟨rfl, HAl.out⟩
      clear hly HLy c0 c1 c2 c3 c4 c5
      go_wp2_with fail
      go_roundw
      case rel => exact ⟨us ++ [⟨0, u⟩], _, by simp; have := HK.out; omega, HN.out⟩
      case measure => simp [intOf]; omega
    · obtain rfl : k = r.n := by omega
      have hq0 : L'.q = L.q ++ us := HP.out.q
      have H1 : Hid (∃ L2, LSet w Z b L wr L2 ∧ L2.q = L.q.drop 0 ++ (us ++ L.q.take 0)) := ⟨L', HP.out.set, by simp [hq0]⟩
      clear hq0 hlt
      go_wp2_with fail
      go_loopw [27] (fun v wr => ∃ i L2, v = .int .i64 ((i : Nat) : Int) ∧ i ≤ L.q.length ∧ LSet w Z b L wr L2 ∧ L2.q = L.q.drop i ++ (us ++ L.q.take i)) (fun v _ => L.q.length - (intOf v).toNat)
      case atStart =>
        obtain ⟨L2, h1, h2⟩ := H1.out
        exact ⟨0, L2, rfl, Nat.zero_le _, h1, h2⟩
      case round =>
        obtain ⟨i, L2, rfl, hi, hs, hq⟩ := hrel
        have HS2 := hid hs
        have HQ2 := hid hq
        have hlq : L2.q.length ≤ 30000 := hs.ln.len
        clear hs hq H1
        by_cases hlt : i < L.q.length
        · have hlt' : (i : Int) < (L.q.length : Int) := by omega
          obtain ⟨x, hx⟩ : ∃ x, L.q[i]? = some x := ⟨_, List.getElem?_eq_getElem hlt⟩
          obtain ⟨q', hq'⟩ : ∃ q', q' = L.q.drop (i + 1) ++ (us ++ L.q.take i) := ⟨_, rfl⟩
          have hq1 : L2.q = x :: q' := by
            rw [HQ2.out, hq', List.drop_eq_getElem_cons hlt]
            rw [List.getElem?_eq_getElem hlt] at hx
            injection hx with hx
            rw [hx]; rfl
          have hq2 : L.q.drop (i + 1) ++ (us ++ L.q.take (i + 1)) = q' ++ [x] := by rw [hq', List.take_add_one, hx]; simp
          have HTk := hid (take_some wr Z b L2 HS2.out.ln x q' hq1)
          have hxi := HS2.out.ln.it x (by rw [hq1]; exact List.mem_cons_self)
          have HXI := hid hxi
          have HQ3 := hid hq2
          have hql : q'.length < 30000 := by rw [hq1] at hlq; simp at hlq; omega
          clear hxi hq1 hq2 hq' hx
          go_wp2_with fail
          refine HTk.out.mono ?_
          rintro e w1 ⟨rfl, ht⟩
          have HX1 := hid (ht.keep elItem HXI.out.1)
          obtain ⟨W, hW⟩ : ∃ W, W = w1.alloc (.cells #[.int .i64 x.mark, .string x.r.key, .int .i64 x.r.v.kind, .int .i64 x.r.v.int, .string x.r.v.text, .slice x.r.v.p x.r.v.n x.r.v.c, .slice x.r.p x.r.n x.r.c] 35) := ⟨_, rfl⟩
          have hB : Below w1.heap.size w1 W := by rw [hW]; exact (Below.refl _ _).alloc (Nat.le_refl _) _
          have hX : Box W w1.heap.size #[.int .i64 x.mark, .string x.r.key, .int .i64 x.r.v.kind, .int .i64 x.r.v.int, .string x.r.v.text, .slice x.r.v.p x.r.v.n x.r.v.c, .slice x.r.p x.r.n x.r.c] 35 := by rw [hW]; exact Box.new _ _ _
          have HSw := hid (LSet.trans (LSet.trans HS2.out ht) (LSet.below ht.ln hB))
          have HLy := hid (lay_any W Z b _ x (ht.ln.below hB) (fun k hk => by have := HZ.out k hk; have := HSw.out.but.size; omega) (IT.In.below HX1.out hB) HXI.out.2 hql)
          have HW := hid hW
          have z0 := hX.cell 0
          have z1 := hX.cell 1
          have z2 := hX.cell 2
          have z3 := hX.cell 3
          have z4 := hX.cell 4
          have z5 := hX.cell 5
          have z6 := hX.cell 6
          simp at z0 z1 z2 z3 z4 z5 z6
          clear ht hW hB hX HTk
          unfold IT.val
          go_upto_region 12 with fail
          rw [← HW.out]
          go_wp2_with fail
          refine HLy.out.mono ?_
          rintro e w5 ⟨rfl, ch5, cap5, hly⟩
          have HS5 := hid (LSet.trans HSw.out hly)
          clear hly HLy z0 z1 z2 z3 z4 z5 z6
          go_wp2_with fail
          go_roundw
          case rel => exact ⟨i + 1, _, by go_num, by omega, HS5.out, HQ3.out.symm⟩
          case measure => simp [intOf]; omega
        · obtain rfl : i = L.q.length := by omega
          go_wp2
          refine bodyPost_ret (v := .int .i64 0) (by simp [results, Try.results17, go_sem]) rfl ⟨rfl, us, L2, ⟨by rw [HQ2.out]; simp, HS2.out, HK.out.symm, HP.out.each⟩⟩
end Go.Proofs.Ytpldokahoamdpaa

namespace Go.Proofs.Ytpldokahoamdpaa
open Go.RowKit Go.Conc
set_option maxRecDepth 8000
def gq (q : List IT) (i : Nat) : IT := (q[i]?).getD ⟨0, rz⟩
theorem gq_range (q : List IT) : (List.range q.length).map (gq q) = q := by
  refine List.ext_getElem? fun i => ?_
  rw [List.getElem?_map]
  rcases Nat.lt_or_ge i q.length with h | h
  · rw [List.getElem?_range h, Option.map_some]
    unfold gq
    rw [List.getElem?_eq_getElem h]
    rfl
  · rw [List.getElem?_eq_none (by simpa using h), List.getElem?_eq_none h]; rfl
theorem LnI.inCh_get {w : World} {Z : Nat → Prop} {b : Nat} {L : Ln} (h : LnI w Z b L) {j : Nat} {x : IT} (hx : L.inCh[j]? = some x) : L.q[j + (L.q.length - L.inCh.length)]? = some x := by
  have h1 := h.inCh_len
  unfold Ln.inCh at hx h1 ⊢
  cases hn : L.next with
  | none => simp only [hn] at hx h1 ⊢; simpa using hx
  | some n =>
    obtain ⟨y, q', e, _⟩ := h.nxt n hn
    simp only [hn, e] at hx ⊢
    simpa using hx
theorem LnI.inCh_le {w : World} {Z : Nat → Prop} {b : Nat} {L : Ln} (h : LnI w Z b L) : L.inCh.length ≤ L.q.length := by have := h.inCh_len; omega
theorem range_flat_succ {α : Type} (E : El α) (g : Nat → α) (n : Nat) : ((List.range (n + 1)).flatMap fun j => E.cells (g j)) = ((List.range n).flatMap fun j => E.cells (g j)) ++ E.cells (g n) := by
  rw [List.range_succ, List.flatMap_append]; simp
structure ClR (w : World) (b : Nat) (L : Ln) (j : Nat) (v : Value) (n : Nat) (wr : World) : Prop where
  box : Box wr b #[.int .i64 L.room, .int .i64 (nR L.q), L.nextV, .chan (some L.ch)] 74
  buf : ∃ s r, wr.heap[L.ch]? = some (.chan L.cap ((L.inCh.drop j).map IT.val).toArray true s r false)
  own : wr.ownsRow w.heap.size 35 7 v n ((List.range n).flatMap fun i => elItem.cells (gq L.q i))
  but : But (L.C b) w wr
  jl : j ≤ L.inCh.length
  n : n + L.inCh.length = L.q.length + j
theorem ClR.in_ {w : World} {Z : Nat → Prop} {b : Nat} {L : Ln} {j : Nat} {v : Value} {n : Nat} {wr : World} (hI : LnI w Z b L) (hZ : ∀ k, Z k → k < w.heap.size) (h : ClR w b L j v n wr) : ∃ p c, v = .slice p n c ∧ LT.In elItem wr (fun k => ¬ L.C b k ∧ ¬ Z k) ⟨p, n, c, gq L.q⟩ := by
  have hnq : n ≤ L.q.length := by have := h.n; have := h.jl; omega
  have hlen := hI.len
  have hit : ∀ i, i < n → IT.In wr (fun k => ¬ L.C b k ∧ ¬ Z k) (gq L.q i) := fun i hi => by
    have hil : i < L.q.length := by omega
    have e : gq L.q i = L.q[i] := by unfold gq; rw [List.getElem?_eq_getElem hil]; rfl
    rw [e]
    have h1 := (hI.it _ (List.getElem_mem hil)).1
    exact h1.kept h.but.size fun k hk hl => h.but.block k hl hk.1
  have hlt := h.own.lt
  have hce := @World.ownsRow.cells _ _ _ _ _ _ _ h.own
  obtain ⟨_, ⟨hv, h0⟩ | ⟨gb, cap, cur, hv, hbg, hh, hnc, hcm, hcs, htake⟩⟩ := id h.own
  · subst h0
    exact ⟨none, 0, hv, LT.In.none_ elItem wr _ none 0 _ (Nat.zero_le _) (fun _ => rfl)⟩
  · refine ⟨_, cap, hv, fun hn => ⟨gb, 0, rfl, ⟨fun e => by have := hI.c_lt e; omega, fun e => by have := hZ gb e; omega⟩, (hlt gb (by rw [hv]; rfl)).2, fun j hj r u hu => ?_⟩, hit, hnc, by show n ≤ _; omega, hcm, fun h => by cases h⟩
    have hr : r < elItem.size := by
      rcases Nat.lt_or_ge r elItem.size with h1 | h1
      · exact h1
      · rw [List.getElem?_eq_none (by rw [elItem.len]; exact h1)] at hu; cases hu
    have := hce (g := gb) (by rw [hv]; rfl) (j * elItem.size + r) u (by rw [range_flat_get elItem (gq L.q) n j r hj hr]; exact hu)
    rw [Go.WideShapes.add_plain] at this
    rw [show (0 : Nat) + j * elItem.size + r = 0 + (j * elItem.size + r) by omega]
    exact this
/-- a lane that is shut -/
def LnS (w : World) (b : Nat) (room : Int) : Prop := Box w b #[.int .i64 room, .int .i64 0, .pointer none, .chan none] 74
def ClQ (w : World) (Z : Nat → Prop) (b : Nat) (L : Ln) (e : Ending) (w' : World) : Prop := ∃ u : LT IT, e = .returned (.slice u.p u.n u.c) ∧ u.toL = L.q ∧ LT.In elItem w' (fun k => ¬ L.C b k ∧ ¬ Z k) u ∧ LnS w' b L.room ∧ But (L.C b) w w'
set_option maxRecDepth 60000 in
set_option maxHeartbeats 8000000 in
/-- Close -/
theorem close_any (w : World) (Z : Nat → Prop) (b : Nat) (L : Ln) (hI : LnI w Z b L) (hZ : ∀ k, Z k → k < w.heap.size) : Calls Try.prog 20 #[.pointer (some ⟨b, 0, none⟩)] w fun e w' => ClQ w Z b L e w' := by
  obtain ⟨i0, Kd⟩ := kindIt
  have HKd := hid Kd
  have HSh := hid (shut_no w Z b L hI)
  have HC := hid (count_any w Z b L hI)
  have hlen := hI.len
  obtain ⟨W, hmk, r1, r2⟩ := run_make_own (P := Try.prog) w w.heap.size 22 35 i0 _ 7 Kd.ht Kd.hi Kd.hz Kd.hsize .i64 .i64 L.q.length (by rw [Kd.hby]; omega) (by unfold maxLen; omega) (Nat.le_refl _)
  have hB : Below w.heap.size w W := (Below.refl _ _).grown r2 (Nat.le_refl _) fun k hk => by cases hk
  have hWs : w.heap.size < W.heap.size := (r1.lt w.heap.size rfl).2
  have hIW := hI.below hB
  have hbl := hI.b_lt
  have hcl := hI.ch_lt
  have hbc := hI.b_ch
  have hil := hI.inCh_len
  have HI := hid hI
  have HZ := hid hZ
  have HR1 := hid r1
  have HB := hid hB
  have HIW := hid hIW
  have c2 := hIW.c2
  have c3 := hIW.c3
  have bl := hIW.b_lt
  obtain ⟨s0, r0, hc0⟩ := hI.buf
  have HC0 := hid hc0
  clear hI hZ r1 r2 hB hIW Kd hc0
  cases hn : L.next with
  | none =>
    have c2' : W.cell? ⟨b, 2, none⟩ = some (.pointer none) := by rw [c2]; simp [Ln.nextV, hn]
    rw [if_pos hn, Nat.add_zero] at hil
    have HIl := hid hil
    have HN := hid hn
    have hcW : W.heap[L.ch]? = some (.chan L.cap (L.inCh.map IT.val).toArray false s0 r0 false) := (HB.out.block _ hcl).trans HC0.out
    have hcls := run_close_open (P := Try.prog) #[71] 0 hcW
    have hcb := But.setChan W L.ch L.cap (L.inCh.map IT.val).toArray true s0 r0 false
    have hcn := heap_setChan W L.ch L.cap (L.inCh.map IT.val).toArray true s0 r0 false (by omega)
    obtain ⟨W1, hW1⟩ : ∃ W1, W1 = W.setChan L.ch L.cap (L.inCh.map IT.val).toArray true s0 r0 false := ⟨_, rfl⟩
    rw [← hW1] at hcb hcn
    change _ = Result.ok _ (W.setChan L.ch L.cap (L.inCh.map IT.val).toArray true s0 r0 false) at hcls
    rw [← hW1] at hcls
    have d3 : W1.cell? ⟨b, 3, none⟩ = some (.chan (some L.ch)) := by rw [(HIW.out.box.but hcb hbc).cell]; rfl
    have bl1 : b < W1.heap.size := Nat.lt_of_lt_of_le bl hcb.size
    have H0 : Hid (ClR w b L 0 (.slice (some ⟨w.heap.size, 0, none⟩) 0 L.q.length) 0 W1) := by
      refine ⟨HIW.out.box.but hcb hbc, ⟨s0, r0, by rw [hcn]; simp⟩, ?_, ⟨hcb.os.trans HB.out.os, hcb.tape.trans HB.out.tape, hcb.output.trans HB.out.output, Nat.le_trans HB.out.size hcb.size, fun k hk hn => (hcb.block k (by omega) fun e => hn (.inr (.inl e))).trans (HB.out.block k hk)⟩, Nat.zero_le _, by omega⟩
      exact ownsRow_keep HR1.out fun k hk hl => hcb.block k hl (by simp [Value.ownBlock] at hk; omega)
    clear c2 hn hcW hW1 hcb hcn hil
    go_enter Try.func20, Try.ntmps20
    go_wp2_with fail
    refine HSh.out.mono ?_
    rintro e w0 ⟨rfl, hw0⟩
    subst w0
    go_wp2_with fail
    refine HC.out.mono ?_
    rintro e w0 ⟨rfl, hw0⟩
    subst w0
    go_wp2_with fail
    clear hmk hcls c2' c3 d3
    go_loopw [3] (fun v wr => ∃ j n, ClR w b L j v n wr) (fun _ wr => bufN wr L.ch)
    case atStart => exact ⟨_, _, H0.out⟩
    case round =>
      obtain ⟨j, n, hR⟩ := hrel
      obtain ⟨v, hv⟩ : ∃ v, v = u3 := ⟨_, rfl⟩
      rw [← hv] at hR ⊢
      clear hv H0
      obtain ⟨s, r, hc⟩ := hR.buf
      have HR := hid hR
      have HCh := hid hc
      have hb0 := hid (bufN_of hc)
      have hjl := hR.jl
      have hn := hR.n
      have hws := hR.but.size
      have hvl : ∀ k, v.ownBlock = some k → w.heap.size ≤ k ∧ k < wr.heap.size := fun k hk => hR.own.lt k hk
      have HVl := hid hvl
      clear hR hc hvl
      go_upto_region 8 with fail
      cases hd : L.inCh.drop j with
      | nil =>
        have hje : j = L.inCh.length := by have := congrArg List.length hd; simp at this; omega
        have HS : Hid (wr.heap[L.ch]? = some (.chan L.cap #[] true s r false)) := by rw [HCh.out, hd]; rfl
        have HJe := hid hje
        have hbx := HR.out.box
        have c0 : wr.cell? ⟨b, 0, none⟩ = some (.int .i64 L.room) := by rw [hbx.cell]; rfl
        have c1 : wr.cell? ⟨b, 1, none⟩ = some (.int .i64 (nR L.q)) := by rw [hbx.cell]; rfl
        have c2 : wr.cell? ⟨b, 2, none⟩ = some L.nextV := by rw [hbx.cell]; rfl
        have c3 : wr.cell? ⟨b, 3, none⟩ = some (.chan (some L.ch)) := by rw [hbx.cell]; rfl
        have g0 := hbx.frozen 0
        have g1 := hbx.frozen 1
        have g2 := hbx.frozen 2
        have g3 := hbx.frozen 3
        have bl := hbx.lt
        clear hd hje hbx
        refine wp_comm1 (cases := #[rcase L.ch zI]) (blocking := true) (shape := .recv true) (w1 := wr) (v := .tuple #[zI, .bool false]) (w2 := wr) rfl (by simp [go_sem, execOp, rcase, Act.eval, zI]) (fun fr cs es h => one_shut h HS.out) ?_
        go_wp2
        have hnq : n = L.q.length := by have := HJe.out; omega
        have hbt := ((((But.one wr b).setAt 0 (.int .i64 L.room)).setAt 1 (.int .i64 0)).setAt 2 (.pointer none)).setAt 3 (.chan none)
        have hbs := (((HR.out.box.set 0 (.int .i64 L.room)).set 1 (.int .i64 0)).set 2 (.pointer none)).set 3 (.chan none)
        obtain ⟨p, c, hv, hin⟩ := ClR.in_ HI.out HZ.out HR.out
        subst hv
        refine bodyPost_ret (v := .slice p n c) (by simp [results, Try.results20, go_sem]) rfl ⟨⟨p, n, c, gq L.q⟩, rfl, ?_, ?_, ?_, ?_⟩
        · show (List.range n).map (gq L.q) = L.q
          rw [hnq]; exact gq_range L.q
        · exact hin.kept hbt.size fun k hk hl => hbt.block k hl fun e => hk.1 (.inl e)
        · show Box _ b _ _
          simpa only [List.setIfInBounds_toArray, List.set_cons_zero, List.set_cons_succ] using hbs
        · exact ⟨hbt.os.trans HR.out.but.os, hbt.tape.trans HR.out.but.tape, hbt.output.trans HR.out.but.output, Nat.le_trans HR.out.but.size hbt.size, fun k hk hn => (hbt.block k (by omega) fun e => hn (.inl e)).trans (HR.out.but.block k hk hn)⟩
      | cons x rest =>
        have hje : j < L.inCh.length := by have := congrArg List.length hd; simp at this; omega
        have HS : Hid (wr.heap[L.ch]? = some (.chan L.cap (x.val :: rest.map IT.val).toArray true s r false)) := by rw [HCh.out, hd]; rfl
        have hdk : L.inCh.drop (j + 1) = rest := by have h2 := congrArg List.tail hd; simpa using h2
        have hxj : L.inCh[j]? = some x := by have := congrArg (fun l : List IT => l[0]?) hd; simpa using this
        have hxq : gq L.q n = x := by
          have := LnI.inCh_get HI.out hxj
          have hile := LnI.inCh_le HI.out
          unfold gq
          rw [show n = j + (L.q.length - L.inCh.length) by omega, this]
          rfl
        have HT := hid (And.intro hdk (And.intro hxq hje))
        have HDl := hid (congrArg List.length hd)
        refine wp_comm1 (cases := #[rcase L.ch zI]) (blocking := true) (shape := .recv true) (w1 := wr) (v := .tuple #[x.val, .bool true]) (w2 := wr.setChan L.ch L.cap (rest.map IT.val).toArray true s (r + 1) false) rfl (by simp [go_sem, execOp, rcase, Act.eval, zI]) (fun fr cs es h => one_recv h HS.out) ?_
        have hb2 := But.setChan wr L.ch L.cap (rest.map IT.val).toArray true s (r + 1) false
        have hc2 := heap_setChan wr L.ch L.cap (rest.map IT.val).toArray true s (r + 1) false (by omega)
        obtain ⟨W2, hW2⟩ : ∃ W2, W2 = wr.setChan L.ch L.cap (rest.map IT.val).toArray true s (r + 1) false := ⟨_, rfl⟩
        rw [← hW2] at hb2 hc2 ⊢
        clear hW2 hdk hxj hxq hd
        obtain ⟨W, hW⟩ : ∃ W, W = W2.alloc (.cells #[.int .i64 x.mark, .string x.r.key, .int .i64 x.r.v.kind, .int .i64 x.r.v.int, .string x.r.v.text, .slice x.r.v.p x.r.v.n x.r.v.c, .slice x.r.p x.r.n x.r.c] 35) := ⟨_, rfl⟩
        have hB : Below W2.heap.size W2 W := by rw [hW]; exact (Below.refl _ _).alloc (Nat.le_refl _) _
        have hX : Box W W2.heap.size #[.int .i64 x.mark, .string x.r.key, .int .i64 x.r.v.kind, .int .i64 x.r.v.int, .string x.r.v.text, .slice x.r.v.p x.r.v.n x.r.v.c, .slice x.r.p x.r.n x.r.c] 35 := by rw [hW]; exact Box.new _ _ _
        have z0 := hX.cell 0
        have z1 := hX.cell 1
        have z2 := hX.cell 2
        have z3 := hX.cell 3
        have z4 := hX.cell 4
        have z5 := hX.cell 5
        have z6 := hX.cell 6
        simp at z0 z1 z2 z3 z4 z5 z6
        have xl := hX.lt
        have hown : W.ownsRow w.heap.size 35 7 v n ((List.range n).flatMap fun i => elItem.cells (gq L.q i)) := ownsRow_keep HR.out.own fun k hk hl => (hB.block k (Nat.lt_of_lt_of_le hl hb2.size)).trans (hb2.block k hl (by have := (HVl.out k hk).1; omega))
        have HOw := hid hown
        have HW := hid hW
        have HB2 := hid hb2
        have HC2 := hid hc2
        have HB := hid hB
        have hsW : wr.heap.size ≤ W.heap.size := Nat.le_trans hb2.size hB.size
        have HNw : Hid (∀ j u', (elItem.cells x)[j]? = some u' → (W.alloc (.cells #[.int .i64 x.mark, .string x.r.key, .int .i64 x.r.v.kind, .int .i64 x.r.v.int, .string x.r.v.text, .slice x.r.v.p x.r.v.n x.r.v.c, .slice x.r.p x.r.n x.r.c] 35)).cell? ((⟨W.heap.size, 0, none⟩ : Addr).add j) = some u') := by
          intro j u' hu
          rw [Go.WideShapes.add_plain, (Box.new W #[.int .i64 x.mark, .string x.r.key, .int .i64 x.r.v.kind, .int .i64 x.r.v.int, .string x.r.v.text, .slice x.r.v.p x.r.v.n x.r.v.c, .slice x.r.p x.r.n x.r.c] 35).cell]
          rw [show 0 + j = j by omega]
          simpa [elItem, IT.cells] using hu
        have ha : Below W.heap.size W (W.alloc (.cells #[.int .i64 x.mark, .string x.r.key, .int .i64 x.r.v.kind, .int .i64 x.r.v.int, .string x.r.v.text, .slice x.r.v.p x.r.v.n x.r.v.c, .slice x.r.p x.r.n x.r.c] 35)) := (Below.refl _ _).alloc (Nat.le_refl _) _
        have HAa := hid ha
        unfold IT.val
        clear hown hW hb2 hc2 hB hX ha
        go_upto_region 10 with fail
        rw [← HW.out]
        go_wp2_with (at_builtin; refine wpList_app rfl (.tmp 35) (.tmp 37) 22 35 i0 _ 7 104 HKd.out rfl w.heap.size v n _ rfl (HOw.out.alloc _) ⟨W.heap.size, 0, none⟩ 1 1 (elItem.cells x) rfl rfl HNw.out (elItem.one x) (by omega) (by omega) (by simp; omega) ?_)
        intro v4 w4 ho4 hg4 hn4
        have hbt4 : But (fun k => v.ownBlock = some k) W w4 := (But.ofBelow HAa.out).trans ((But.refl _ _).grown hg4 fun k hk _ => hk)
        have HR4 : Hid (ClR w b L (j + 1) v4 (n + 1) w4) := by
          have hk4 : ∀ k, k < w.heap.size → w4.heap[k]? = W2.heap[k]? := fun k hk => (hbt4.block k (by omega) fun e => by have := (HVl.out k e).1; omega).trans (HB.out.block k (by have := HB2.out.size; omega))
          refine ⟨HR.out.box.kept ((hk4 b (by omega)).trans (HB2.out.block b (by omega) hbc)), ⟨s, r + 1, by rw [hk4 _ hcl, HC2.out, HT.out.1]⟩, ?_, ⟨hbt4.os.trans (HB.out.os.trans (HB2.out.os.trans HR.out.but.os)), hbt4.tape.trans (HB.out.tape.trans (HB2.out.tape.trans HR.out.but.tape)), hbt4.output.trans (HB.out.output.trans (HB2.out.output.trans HR.out.but.output)), by have := hbt4.size; omega, fun k hk hn => ?_⟩, HT.out.2.2, by omega⟩
          · rw [range_flat_succ, HT.out.2.1]
            exact ho4
          · exact (hk4 k hk).trans ((HB2.out.block k (by omega) fun e => hn (.inr (.inl e))).trans (HR.out.but.block k hk hn))
        have hm : Hid (bufN w4 L.ch < bufN wr L.ch) := by
          obtain ⟨s4, r4, hc4⟩ := HR4.out.buf
          show _ < _
          rw [bufN_of hc4, hb0.out]
          have := HT.out.2.2
          simp
          omega
        clear ho4 hg4 hn4 hbt4 HNw HAa z0 z1 z2 z3 z4 z5 z6
        go_wp2_with fail
        go_roundw
        case rel => exact ⟨j + 1, n + 1, HR4.out⟩
        case measure => exact hm.out
  | some nb =>
    have c2' : W.cell? ⟨b, 2, none⟩ = some (.pointer (some ⟨nb, 0, none⟩)) := by rw [c2]; simp [Ln.nextV, hn]
    rw [if_neg (by rw [hn]; simp)] at hil
    obtain ⟨x0, q0, hq0, hbx⟩ := HI.out.nxt nb hn
    have hbW := hbx.below HB.out
    have hnl := hbx.lt
    have m0 := hbW.cell 0
    have m1 := hbW.cell 1
    have m2 := hbW.cell 2
    have m3 := hbW.cell 3
    have m4 := hbW.cell 4
    have m5 := hbW.cell 5
    have m6 := hbW.cell 6
    simp [IT.cells] at m0 m1 m2 m3 m4 m5 m6
    have hnl2 := hbW.lt
    have hgx : gq L.q 0 = x0 := by rw [hq0]; rfl
    have HGx := hid hgx
    have hnbc := HI.out.n_ch hn
    have HNw : Hid (∀ j u', (elItem.cells x0)[j]? = some u' → (W.alloc (.cells #[.int .i64 x0.mark, .string x0.r.key, .int .i64 x0.r.v.kind, .int .i64 x0.r.v.int, .string x0.r.v.text, .slice x0.r.v.p x0.r.v.n x0.r.v.c, .slice x0.r.p x0.r.n x0.r.c] 35)).cell? ((⟨W.heap.size, 0, none⟩ : Addr).add j) = some u') := by
      intro j u' hu
      rw [Go.WideShapes.add_plain, (Box.new W #[.int .i64 x0.mark, .string x0.r.key, .int .i64 x0.r.v.kind, .int .i64 x0.r.v.int, .string x0.r.v.text, .slice x0.r.v.p x0.r.v.n x0.r.v.c, .slice x0.r.p x0.r.n x0.r.c] 35).cell]
      rw [show 0 + j = j by omega]
      simpa [elItem, IT.cells] using hu
    have ha : Below W.heap.size W (W.alloc (.cells #[.int .i64 x0.mark, .string x0.r.key, .int .i64 x0.r.v.kind, .int .i64 x0.r.v.int, .string x0.r.v.text, .slice x0.r.v.p x0.r.v.n x0.r.v.c, .slice x0.r.p x0.r.n x0.r.c] 35)) := (Below.refl _ _).alloc (Nat.le_refl _) _
    have HAa := hid ha
    have HIl := hid hil
    clear c2 hn hil hq0 hbx hbW hgx ha
    go_enter Try.func20, Try.ntmps20
    go_wp2_with fail
    refine HSh.out.mono ?_
    rintro e w0 ⟨rfl, hw0⟩
    subst w0
    go_wp2_with fail
    refine HC.out.mono ?_
    rintro e w0 ⟨rfl, hw0⟩
    subst w0
    go_wp2_with (at_builtin; refine wpList_app rfl (.tmp 15) (.tmp 22) 22 35 i0 _ 7 104 HKd.out rfl w.heap.size (.slice (some ⟨w.heap.size, 0, none⟩) 0 L.q.length) 0 _ rfl (HR1.out.alloc _) ⟨W.heap.size, 0, none⟩ 1 1 (elItem.cells x0) rfl rfl HNw.out (elItem.one x0) (by omega) (by omega) (by simp; omega) ?_)
    intro v4 w4 ho4 hg4 hn4
    have hbt4 : But (fun k => w.heap.size = k) W w4 := (But.ofBelow HAa.out).trans ((But.refl _ _).grown hg4 fun k hk _ => by simpa [Value.ownBlock] using hk)
    have hcW : w4.heap[L.ch]? = some (.chan L.cap (L.inCh.map IT.val).toArray false s0 r0 false) := (hbt4.block _ (by omega) (by omega)).trans ((HB.out.block _ hcl).trans HC0.out)
    have hcls := run_close_open (P := Try.prog) #[71] 0 hcW
    have hcb := But.setChan w4 L.ch L.cap (L.inCh.map IT.val).toArray true s0 r0 false
    have hcn := heap_setChan w4 L.ch L.cap (L.inCh.map IT.val).toArray true s0 r0 false (by have := hbt4.size; omega)
    obtain ⟨W1, hW1⟩ : ∃ W1, W1 = w4.setChan L.ch L.cap (L.inCh.map IT.val).toArray true s0 r0 false := ⟨_, rfl⟩
    rw [← hW1] at hcb hcn
    change _ = Result.ok _ (w4.setChan L.ch L.cap (L.inCh.map IT.val).toArray true s0 r0 false) at hcls
    rw [← hW1] at hcls
    have hbx4 := HIW.out.box.but hbt4 (by omega)
    have e3 : w4.cell? ⟨b, 3, none⟩ = some (.chan (some L.ch)) := by rw [hbx4.cell]; rfl
    have bl4 := hbx4.lt
    have hbx1 := hbx4.but hcb hbc
    have d3 : W1.cell? ⟨b, 3, none⟩ = some (.chan (some L.ch)) := by rw [hbx1.cell]; rfl
    have bl1 := hbx1.lt
    have H0 : Hid (ClR w b L 0 v4 1 W1) := by
      have hs4 := hbt4.size
      refine ⟨hbx1, ⟨s0, r0, by rw [hcn]; simp⟩, ?_, ⟨hcb.os.trans (hbt4.os.trans HB.out.os), hcb.tape.trans (hbt4.tape.trans HB.out.tape), hcb.output.trans (hbt4.output.trans HB.out.output), by have := hcb.size; omega, fun k hk hn => (hcb.block k (by omega) fun e => hn (.inr (.inl e))).trans ((hbt4.block k (by omega) (by omega)).trans (HB.out.block k hk))⟩, Nat.zero_le _, by have := HIl.out; omega⟩
      have ho5 : w4.ownsRow w.heap.size 35 7 v4 1 ((List.range 1).flatMap fun i => elItem.cells (gq L.q i)) := by
        rw [range_flat_succ, HGx.out]
        exact ho4
      refine ownsRow_keep ho5 fun k hk hl => hcb.block k hl fun e => ?_
      have h7 := (ho5.lt k hk).1
      have e' : k = L.ch := e
      omega
    clear hcW hW1 hcb hcn ho4 hg4 hn4 hbt4 hbx4 hbx1 m0 m1 m2 m3 m4 m5 m6 c2' c3
    go_wp2_with fail
    clear hmk hcls d3 e3
    go_loopw [3] (fun v wr => ∃ j n, ClR w b L j v n wr) (fun _ wr => bufN wr L.ch)
    case atStart => exact ⟨_, _, H0.out⟩
    case round =>
      obtain ⟨j, n, hR⟩ := hrel
      obtain ⟨v, hv⟩ : ∃ v, v = u3 := ⟨_, rfl⟩
      rw [← hv] at hR ⊢
      clear hv H0
      obtain ⟨s, r, hc⟩ := hR.buf
      have HR := hid hR
      have HCh := hid hc
      have hb0 := hid (bufN_of hc)
      have hjl := hR.jl
      have hn := hR.n
      have hws := hR.but.size
      have hvl : ∀ k, v.ownBlock = some k → w.heap.size ≤ k ∧ k < wr.heap.size := fun k hk => hR.own.lt k hk
      have HVl := hid hvl
      clear hR hc hvl
      go_upto_region 8 with fail
      cases hd : L.inCh.drop j with
      | nil =>
        have hje : j = L.inCh.length := by have := congrArg List.length hd; simp at this; omega
        have HS : Hid (wr.heap[L.ch]? = some (.chan L.cap #[] true s r false)) := by rw [HCh.out, hd]; rfl
        have HJe := hid hje
        have hbx := HR.out.box
        have c0 : wr.cell? ⟨b, 0, none⟩ = some (.int .i64 L.room) := by rw [hbx.cell]; rfl
        have c1 : wr.cell? ⟨b, 1, none⟩ = some (.int .i64 (nR L.q)) := by rw [hbx.cell]; rfl
        have c2 : wr.cell? ⟨b, 2, none⟩ = some L.nextV := by rw [hbx.cell]; rfl
        have c3 : wr.cell? ⟨b, 3, none⟩ = some (.chan (some L.ch)) := by rw [hbx.cell]; rfl
        have g0 := hbx.frozen 0
        have g1 := hbx.frozen 1
        have g2 := hbx.frozen 2
        have g3 := hbx.frozen 3
        have bl := hbx.lt
        clear hd hje hbx
        refine wp_comm1 (cases := #[rcase L.ch zI]) (blocking := true) (shape := .recv true) (w1 := wr) (v := .tuple #[zI, .bool false]) (w2 := wr) rfl (by simp [go_sem, execOp, rcase, Act.eval, zI]) (fun fr cs es h => one_shut h HS.out) ?_
        go_wp2
        have hnq : n = L.q.length := by have := HJe.out; omega
        have hbt := ((((But.one wr b).setAt 0 (.int .i64 L.room)).setAt 1 (.int .i64 0)).setAt 2 (.pointer none)).setAt 3 (.chan none)
        have hbs := (((HR.out.box.set 0 (.int .i64 L.room)).set 1 (.int .i64 0)).set 2 (.pointer none)).set 3 (.chan none)
        obtain ⟨p, c, hv, hin⟩ := ClR.in_ HI.out HZ.out HR.out
        subst hv
        refine bodyPost_ret (v := .slice p n c) (by simp [results, Try.results20, go_sem]) rfl ⟨⟨p, n, c, gq L.q⟩, rfl, ?_, ?_, ?_, ?_⟩
        · show (List.range n).map (gq L.q) = L.q
          rw [hnq]; exact gq_range L.q
        · exact hin.kept hbt.size fun k hk hl => hbt.block k hl fun e => hk.1 (.inl e)
        · show Box _ b _ _
          simpa only [List.setIfInBounds_toArray, List.set_cons_zero, List.set_cons_succ] using hbs
        · exact ⟨hbt.os.trans HR.out.but.os, hbt.tape.trans HR.out.but.tape, hbt.output.trans HR.out.but.output, Nat.le_trans HR.out.but.size hbt.size, fun k hk hn => (hbt.block k (by omega) fun e => hn (.inl e)).trans (HR.out.but.block k hk hn)⟩
      | cons x rest =>
        have hje : j < L.inCh.length := by have := congrArg List.length hd; simp at this; omega
        have HS : Hid (wr.heap[L.ch]? = some (.chan L.cap (x.val :: rest.map IT.val).toArray true s r false)) := by rw [HCh.out, hd]; rfl
        have hdk : L.inCh.drop (j + 1) = rest := by have h2 := congrArg List.tail hd; simpa using h2
        have hxj : L.inCh[j]? = some x := by have := congrArg (fun l : List IT => l[0]?) hd; simpa using this
        have hxq : gq L.q n = x := by
          have := LnI.inCh_get HI.out hxj
          have hile := LnI.inCh_le HI.out
          unfold gq
          rw [show n = j + (L.q.length - L.inCh.length) by omega, this]
          rfl
        have HT := hid (And.intro hdk (And.intro hxq hje))
        have HDl := hid (congrArg List.length hd)
        refine wp_comm1 (cases := #[rcase L.ch zI]) (blocking := true) (shape := .recv true) (w1 := wr) (v := .tuple #[x.val, .bool true]) (w2 := wr.setChan L.ch L.cap (rest.map IT.val).toArray true s (r + 1) false) rfl (by simp [go_sem, execOp, rcase, Act.eval, zI]) (fun fr cs es h => one_recv h HS.out) ?_
        have hb2 := But.setChan wr L.ch L.cap (rest.map IT.val).toArray true s (r + 1) false
        have hc2 := heap_setChan wr L.ch L.cap (rest.map IT.val).toArray true s (r + 1) false (by omega)
        obtain ⟨W2, hW2⟩ : ∃ W2, W2 = wr.setChan L.ch L.cap (rest.map IT.val).toArray true s (r + 1) false := ⟨_, rfl⟩
        rw [← hW2] at hb2 hc2 ⊢
        clear hW2 hdk hxj hxq hd
        obtain ⟨W, hW⟩ : ∃ W, W = W2.alloc (.cells #[.int .i64 x.mark, .string x.r.key, .int .i64 x.r.v.kind, .int .i64 x.r.v.int, .string x.r.v.text, .slice x.r.v.p x.r.v.n x.r.v.c, .slice x.r.p x.r.n x.r.c] 35) := ⟨_, rfl⟩
        have hB : Below W2.heap.size W2 W := by rw [hW]; exact (Below.refl _ _).alloc (Nat.le_refl _) _
        have hX : Box W W2.heap.size #[.int .i64 x.mark, .string x.r.key, .int .i64 x.r.v.kind, .int .i64 x.r.v.int, .string x.r.v.text, .slice x.r.v.p x.r.v.n x.r.v.c, .slice x.r.p x.r.n x.r.c] 35 := by rw [hW]; exact Box.new _ _ _
        have z0 := hX.cell 0
        have z1 := hX.cell 1
        have z2 := hX.cell 2
        have z3 := hX.cell 3
        have z4 := hX.cell 4
        have z5 := hX.cell 5
        have z6 := hX.cell 6
        simp at z0 z1 z2 z3 z4 z5 z6
        have xl := hX.lt
        have hown : W.ownsRow w.heap.size 35 7 v n ((List.range n).flatMap fun i => elItem.cells (gq L.q i)) := ownsRow_keep HR.out.own fun k hk hl => (hB.block k (Nat.lt_of_lt_of_le hl hb2.size)).trans (hb2.block k hl (by have := (HVl.out k hk).1; omega))
        have HOw := hid hown
        have HW := hid hW
        have HB2 := hid hb2
        have HC2 := hid hc2
        have HB := hid hB
        have hsW : wr.heap.size ≤ W.heap.size := Nat.le_trans hb2.size hB.size
        have HNw : Hid (∀ j u', (elItem.cells x)[j]? = some u' → (W.alloc (.cells #[.int .i64 x.mark, .string x.r.key, .int .i64 x.r.v.kind, .int .i64 x.r.v.int, .string x.r.v.text, .slice x.r.v.p x.r.v.n x.r.v.c, .slice x.r.p x.r.n x.r.c] 35)).cell? ((⟨W.heap.size, 0, none⟩ : Addr).add j) = some u') := by
          intro j u' hu
          rw [Go.WideShapes.add_plain, (Box.new W #[.int .i64 x.mark, .string x.r.key, .int .i64 x.r.v.kind, .int .i64 x.r.v.int, .string x.r.v.text, .slice x.r.v.p x.r.v.n x.r.v.c, .slice x.r.p x.r.n x.r.c] 35).cell]
          rw [show 0 + j = j by omega]
          simpa [elItem, IT.cells] using hu
        have ha : Below W.heap.size W (W.alloc (.cells #[.int .i64 x.mark, .string x.r.key, .int .i64 x.r.v.kind, .int .i64 x.r.v.int, .string x.r.v.text, .slice x.r.v.p x.r.v.n x.r.v.c, .slice x.r.p x.r.n x.r.c] 35)) := (Below.refl _ _).alloc (Nat.le_refl _) _
        have HAa := hid ha
        unfold IT.val
        clear hown hW hb2 hc2 hB hX ha
        go_upto_region 10 with fail
        rw [← HW.out]
        go_wp2_with (at_builtin; refine wpList_app rfl (.tmp 35) (.tmp 37) 22 35 i0 _ 7 104 HKd.out rfl w.heap.size v n _ rfl (HOw.out.alloc _) ⟨W.heap.size, 0, none⟩ 1 1 (elItem.cells x) rfl rfl HNw.out (elItem.one x) (by omega) (by omega) (by simp; omega) ?_)
        intro v4 w4 ho4 hg4 hn4
        have hbt4 : But (fun k => v.ownBlock = some k) W w4 := (But.ofBelow HAa.out).trans ((But.refl _ _).grown hg4 fun k hk _ => hk)
        have HR4 : Hid (ClR w b L (j + 1) v4 (n + 1) w4) := by
          have hk4 : ∀ k, k < w.heap.size → w4.heap[k]? = W2.heap[k]? := fun k hk => (hbt4.block k (by omega) fun e => by have := (HVl.out k e).1; omega).trans (HB.out.block k (by have := HB2.out.size; omega))
          refine ⟨HR.out.box.kept ((hk4 b (by omega)).trans (HB2.out.block b (by omega) hbc)), ⟨s, r + 1, by rw [hk4 _ hcl, HC2.out, HT.out.1]⟩, ?_, ⟨hbt4.os.trans (HB.out.os.trans (HB2.out.os.trans HR.out.but.os)), hbt4.tape.trans (HB.out.tape.trans (HB2.out.tape.trans HR.out.but.tape)), hbt4.output.trans (HB.out.output.trans (HB2.out.output.trans HR.out.but.output)), by have := hbt4.size; omega, fun k hk hn => ?_⟩, HT.out.2.2, by omega⟩
          · rw [range_flat_succ, HT.out.2.1]
            exact ho4
          · exact (hk4 k hk).trans ((HB2.out.block k (by omega) fun e => hn (.inr (.inl e))).trans (HR.out.but.block k hk hn))
        have hm : Hid (bufN w4 L.ch < bufN wr L.ch) := by
          obtain ⟨s4, r4, hc4⟩ := HR4.out.buf
          show _ < _
          rw [bufN_of hc4, hb0.out]
          have := HT.out.2.2
          simp
          omega
        clear ho4 hg4 hn4 hbt4 HNw HAa z0 z1 z2 z3 z4 z5 z6
        go_wp2_with fail
        go_roundw
        case rel => exact ⟨j + 1, n + 1, HR4.out⟩
        case measure => exact hm.out
end Go.Proofs.Ytpldokahoamdpaa
