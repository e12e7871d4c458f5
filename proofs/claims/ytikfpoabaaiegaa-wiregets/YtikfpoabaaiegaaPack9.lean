import Derived.Test.YtikfpoabaaiegaaPack7
import Derived.Test.YtikfpoabaaiegaaPack0
import Derived.Test.YtikfpoabaaiegaaPack1
import Derived.Test.YtikfpoabaaiegaaPack8
namespace Go.Proofs.Ytikfpoabaaiegaa
open Go.RowKit
set_option maxRecDepth 8000
theorem kindSt : ∃ i, Kind 32 9 i (.string ⟨#[]⟩) 1 16 := by
  obtain ⟨i0, hi, hz0, hz1, hz2⟩ := info_parts (show (Try.prog.info? 9).map (fun i => (i.zero, i.size, i.bytes)) = some (some (.string ⟨#[]⟩), 1, 16) by kernel_rfl)
  exact ⟨i0, Try.underlying32, hi, hz0, hz1, hz2, rfl, by decide⟩
set_option maxHeartbeats 4000000 in
theorem rlStr {σ : Type} (Al : ByteArray → ByteArray → Prop) (item : σ → RS (ByteArray)) (nx : σ → ByteArray → σ) (Inv : World → σ → Prop) (X : Nat → Prop) (s0 : σ) (w : World) (S : Nat → Prop) (rb : Nat) (L : List Int) (e : Int) (bound : Nat) (c0 c1 : Nat) (hb : bound ≤ 1000) (hXr : X rb) (hX : ∀ k, X k → k < w.heap.size) (hS : ∀ b, S b → b < w.heap.size) (h0 : Inv w s0)
    (hInv : ∀ W W' s, Inv W s → w.heap.size ≤ W.heap.size → W.heap.size ≤ W'.heap.size → (∀ k, k < w.heap.size → k ≠ rb → W'.heap[k]? = W.heap[k]?) → Inv W' s)
    (HIt : ∀ W s R, But X w W → Rdr W S rb R 0 → Inv W s → Calls Try.prog 157 #[.pointer (some ⟨rb, 0, none⟩), .pointer (some ⟨c0, 0, none⟩), .pointer (some ⟨c1, 0, none⟩)] W fun x W' => ItemP elStr (fun u => .string u) Al item nx Inv X S rb s R W x W')
    (h : Rdr w S rb L e) : Calls Try.prog 148 #[.pointer (some ⟨rb, 0, none⟩), .int .i64 bound, .func (.func 157) #[] #[.pointer (some ⟨c0, 0, none⟩), .pointer (some ⟨c1, 0, none⟩)]] w fun x w' => ListP elStr Al (listS bound item nx s0) X w S rb L e x w' := by
  obtain ⟨i0, Kd⟩ := kindSt
  have HN := hid (wrNumber_any w S rb L e bound (by omega) h)
  have hrl := h.lt
  have HIt := hid HIt
  have HInv := hid hInv
  have H0 := hid h0
  have HX := hid hX
  have HS := hid hS
  have HKd := hid Kd
  clear h hInv h0 hX hS Kd
  go_enter Try.func148, Try.ntmps148
  go_wp2_with fail
  refine HN.out.mono ?_
  rintro x w1 ⟨m, R0, e1, rfl, ⟨hrr, hrd, hkp⟩, hm, hm0⟩
  have HRR := hid hrr
  have HRd := hid hrd
  have hkx : But X w w1 := hkp.mono fun k _ e => by subst e; exact hXr
  have HKp := hid hkp
  have HKx := hid hkx
  have hws := hkp.size
  clear hrr hrd hkp hkx HN
  by_cases he1 : e1 = 0
  · subst he1
    clear hm0
    go_wp2_with (at_make; refine wpList_make_own _ rfl _ _ 32 rfl w.heap.size 9 i0 (.string ⟨#[]⟩) 1 HKd.out.ht HKd.out.hi HKd.out.hz HKd.out.hsize _ _ _ m rfl rfl rfl (by rw [HKd.out.hby]; omega) (by unfold maxLen; omega) (by omega) ?_)
    intro w2 ho2 hg2
    have hb2 : Below w1.heap.size w1 w2 := ⟨hg2.os, hg2.tape, hg2.output, hg2.size, fun k hk => hg2.block k hk (by simp)⟩
    have hst : ∀ g, LInv elStr Al item nx Inv X w S rb R0 s0 0 (.slice (some ⟨w1.heap.size, 0, none⟩) 0 m) w2 s0 g R0 [] := fun g => LInv.start g ho2 hg2 HRd.out HKx.out (HInv.out w w2 s0 H0.out (Nat.le_refl _) (by have := hg2.size; omega) (fun k hk hne => (hb2.block k (by omega)).trans (HKp.out.block k hk hne)))
    have HSt := hid hst
    clear ho2 hg2 hb2 hst
    go_wp2_with fail
    go_loopw [8, 15] (fun v x wr => ∃ (j : Nat) (s : σ) (g : Nat → ByteArray) (R : List Int) (ys : List (ByteArray)), j ≤ m ∧ x = .int .i64 (j : Int) ∧ LInv elStr Al item nx Inv X w S rb R0 s0 j v wr s g R ys) (fun _ x _ => m - (intOf x).toNat)
    case atStart => exact ⟨0, s0, fun _ => ⟨#[]⟩, R0, [], Nat.zero_le _, rfl, HSt.out _⟩
    case round =>
      obtain ⟨j, s, g, R, ys, hj, rfl, hL⟩ := hrel
      have HL := hid hL
      clear hL
      by_cases hlt : j < m
      · have hlt' : (j : Int) < (m : Int) := by omega
        have HC := hid (HIt.out wr s R HL.out.kp HL.out.rd HL.out.inv)
        go_wp2_with fail
        refine HC.out.mono ?_
        rintro x w4 ⟨u, R', e', rfl, hu, hR⟩
        have hsz : w.heap.size ≤ w4.heap.size := Nat.le_trans HL.out.kp.size hR.kp.size
        have hrow : w4.ownsRow w.heap.size 9 1 u8 j ((List.range j).flatMap fun j => (elStr).cells (g j)) := ownsRow_keep HL.out.own.own fun k hk hl => hR.kp.block k hl (fun hx => by have := HX.out k hx; have := (HL.out.own.own.lt k hk).1; omega)
        have HU := hid hu
        have HR := hid hR
        have HRow := hid hrow
        clear hu hR hrow HC
        go_wp2_with (at_builtin; refine wpList_app rfl (.tmp 17) (.tmp 21) 32 9 i0 _ 1 16 HKd.out rfl w.heap.size u8 j _ rfl (HRow.out.alloc _) ⟨w4.heap.size, 0, none⟩ 1 1 ([.string u]) rfl rfl (cell_one_new _ _ _) ((elStr).one u) (by omega) (by omega) (by simp; omega) ?_)
        intro v3 w3 ho3 hg3 hn3
        by_cases he' : e' = 0
        · subst he'
          obtain ⟨s2, ys2, hL2⟩ := HL.out.step HU.out HR.out HX.out HS.out hrl HInv.out ho3 hg3 hn3
          obtain ⟨⟨p2, hx2, hy2⟩, hout⟩ := id hL2.rd
          have y1 := hx2.cell 1
          simp at y1
          have HL2 := hid hL2
          clear ho3 hg3 hn3 hL2 hx2 hy2 HRow HU HR
          go_wp2
          go_roundw
          case rel => exact ⟨j + 1, s2, _, R', ys2, by omega, by go_num, HL2.out⟩
          case measure => simp [intOf]; omega
        · have hlt4 : ∀ k, u8.ownBlock = some k → w.heap.size ≤ k := fun k hk => (HRow.out.lt k hk).1
          have hal : Below w4.heap.size w4 (w4.alloc (.cells #[.string u] 9)) := (Below.refl _ _).alloc (Nat.le_refl _) _
          have hkb : ∀ k, k < w.heap.size → w3.heap[k]? = w4.heap[k]? := fun k hk => (hg3.block k (by have := hal.size; omega) (fun e => by have := hlt4 k e.symm; omega)).trans (hal.block k (by omega))
          have hs3 : w4.heap.size ≤ w3.heap.size := Nat.le_trans hal.size hg3.size
          have hrd3 : Rdr w3 S rb R' e' := by
            obtain ⟨⟨p, hx, hy⟩, hout⟩ := HR.out.rd
            exact ⟨⟨p, hx.kept (hkb rb hrl), hy.kept hs3 fun b hb _ => hkb b (HS.out b hb)⟩, hout⟩
          have hk3 : But X w w3 := ⟨hg3.os.trans (HR.out.kp.os.trans HL.out.kp.os), hg3.tape.trans (HR.out.kp.tape.trans HL.out.kp.tape), hg3.output.trans (HR.out.kp.output.trans HL.out.kp.output), by omega, fun k hk hx => (hkb k hk).trans ((HR.out.kp.block k (Nat.lt_of_lt_of_le hk HL.out.kp.size) hx).trans (HL.out.kp.block k hk hx))⟩
          have HF := hid (LInv.fail HL.out HR.out he' hlt HRR.out hk3 hrd3 (LT.In.none_ _ _ _ none 0 g (Nat.zero_le _) (fun _ => rfl)))
          obtain ⟨⟨p2, hx2, hy2⟩, hout⟩ := id hrd3
          have y1 := hx2.cell 1
          simp at y1
          have he2 : (e' == 0) = false := by simpa using he'
          clear ho3 hg3 hn3 hx2 hy2 HRow HU HR hlt4 hal hkb hs3 hrd3 hk3
          go_wp2
          go_ret
          exact HF.out
      · obtain rfl : j = m := by omega
        have hlt' : ¬ (j : Int) < (j : Int) := by omega
        have HF := hid (HL.out.done (by omega) HRR.out)
        go_wp2
        go_ret
        exact HF.out
  · obtain rfl := hm0 he1
    go_wp2_with (at_make; refine wpList_make_own _ rfl _ _ 32 rfl w.heap.size 9 i0 (.string ⟨#[]⟩) 1 HKd.out.ht HKd.out.hi HKd.out.hz HKd.out.hsize _ _ _ 0 rfl rfl rfl (by omega) (by unfold maxLen; omega) (by omega) ?_)
    intro w2 ho2 hg2
    have hb2 : Below w1.heap.size w1 w2 := ⟨hg2.os, hg2.tape, hg2.output, hg2.size, fun k hk => hg2.block k hk (by simp)⟩
    have HF := hid (list_none (E := elStr) (Al := Al) (item := item) (nx := nx) (s0 := s0) (p := some ⟨w1.heap.size, 0, none⟩) (g := fun _ => ⟨#[]⟩) he1 HRR.out (HRd.out.below hb2) (HKx.out.trans (But.ofBelow hb2)))
    clear ho2 hg2 hb2
    go_wp2_with fail
    go_loopw [8, 15] (fun v x wr => v = .slice (some ⟨w1.heap.size, 0, none⟩) 0 0 ∧ x = .int .i64 0 ∧ wr = w2) (fun _ x _ => 0 - (intOf x).toNat)
    case atStart => exact ⟨rfl, rfl, rfl⟩
    case round =>
      obtain ⟨rfl, rfl, rfl⟩ := hrel
      go_wp2
      go_ret
      exact HF.out
end Go.Proofs.Ytikfpoabaaiegaa

namespace Go.Proofs.Ytikfpoabaaiegaa
open Go.RowKit
set_option maxRecDepth 8000
theorem kindVl : ∃ i, Kind 22 24 i (.agg #[.int .i64 0, .int .i64 0, .string ⟨#[]⟩, .slice none 0 0]) 4 56 := by
  obtain ⟨i0, hi, hz0, hz1, hz2⟩ := info_parts (show (Try.prog.info? 24).map (fun i => (i.zero, i.size, i.bytes)) = some (some (.agg #[.int .i64 0, .int .i64 0, .string ⟨#[]⟩, .slice none 0 0]), 4, 56) by kernel_rfl)
  exact ⟨i0, Try.underlying22, hi, hz0, hz1, hz2, rfl, by decide⟩
set_option maxHeartbeats 4000000 in
theorem rlVal {σ : Type} (Al : VT → VT → Prop) (item : σ → RS (VT)) (nx : σ → VT → σ) (Inv : World → σ → Prop) (X : Nat → Prop) (s0 : σ) (w : World) (S : Nat → Prop) (rb : Nat) (L : List Int) (e : Int) (bound : Nat) (hb : bound ≤ 1000) (hXr : X rb) (hX : ∀ k, X k → k < w.heap.size) (hS : ∀ b, S b → b < w.heap.size) (h0 : Inv w s0)
    (hInv : ∀ W W' s, Inv W s → w.heap.size ≤ W.heap.size → W.heap.size ≤ W'.heap.size → (∀ k, k < w.heap.size → k ≠ rb → W'.heap[k]? = W.heap[k]?) → Inv W' s)
    (HIt : ∀ W s R, But X w W → Rdr W S rb R 0 → Inv W s → Calls Try.prog 128 #[.pointer (some ⟨rb, 0, none⟩)] W fun x W' => ItemP elVal (fun u => .agg #[.int .i64 u.kind, .int .i64 u.int, .string u.text, .slice u.p u.n u.c]) Al item nx Inv X S rb s R W x W')
    (h : Rdr w S rb L e) : Calls Try.prog 147 #[.pointer (some ⟨rb, 0, none⟩), .int .i64 bound, .func (.func 128) #[] #[]] w fun x w' => ListP elVal Al (listS bound item nx s0) X w S rb L e x w' := by
  obtain ⟨i0, Kd⟩ := kindVl
  have HN := hid (wrNumber_any w S rb L e bound (by omega) h)
  have hrl := h.lt
  have HIt := hid HIt
  have HInv := hid hInv
  have H0 := hid h0
  have HX := hid hX
  have HS := hid hS
  have HKd := hid Kd
  clear h hInv h0 hX hS Kd
  go_enter Try.func147, Try.ntmps147
  go_wp2_with fail
  refine HN.out.mono ?_
  rintro x w1 ⟨m, R0, e1, rfl, ⟨hrr, hrd, hkp⟩, hm, hm0⟩
  have HRR := hid hrr
  have HRd := hid hrd
  have hkx : But X w w1 := hkp.mono fun k _ e => by subst e; exact hXr
  have HKp := hid hkp
  have HKx := hid hkx
  have hws := hkp.size
  clear hrr hrd hkp hkx HN
  by_cases he1 : e1 = 0
  · subst he1
    clear hm0
    go_wp2_with (at_make; refine wpList_make_own _ rfl _ _ 22 rfl w.heap.size 24 i0 (.agg #[.int .i64 0, .int .i64 0, .string ⟨#[]⟩, .slice none 0 0]) 4 HKd.out.ht HKd.out.hi HKd.out.hz HKd.out.hsize _ _ _ m rfl rfl rfl (by rw [HKd.out.hby]; omega) (by unfold maxLen; omega) (by omega) ?_)
    intro w2 ho2 hg2
    have hb2 : Below w1.heap.size w1 w2 := ⟨hg2.os, hg2.tape, hg2.output, hg2.size, fun k hk => hg2.block k hk (by simp)⟩
    have hst : ∀ g, LInv elVal Al item nx Inv X w S rb R0 s0 0 (.slice (some ⟨w1.heap.size, 0, none⟩) 0 m) w2 s0 g R0 [] := fun g => LInv.start g ho2 hg2 HRd.out HKx.out (HInv.out w w2 s0 H0.out (Nat.le_refl _) (by have := hg2.size; omega) (fun k hk hne => (hb2.block k (by omega)).trans (HKp.out.block k hk hne)))
    have HSt := hid hst
    clear ho2 hg2 hb2 hst
    go_wp2_with fail
    go_loopw [8, 15] (fun v x wr => ∃ (j : Nat) (s : σ) (g : Nat → VT) (R : List Int) (ys : List (VT)), j ≤ m ∧ x = .int .i64 (j : Int) ∧ LInv elVal Al item nx Inv X w S rb R0 s0 j v wr s g R ys) (fun _ x _ => m - (intOf x).toNat)
    case atStart => exact ⟨0, s0, fun _ => .nil, R0, [], Nat.zero_le _, rfl, HSt.out _⟩
    case round =>
      obtain ⟨j, s, g, R, ys, hj, rfl, hL⟩ := hrel
      have HL := hid hL
      clear hL
      by_cases hlt : j < m
      · have hlt' : (j : Int) < (m : Int) := by omega
        have HC := hid (HIt.out wr s R HL.out.kp HL.out.rd HL.out.inv)
        go_wp2_with fail
        refine HC.out.mono ?_
        rintro x w4 ⟨u, R', e', rfl, hu, hR⟩
        have hsz : w.heap.size ≤ w4.heap.size := Nat.le_trans HL.out.kp.size hR.kp.size
        have hrow : w4.ownsRow w.heap.size 24 4 u8 j ((List.range j).flatMap fun j => (elVal).cells (g j)) := ownsRow_keep HL.out.own.own fun k hk hl => hR.kp.block k hl (fun hx => by have := HX.out k hx; have := (HL.out.own.own.lt k hk).1; omega)
        have HU := hid hu
        have HR := hid hR
        have HRow := hid hrow
        clear hu hR hrow HC
        go_wp2_with (at_builtin; refine wpList_app rfl (.tmp 17) (.tmp 21) 22 24 i0 _ 4 56 HKd.out rfl w.heap.size u8 j _ rfl (HRow.out.alloc _) ⟨w4.heap.size, 0, none⟩ 1 1 ([.int .i64 u.kind, .int .i64 u.int, .string u.text, .slice u.p u.n u.c]) rfl rfl (news4 _ _ _ _ _ _) ((elVal).one u) (by omega) (by omega) (by simp; omega) ?_)
        intro v3 w3 ho3 hg3 hn3
        by_cases he' : e' = 0
        · subst he'
          obtain ⟨s2, ys2, hL2⟩ := HL.out.step HU.out HR.out HX.out HS.out hrl HInv.out ho3 hg3 hn3
          obtain ⟨⟨p2, hx2, hy2⟩, hout⟩ := id hL2.rd
          have y1 := hx2.cell 1
          simp at y1
          have HL2 := hid hL2
          clear ho3 hg3 hn3 hL2 hx2 hy2 HRow HU HR
          go_wp2
          go_roundw
          case rel => exact ⟨j + 1, s2, _, R', ys2, by omega, by go_num, HL2.out⟩
          case measure => simp [intOf]; omega
        · have hlt4 : ∀ k, u8.ownBlock = some k → w.heap.size ≤ k := fun k hk => (HRow.out.lt k hk).1
          have hal : Below w4.heap.size w4 (w4.alloc (.cells #[.int .i64 u.kind, .int .i64 u.int, .string u.text, .slice u.p u.n u.c] 24)) := (Below.refl _ _).alloc (Nat.le_refl _) _
          have hkb : ∀ k, k < w.heap.size → w3.heap[k]? = w4.heap[k]? := fun k hk => (hg3.block k (by have := hal.size; omega) (fun e => by have := hlt4 k e.symm; omega)).trans (hal.block k (by omega))
          have hs3 : w4.heap.size ≤ w3.heap.size := Nat.le_trans hal.size hg3.size
          have hrd3 : Rdr w3 S rb R' e' := by
            obtain ⟨⟨p, hx, hy⟩, hout⟩ := HR.out.rd
            exact ⟨⟨p, hx.kept (hkb rb hrl), hy.kept hs3 fun b hb _ => hkb b (HS.out b hb)⟩, hout⟩
          have hk3 : But X w w3 := ⟨hg3.os.trans (HR.out.kp.os.trans HL.out.kp.os), hg3.tape.trans (HR.out.kp.tape.trans HL.out.kp.tape), hg3.output.trans (HR.out.kp.output.trans HL.out.kp.output), by omega, fun k hk hx => (hkb k hk).trans ((HR.out.kp.block k (Nat.lt_of_lt_of_le hk HL.out.kp.size) hx).trans (HL.out.kp.block k hk hx))⟩
          have HF := hid (LInv.fail HL.out HR.out he' hlt HRR.out hk3 hrd3 (LT.In.none_ _ _ _ none 0 g (Nat.zero_le _) (fun _ => rfl)))
          obtain ⟨⟨p2, hx2, hy2⟩, hout⟩ := id hrd3
          have y1 := hx2.cell 1
          simp at y1
          have he2 : (e' == 0) = false := by simpa using he'
          clear ho3 hg3 hn3 hx2 hy2 HRow HU HR hlt4 hal hkb hs3 hrd3 hk3
          go_wp2
          go_ret
          exact HF.out
      · obtain rfl : j = m := by omega
        have hlt' : ¬ (j : Int) < (j : Int) := by omega
        have HF := hid (HL.out.done (by omega) HRR.out)
        go_wp2
        go_ret
        exact HF.out
  · obtain rfl := hm0 he1
    go_wp2_with (at_make; refine wpList_make_own _ rfl _ _ 22 rfl w.heap.size 24 i0 (.agg #[.int .i64 0, .int .i64 0, .string ⟨#[]⟩, .slice none 0 0]) 4 HKd.out.ht HKd.out.hi HKd.out.hz HKd.out.hsize _ _ _ 0 rfl rfl rfl (by omega) (by unfold maxLen; omega) (by omega) ?_)
    intro w2 ho2 hg2
    have hb2 : Below w1.heap.size w1 w2 := ⟨hg2.os, hg2.tape, hg2.output, hg2.size, fun k hk => hg2.block k hk (by simp)⟩
    have HF := hid (list_none (E := elVal) (Al := Al) (item := item) (nx := nx) (s0 := s0) (p := some ⟨w1.heap.size, 0, none⟩) (g := fun _ => .nil) he1 HRR.out (HRd.out.below hb2) (HKx.out.trans (But.ofBelow hb2)))
    clear ho2 hg2 hb2
    go_wp2_with fail
    go_loopw [8, 15] (fun v x wr => v = .slice (some ⟨w1.heap.size, 0, none⟩) 0 0 ∧ x = .int .i64 0 ∧ wr = w2) (fun _ x _ => 0 - (intOf x).toNat)
    case atStart => exact ⟨rfl, rfl, rfl⟩
    case round =>
      obtain ⟨rfl, rfl, rfl⟩ := hrel
      go_wp2
      go_ret
      exact HF.out
end Go.Proofs.Ytikfpoabaaiegaa

namespace Go.Proofs.Ytikfpoabaaiegaa
open Go.RowKit
set_option maxRecDepth 8000
theorem kindCe : ∃ i, Kind 28 154 i (.agg #[.string ⟨#[]⟩, .slice none 0 0]) 2 40 := by
  obtain ⟨i0, hi, hz0, hz1, hz2⟩ := info_parts (show (Try.prog.info? 154).map (fun i => (i.zero, i.size, i.bytes)) = some (some (.agg #[.string ⟨#[]⟩, .slice none 0 0]), 2, 40) by kernel_rfl)
  exact ⟨i0, Try.underlying28, hi, hz0, hz1, hz2, rfl, by decide⟩
set_option maxHeartbeats 4000000 in
theorem rlCell {σ : Type} (Al : VT → VT → Prop) (item : σ → RS (VT)) (nx : σ → VT → σ) (Inv : World → σ → Prop) (X : Nat → Prop) (s0 : σ) (w : World) (S : Nat → Prop) (rb : Nat) (L : List Int) (e : Int) (bound : Nat) (c0 : Nat) (hb : bound ≤ 1000) (hXr : X rb) (hX : ∀ k, X k → k < w.heap.size) (hS : ∀ b, S b → b < w.heap.size) (h0 : Inv w s0)
    (hInv : ∀ W W' s, Inv W s → w.heap.size ≤ W.heap.size → W.heap.size ≤ W'.heap.size → (∀ k, k < w.heap.size → k ≠ rb → W'.heap[k]? = W.heap[k]?) → Inv W' s)
    (HIt : ∀ W s R, But X w W → Rdr W S rb R 0 → Inv W s → Calls Try.prog 146 #[.pointer (some ⟨rb, 0, none⟩), .pointer (some ⟨c0, 0, none⟩)] W fun x W' => ItemP elCell (fun u => .agg #[.string u.text, .slice u.p u.n u.c]) Al item nx Inv X S rb s R W x W')
    (h : Rdr w S rb L e) : Calls Try.prog 145 #[.pointer (some ⟨rb, 0, none⟩), .int .i64 bound, .func (.func 146) #[] #[.pointer (some ⟨c0, 0, none⟩)]] w fun x w' => ListP elCell Al (listS bound item nx s0) X w S rb L e x w' := by
  obtain ⟨i0, Kd⟩ := kindCe
  have HN := hid (wrNumber_any w S rb L e bound (by omega) h)
  have hrl := h.lt
  have HIt := hid HIt
  have HInv := hid hInv
  have H0 := hid h0
  have HX := hid hX
  have HS := hid hS
  have HKd := hid Kd
  clear h hInv h0 hX hS Kd
  go_enter Try.func145, Try.ntmps145
  go_wp2_with fail
  refine HN.out.mono ?_
  rintro x w1 ⟨m, R0, e1, rfl, ⟨hrr, hrd, hkp⟩, hm, hm0⟩
  have HRR := hid hrr
  have HRd := hid hrd
  have hkx : But X w w1 := hkp.mono fun k _ e => by subst e; exact hXr
  have HKp := hid hkp
  have HKx := hid hkx
  have hws := hkp.size
  clear hrr hrd hkp hkx HN
  by_cases he1 : e1 = 0
  · subst he1
    clear hm0
    go_wp2_with (at_make; refine wpList_make_own _ rfl _ _ 28 rfl w.heap.size 154 i0 (.agg #[.string ⟨#[]⟩, .slice none 0 0]) 2 HKd.out.ht HKd.out.hi HKd.out.hz HKd.out.hsize _ _ _ m rfl rfl rfl (by rw [HKd.out.hby]; omega) (by unfold maxLen; omega) (by omega) ?_)
    intro w2 ho2 hg2
    have hb2 : Below w1.heap.size w1 w2 := ⟨hg2.os, hg2.tape, hg2.output, hg2.size, fun k hk => hg2.block k hk (by simp)⟩
    have hst : ∀ g, LInv elCell Al item nx Inv X w S rb R0 s0 0 (.slice (some ⟨w1.heap.size, 0, none⟩) 0 m) w2 s0 g R0 [] := fun g => LInv.start g ho2 hg2 HRd.out HKx.out (HInv.out w w2 s0 H0.out (Nat.le_refl _) (by have := hg2.size; omega) (fun k hk hne => (hb2.block k (by omega)).trans (HKp.out.block k hk hne)))
    have HSt := hid hst
    clear ho2 hg2 hb2 hst
    go_wp2_with fail
    go_loopw [8, 15] (fun v x wr => ∃ (j : Nat) (s : σ) (g : Nat → VT) (R : List Int) (ys : List (VT)), j ≤ m ∧ x = .int .i64 (j : Int) ∧ LInv elCell Al item nx Inv X w S rb R0 s0 j v wr s g R ys) (fun _ x _ => m - (intOf x).toNat)
    case atStart => exact ⟨0, s0, fun _ => .nil, R0, [], Nat.zero_le _, rfl, HSt.out _⟩
    case round =>
      obtain ⟨j, s, g, R, ys, hj, rfl, hL⟩ := hrel
      have HL := hid hL
      clear hL
      by_cases hlt : j < m
      · have hlt' : (j : Int) < (m : Int) := by omega
        have HC := hid (HIt.out wr s R HL.out.kp HL.out.rd HL.out.inv)
        go_wp2_with fail
        refine HC.out.mono ?_
        rintro x w4 ⟨u, R', e', rfl, hu, hR⟩
        have hsz : w.heap.size ≤ w4.heap.size := Nat.le_trans HL.out.kp.size hR.kp.size
        have hrow : w4.ownsRow w.heap.size 154 2 u8 j ((List.range j).flatMap fun j => (elCell).cells (g j)) := ownsRow_keep HL.out.own.own fun k hk hl => hR.kp.block k hl (fun hx => by have := HX.out k hx; have := (HL.out.own.own.lt k hk).1; omega)
        have HU := hid hu
        have HR := hid hR
        have HRow := hid hrow
        clear hu hR hrow HC
        go_wp2_with (at_builtin; refine wpList_app rfl (.tmp 17) (.tmp 21) 28 154 i0 _ 2 40 HKd.out rfl w.heap.size u8 j _ rfl (HRow.out.alloc _) ⟨w4.heap.size, 0, none⟩ 1 1 ([.string u.text, .slice u.p u.n u.c]) rfl rfl (fun j x hx => by rw [cell_new, ← hx]; simp) ((elCell).one u) (by omega) (by omega) (by simp; omega) ?_)
        intro v3 w3 ho3 hg3 hn3
        by_cases he' : e' = 0
        · subst he'
          obtain ⟨s2, ys2, hL2⟩ := HL.out.step HU.out HR.out HX.out HS.out hrl HInv.out ho3 hg3 hn3
          obtain ⟨⟨p2, hx2, hy2⟩, hout⟩ := id hL2.rd
          have y1 := hx2.cell 1
          simp at y1
          have HL2 := hid hL2
          clear ho3 hg3 hn3 hL2 hx2 hy2 HRow HU HR
          go_wp2
          go_roundw
          case rel => exact ⟨j + 1, s2, _, R', ys2, by omega, by go_num, HL2.out⟩
          case measure => simp [intOf]; omega
        · have hlt4 : ∀ k, u8.ownBlock = some k → w.heap.size ≤ k := fun k hk => (HRow.out.lt k hk).1
          have hal : Below w4.heap.size w4 (w4.alloc (.cells #[.string u.text, .slice u.p u.n u.c] 154)) := (Below.refl _ _).alloc (Nat.le_refl _) _
          have hkb : ∀ k, k < w.heap.size → w3.heap[k]? = w4.heap[k]? := fun k hk => (hg3.block k (by have := hal.size; omega) (fun e => by have := hlt4 k e.symm; omega)).trans (hal.block k (by omega))
          have hs3 : w4.heap.size ≤ w3.heap.size := Nat.le_trans hal.size hg3.size
          have hrd3 : Rdr w3 S rb R' e' := by
            obtain ⟨⟨p, hx, hy⟩, hout⟩ := HR.out.rd
            exact ⟨⟨p, hx.kept (hkb rb hrl), hy.kept hs3 fun b hb _ => hkb b (HS.out b hb)⟩, hout⟩
          have hk3 : But X w w3 := ⟨hg3.os.trans (HR.out.kp.os.trans HL.out.kp.os), hg3.tape.trans (HR.out.kp.tape.trans HL.out.kp.tape), hg3.output.trans (HR.out.kp.output.trans HL.out.kp.output), by omega, fun k hk hx => (hkb k hk).trans ((HR.out.kp.block k (Nat.lt_of_lt_of_le hk HL.out.kp.size) hx).trans (HL.out.kp.block k hk hx))⟩
          have HF := hid (LInv.fail HL.out HR.out he' hlt HRR.out hk3 hrd3 (LT.In.none_ _ _ _ none 0 g (Nat.zero_le _) (fun _ => rfl)))
          obtain ⟨⟨p2, hx2, hy2⟩, hout⟩ := id hrd3
          have y1 := hx2.cell 1
          simp at y1
          have he2 : (e' == 0) = false := by simpa using he'
          clear ho3 hg3 hn3 hx2 hy2 HRow HU HR hlt4 hal hkb hs3 hrd3 hk3
          go_wp2
          go_ret
          exact HF.out
      · obtain rfl : j = m := by omega
        have hlt' : ¬ (j : Int) < (j : Int) := by omega
        have HF := hid (HL.out.done (by omega) HRR.out)
        go_wp2
        go_ret
        exact HF.out
  · obtain rfl := hm0 he1
    go_wp2_with (at_make; refine wpList_make_own _ rfl _ _ 28 rfl w.heap.size 154 i0 (.agg #[.string ⟨#[]⟩, .slice none 0 0]) 2 HKd.out.ht HKd.out.hi HKd.out.hz HKd.out.hsize _ _ _ 0 rfl rfl rfl (by omega) (by unfold maxLen; omega) (by omega) ?_)
    intro w2 ho2 hg2
    have hb2 : Below w1.heap.size w1 w2 := ⟨hg2.os, hg2.tape, hg2.output, hg2.size, fun k hk => hg2.block k hk (by simp)⟩
    have HF := hid (list_none (E := elCell) (Al := Al) (item := item) (nx := nx) (s0 := s0) (p := some ⟨w1.heap.size, 0, none⟩) (g := fun _ => .nil) he1 HRR.out (HRd.out.below hb2) (HKx.out.trans (But.ofBelow hb2)))
    clear ho2 hg2 hb2
    go_wp2_with fail
    go_loopw [8, 15] (fun v x wr => v = .slice (some ⟨w1.heap.size, 0, none⟩) 0 0 ∧ x = .int .i64 0 ∧ wr = w2) (fun _ x _ => 0 - (intOf x).toNat)
    case atStart => exact ⟨rfl, rfl, rfl⟩
    case round =>
      obtain ⟨rfl, rfl, rfl⟩ := hrel
      go_wp2
      go_ret
      exact HF.out
end Go.Proofs.Ytikfpoabaaiegaa

namespace Go.Proofs.Ytikfpoabaaiegaa
open Go.RowKit
set_option maxRecDepth 8000

def firstC (g : Nat → Nat) : Nat → Nat
  | 0 => 0
  | j + 1 => if firstC g j = 0 then g j else firstC g j
def chkLoop (x : Int) : Nat := if x < 0 ∨ 9 < x then 25 else 0
def chkRec (r : RT) : Nat := if 12 < r.key.size then 24 else if (chk r.v 0 0).1 ≠ 0 then (chk r.v 0 0).1 else if 3 < r.n then 25 else firstC (fun j => chkLoop (r.loop j)) r.n
def chkVals (t : VT) : Nat := if 6 < t.n then 27 else firstC (fun q => (chk (t.item q) 0 0).1) t.n
def chkCell (f : Nat → VT) (j : Nat) : Nat := if 12 < (f j).text.size then 24 else if 0 < j ∧ Op.bytesLess (f (j - 1)).text.toList (f j).text.toList = false then 27 else chkVals (f j)
def chkState (s : ST) : Nat := if s.num < 0 ∨ 1073741824 < s.num then 26 else if 64 < s.n then 27 else firstC (chkCell s.cell) s.n

theorem le_not_lt : ∀ x y : List UInt8, (Op.bytesLess x y || x == y) = !Op.bytesLess y x
  | [], [] => rfl
  | [], _ :: _ => rfl
  | _ :: _, [] => rfl
  | a :: x, b :: y => by
    have ih := le_not_lt x y
    rcases Nat.lt_trichotomy a.toNat b.toNat with h | h | h
    · have h1 : a < b := h
      have h2 : ¬ b < a := fun h2 => by have : b.toNat < a.toNat := h2; omega
      have h3 : ¬ a = b := fun e => by rw [e] at h; omega
      have h4 : ¬ b = a := fun e => h3 e.symm
      simp [Op.bytesLess, h1, h2, h4]
    · have e : a = b := UInt8.toNat_inj.1 h
      subst e
      have h1 : ¬ a < a := fun h2 => by have : a.toNat < a.toNat := h2; omega
      simp [Op.bytesLess, h1]
      simpa using ih
    · have h1 : b < a := h
      have h2 : ¬ a < b := fun h2 => by have : a.toNat < b.toNat := h2; omega
      have h3 : ¬ a = b := fun e => by rw [e] at h; omega
      simp [Op.bytesLess, h1, h2, h3]
end Go.Proofs.Ytikfpoabaaiegaa

namespace Go.Proofs.Ytikfpoabaaiegaa
open Go.RowKit
set_option maxRecDepth 8000

def Rise (c0 c1 : Nat) (W : World) (s : Option ByteArray) : Prop := ∃ l, Box W c0 #[.bool s.isSome] 4 ∧ Box W c1 #[.string l] 9 ∧ ∀ l', s = some l' → l = l'
def X3 (rb c0 c1 : Nat) : Nat → Prop := fun y => y = rb ∨ y = c0 ∨ y = c1
theorem Rise.kept {c0 c1 : Nat} {W W' : World} {s : Option ByteArray} (h : Rise c0 c1 W s) (h0 : W'.heap[c0]? = W.heap[c0]?) (h1 : W'.heap[c1]? = W.heap[c1]?) : Rise c0 c1 W' s := by
  obtain ⟨l, a, b, c⟩ := h
  exact ⟨l, a.kept h0, b.kept h1, c⟩
def KeyX (s : RS ByteArray) (X : Nat → Prop) (ok : World → ByteArray → Prop) (w : World) (S : Nat → Prop) (rb : Nat) (L : List Int) (e : Int) (x : Ending) (w' : World) : Prop :=
  ∃ (k : ByteArray) (R : List Int) (e' : Int), x = .returned (.string k) ∧ RdX s (fun y => k = y ∧ ok w' y) X w S rb L e R e' w' ∧ k.size ≤ 1000
set_option maxHeartbeats 4000000 in
theorem rise_any (w : World) (S : Nat → Prop) (rb c0 c1 : Nat) (L : List Int) (e : Int) (s : Option ByteArray) (hI : Rise c0 c1 w s) (hn : c0 ≠ c1) (hr0 : c0 ≠ rb) (hr1 : c1 ≠ rb) (hS0 : ¬ S c0) (hS1 : ¬ S c1) (h : Rdr w S rb L e) :
    Calls Try.prog 157 #[.pointer (some ⟨rb, 0, none⟩), .pointer (some ⟨c0, 0, none⟩), .pointer (some ⟨c1, 0, none⟩)] w fun x w' => KeyX (riseS s) (X3 rb c0 c1) (fun w' y => Rise c0 c1 w' (some y)) w S rb L e x w' := by
  have HK := hid (wrKey_any w S rb L e h)
  obtain ⟨l, hb0, hb1, hl⟩ := hI
  have H0 := hid hb0
  have H1 := hid hb1
  have Hl := hid hl
  clear h hb0 hb1 hl
  go_enter Try.func157, Try.ntmps157
  go_wp2_with fail
  refine HK.out.mono ?_
  rintro x w1 ⟨k, R, e1, rfl, ⟨hr, hd, hk⟩, hks⟩
  have g0 := H0.out.but hk hr0
  have g1 := H1.out.but hk hr1
  have x0 := g0.cell 0
  have x1 := g1.cell 0
  have f0 := g0.frozen 0
  have f1 := g1.frozen 0
  simp at x0 x1
  have hle := le_not_lt k.toList l.toList
  -- what is left behind the two writes
  have fin : ∀ (W : World) (e2 : Int), But (fun y => y = rb) w1 W → Rdr W S rb R e2 → RR (riseS s) (fun y => k = y) L e R e2 → KeyX (riseS s) (X3 rb c0 c1) (fun w' y => Rise c0 c1 w' (some y)) w S rb L e (.returned (.string k)) ((W.setCell ⟨c1, 0, none⟩ (.string k)).setCell ⟨c0, 0, none⟩ (.bool true)) := by
    intro W e2 hW hdW hrr
    have a0 := g0.but hW hr0
    have a1 := g1.but hW hr1
    have b1 : Box ((W.setCell ⟨c1, 0, none⟩ (.string k)).setCell ⟨c0, 0, none⟩ (.bool true)) c1 #[.string k] 9 := (a1.set 0 (.string k)).kept (Below.heap_setCell _ _ _ _ (show c1 ≠ c0 from hn.symm))
    have b0 : Box ((W.setCell ⟨c1, 0, none⟩ (.string k)).setCell ⟨c0, 0, none⟩ (.bool true)) c0 #[.bool true] 4 := (a0.kept (Below.heap_setCell _ _ _ _ (show c0 ≠ c1 from hn))).set 0 (.bool true)
    have hkk : But (X3 rb c0 c1) W ((W.setCell ⟨c1, 0, none⟩ (.string k)).setCell ⟨c0, 0, none⟩ (.bool true)) := ((But.refl _ W).setCell (p := ⟨c1, 0, none⟩) (fun _ => Or.inr (Or.inr rfl)) _).setCell (p := ⟨c0, 0, none⟩) (fun _ => Or.inr (Or.inl rfl)) _
    have hkk2 : But (fun y => y = c0 ∨ y = c1) W ((W.setCell ⟨c1, 0, none⟩ (.string k)).setCell ⟨c0, 0, none⟩ (.bool true)) := ((But.refl _ W).setCell (p := ⟨c1, 0, none⟩) (fun _ => Or.inr rfl) _).setCell (p := ⟨c0, 0, none⟩) (fun _ => Or.inl rfl) _
    refine ⟨k, R, e2, rfl, ⟨hrr.mono fun _ y hy => ⟨hy, ?_⟩, hdW.but hkk2 (by omega) (fun b hb _ he => ?_), ((hk.trans hW).mono (fun b _ hb => Or.inl hb)).trans hkk⟩, hks⟩
    · subst hy
      exact ⟨k, b0, b1, fun l' hl' => by cases hl'; rfl⟩
    · rcases he with rfl | rfl
      · exact hS0 hb
      · exact hS1 hb
  have FIN := hid fin
  have HG0 := hid g0
  have HG1 := hid g1
  have HR := hid hr
  have HD := hid hd
  clear fin hr hk HK g0 g1
  cases hs : s with
  | none =>
    subst hs
    simp only [Option.isSome_none] at x0
    have hrr : RR (riseS none) (fun y => k = y) L e R e1 := HR.out.bind (fun y hy _ => by subst hy; rw [if_pos rfl]; exact RR.ret fun _ => rfl) (fun _ => rfl)
    have HF := hid (FIN.out w1 e1 (But.refl _ _) hd hrr)
    clear FIN HR HD hd hrr
    go_wp2
    go_ret
    exact HF.out
  | some l' =>
    subst hs
    simp only [Option.isSome_some] at x0
    obtain rfl : l = l' := Hl.out l' rfl
    cases hq : Op.bytesLess l.toList k.toList with
    | true =>
      rw [hq] at hle
      have hle' : (Op.bytesLess k.toList l.toList || k.toList == l.toList) = false := hle
      have hrr : RR (riseS (some l)) (fun y => k = y) L e R e1 := HR.out.bind (fun y hy _ => by subst hy; rw [if_pos hq]; exact RR.ret fun _ => rfl) (fun _ => rfl)
      have HF := hid (FIN.out w1 e1 (But.refl _ _) hd hrr)
      clear FIN HR HD hd hrr hle hq
      go_wp2
      go_ret
      exact HF.out
    | false =>
      rw [hq] at hle
      have hle' : (Op.bytesLess k.toList l.toList || k.toList == l.toList) = true := hle
      have HFa := hid (wrFail_any w1 S rb R e1 42 hd)
      have HQ := hid hq
      clear hd hle hq
      go_wp2_with fail
      refine HFa.out.mono ?_
      rintro x w2 ⟨rfl, hd2, hk2⟩
      have hrr : RR (riseS (some l)) (fun y => k = y) L e R (if e1 = 0 then 42 else e1) := HR.out.bind (fun y hy h1 => by
        subst hy
        rw [if_neg (show ¬ Op.bytesLess l.toList k.toList = true by rw [HQ.out]; decide), h1, if_pos rfl]
        exact RR.err (k := 42) rfl rfl (by decide)) (fun h1 => by rw [if_neg h1])
      have HF := hid (FIN.out w2 _ hk2 hd2 hrr)
      have g0 := HG0.out.but hk2 hr0
      have g1 := HG1.out.but hk2 hr1
      have y0 := g0.cell 0
      have y1 := g1.cell 0
      have q0 := g0.frozen 0
      have q1 := g1.frozen 0
      simp at y0 y1
      clear g0 g1 hd2 hk2 HFa hrr FIN HR HD x0 x1 f0 f1 hle'
      go_wp2
      go_ret
      exact HF.out
theorem rise_item (S : Nat → Prop) (rb c0 c1 : Nat) (W : World) (s : Option ByteArray) (R : List Int) (hI : Rise c0 c1 W s) (hn : c0 ≠ c1) (hr0 : c0 ≠ rb) (hr1 : c1 ≠ rb) (hS0 : ¬ S c0) (hS1 : ¬ S c1) (h : Rdr W S rb R 0) :
    Calls Try.prog 157 #[.pointer (some ⟨rb, 0, none⟩), .pointer (some ⟨c0, 0, none⟩), .pointer (some ⟨c1, 0, none⟩)] W fun x W' => ItemP elStr (fun u => .string u) (fun y u => u = y) riseS (fun _ k => some k) (Rise c0 c1) (X3 rb c0 c1) S rb s R W x W' := by
  refine (rise_any W S rb c0 c1 R 0 s hI hn hr0 hr1 hS0 hS1 h).mono ?_
  rintro x w1 ⟨k, R1, e1, rfl, ⟨hr, hd, hk⟩, hks⟩
  exact ⟨k, R1, e1, rfl, (show k.size ≤ 140737488355328 by omega), hr, hd, hk⟩
theorem val_item (S : Nat → Prop) (rb : Nat) (W : World) (R : List Int) (hS : ∀ b, S b → b < W.heap.size) (h : Rdr W S rb R 0) : Calls Try.prog 128 #[.pointer (some ⟨rb, 0, none⟩)] W fun x W' => ItemP elVal (fun u => .agg #[.int .i64 u.kind, .int .i64 u.int, .string u.text, .slice u.p u.n u.c]) VT.Alike (fun _ : Unit => valS) (fun _ _ => ()) (fun _ _ => True) (fun y => y = rb) S rb () R W x W' := by
  refine (wrValue_any W S rb R 0 hS h).mono ?_
  rintro x w1 ⟨r, R1, e1, rfl, hin, ⟨hr, hd, hk⟩⟩
  exact ⟨r, R1, e1, rfl, hin, hr.mono fun _ y hy => ⟨hy, trivial⟩, hd, hk⟩
theorem vals_list (w : World) (S : Nat → Prop) (rb : Nat) (L : List Int) (e : Int) (hS : ∀ b, S b → b < w.heap.size) (h : Rdr w S rb L e) : Calls Try.prog 147 #[.pointer (some ⟨rb, 0, none⟩), .int .i64 6, .func (.func 128) #[] #[]] w fun x w' => ListP elVal VT.Alike valsS (fun y => y = rb) w S rb L e x w' :=
  rlVal VT.Alike (fun _ : Unit => valS) (fun _ _ => ()) (fun _ _ => True) (fun y => y = rb) () w S rb L e 6 (by omega) rfl (fun k hk => by subst hk; exact h.lt) hS trivial (fun _ _ _ _ _ _ _ => trivial) (fun W _ R hk hr _ => val_item S rb W R (fun b hb => Nat.lt_of_lt_of_le (hS b hb) hk.size) hr) h
theorem in_cell {w : World} {S : Nat → Prop} {k : ByteArray} {l : LT VT} (h : LT.In elVal w S l) (hk : k.size ≤ 1000) : VT.In w S (.mk 0 0 k l.n l.p l.c l.item) := by
  refine ⟨⟨by simp only [VT.kind_mk]; decide, by simp only [VT.kind_mk]; decide, by simp only [VT.int_mk]; decide, by simp only [VT.int_mk]; decide, by simp only [VT.text_mk]; omega, h.nc, h.nn, h.cc, h.nil⟩, fun hn => ?_, h.each⟩
  obtain ⟨b, o, e, hS, hl, ha⟩ := h.at_ hn
  refine ⟨b, o, e, hS, hl, fun j hj => ?_⟩
  have hc : ∀ r u, (l.item j).cells[r]? = some u → w.cell? ⟨b, o + j * 4 + r, none⟩ = some u := ha j hj
  exact ⟨hc 0 _ rfl, hc 1 _ rfl, hc 2 _ rfl, hc 3 _ rfl⟩
end Go.Proofs.Ytikfpoabaaiegaa
