import Derived.Test.YtpknlbibijheaabPack21
import Derived.Test.YtpknlbibijheaabDmI
namespace Go.Proofs.Ytpknlbibijheaab
open Go.RowKit
set_option maxRecDepth 8000
theorem below1 (w : World) (a : Obj) : Below w.heap.size w (w.alloc a) := (Below.refl _ _).alloc (Nat.le_refl _) _
theorem below2 (w : World) (a b : Obj) : Below w.heap.size w ((w.alloc a).alloc b) := ((Below.refl _ _).alloc (Nat.le_refl _) _).alloc (by simp) _
theorem step_callG {ops : Array Oper} {o : Oper} {a : Act} {w : World} {K : Act → World → Prop} {Q : Exit → Act → World → Prop} {E : Prop}
    (hw : Region.wanted o (yielded ops a.tmps) = true) (f : Nat) (xs : Array Operand) (ts : Array TypeId) (hop : o.op = Op.call { callee := Callee.value (Operand.func f), args := xs, argTypes := ts })
    (F : Func) (hF : Try.prog.funcs[f]? = some F) (hN : (F.name == "runtime.NumGoroutine") = false) (hB : F.body.isNone = false) (vs : Array Value) (hvl : xs.toList.map a.eval = vs.toList) (R : Ending → World → Prop) (hC : Calls Try.prog f vs w R) (hK : ∀ e w', R e w' → ∃ v, e = .returned v ∧ K (a.put o.dst v) w') :
    if Region.wanted o (yielded ops a.tmps) = true then Oper.wp Try.prog o a w K Q else E := by
  rw [if_pos hw]
  have hvs : xs.map a.eval = vs := by
    obtain ⟨xl⟩ := xs
    obtain ⟨vl⟩ := vs
    simp only at hvl
    rw [List.map_toArray, hvl]
  have hrun : (execOp a.eval o).run Try.prog w = .ok (.enter f vs) w := by
    have h1 : ¬ F.name = "runtime.NumGoroutine" := by simpa using hN
    have h2 : ¬ F.body = none := by intro h; rw [h] at hB; cases hB
    simp [execOp, hop, resolve, invoke, hvs, Deferred.ofValue, Act.eval, callFunc, Result.andThen, go_sem, hF, h1, h2]
  unfold Oper.wp
  rw [hrun, Oper.upon_enter]
  refine hC.mono fun e w' h => ?_
  obtain ⟨v, rfl, hk⟩ := hK e w' h
  exact hk
/-- texts in a row of the call's own -/
def StRow (base : Nat) (w : World) (v : Value) (xs : List ByteArray) : Prop := w.ownsRow base 9 1 v xs.length (xs.map Value.string)
theorem StRow.nil (base : Nat) (w : World) : StRow base w (.slice none 0 0) [] := World.ownsRow_nil _ _ _ _
theorem StRow.below {base : Nat} {w w' : World} {v : Value} {xs : List ByteArray} (h : StRow base w v xs) (hb : Below w.heap.size w w') : StRow base w' v xs := ownsRow_keep h fun g _ hl => hb.block g hl
theorem StRow.mono {base base' : Nat} {w : World} {v : Value} {xs : List ByteArray} (h : StRow base w v xs) (hb : base' ≤ base) : StRow base' w v xs := ownsRow_mono h hb
theorem StRow.push {base : Nat} {w : World} {v : Value} {xs : List ByteArray} {x : ByteArray} (h : w.ownsRow base 9 1 v (xs.length + 1) (xs.map Value.string ++ [.string x])) : StRow base w v (xs ++ [x]) := by
  unfold StRow
  rw [List.length_append, List.map_append]
  exact h
theorem StRow.app {base n : Nat} {w : World} {v : Value} {xs ys : List ByteArray} (hn : n = ys.length) (h : w.ownsRow base 9 1 v (xs.length + n) (xs.map Value.string ++ ys.map Value.string)) : StRow base w v (xs ++ ys) := by
  unfold StRow
  rw [List.length_append, List.map_append, ← hn]
  exact h
theorem StRow.at_ {base : Nat} {w : World} {p : Option Addr} {n c : Nat} {xs : List ByteArray} (h : StRow base w (.slice p n c) xs) (h0 : 0 < xs.length) : ∃ g, p = some ⟨g, 0, none⟩ ∧ g < w.heap.size ∧ ∀ (j : Nat) (x : ByteArray), xs[j]? = some x → w.cell? ⟨g, j, none⟩ = some (.string x) := by
  have hlt := h.lt
  have hce := @World.ownsRow.cells _ _ _ _ _ _ _ h
  obtain ⟨_, ⟨hv, h1⟩ | ⟨gb, cap, cur, hv, hbg, hh, hc, _⟩⟩ := id h
  · omega
  · cases hv
    refine ⟨gb, rfl, (hlt gb rfl).2, fun j x hx => ?_⟩
    have := hce (g := gb) rfl j (.string x) (by rw [List.getElem?_map, hx]; rfl)
    rw [Go.WideShapes.add_plain, Nat.zero_add] at this
    exact this
theorem newsS1 (w : World) (y : ByteArray) : ∀ j' u', [Value.string y][j']? = some u' → (w.alloc (.cells #[.string y] 9)).cell? ((⟨w.heap.size, 0, none⟩ : Addr).add j') = some u' := fun j' u' hu => by
  rw [Go.WideShapes.add_plain, (Box.new w #[.string y] 9).cell]
  rw [show 0 + j' = j' by omega]
  simpa using hu
theorem strs_flat (l : LT ByteArray) : ((List.range l.n).flatMap fun j => elStr.cells (l.item j)) = l.toL.map Value.string := by
  unfold LT.toL
  rw [List.map_map]
  generalize List.range l.n = r
  induction r with
  | nil => rfl
  | cons a t ih => rw [List.flatMap_cons, List.map_cons, ih]; rfl
theorem oneStr (xs : List ByteArray) : ∀ u ∈ xs.map Value.string, u.oneCell' = true := by
  intro u hu
  obtain ⟨x, _, rfl⟩ := List.mem_map.1 hu
  rfl
/-- the keys of the first k cells -/
def keysTo (l : LT VT) (k : Nat) : List ByteArray := (List.range k).map fun j => (l.item j).text
theorem keysTo_succ (l : LT VT) (k : Nat) : keysTo l (k + 1) = keysTo l k ++ [(l.item k).text] := by simp [keysTo, List.range_succ]
theorem keysTo_len (l : LT VT) (k : Nat) : (keysTo l k).length = k := by simp [keysTo]
theorem keysTo_all (l : LT VT) : keysTo l l.n = l.toL.map VT.text := by simp [keysTo, LT.toL]
/-- all keys -/
def allK (a b : LT VT) (c d : LT ByteArray) : List ByteArray := ((a.toL.map VT.text ++ b.toL.map VT.text) ++ c.toL) ++ d.toL
def lenV : Value → Nat
  | .slice _ n _ => n
  | _ => 0
theorem lenV_slice (p : Option Addr) (n c : Nat) : lenV (.slice p n c) = n := rfl
set_option maxHeartbeats 16000000 in
theorem rkeys_any (a b : LT VT) (c d : LT ByteArray) (w : World) (S : Nat → Prop) (ha : LT.In elCell w S a) (hb : LT.In elCell w S b) (hc : LT.In elStr w S c) (hd : LT.In elStr w S d) (hn : a.n ≤ 10000 ∧ b.n ≤ 10000 ∧ c.n ≤ 10000 ∧ d.n ≤ 10000) :
    Calls Try.prog 21 #[.slice a.p a.n a.c, .slice b.p b.n b.c, .slice c.p c.n c.c, .slice d.p d.n d.c] w fun e w' => ∃ v K, e = .returned v ∧ KysAll (allK a b c d) K ∧ StRow w.heap.size w' v K ∧ Below w.heap.size w w' := by
  obtain ⟨n1, n2, n3, n4⟩ := hn
  obtain ⟨i0, Kd⟩ := kindS
  have HKd := hid Kd
  have HA := hid ha
  have HBb := hid hb
  have HC := hid hc
  have HD := hid hd
  clear ha hb hc hd Kd
  go_enter Try.func21, Try.ntmps21
  go_wp2_with fail
  go_loopw [9, 10] (fun x y wr => ∃ k : Nat, k ≤ a.n ∧ y = .int .i64 (k : Int) ∧ StRow w.heap.size wr x (keysTo a k) ∧ Below w.heap.size w wr) (fun _ y _ => a.n - (intOf y).toNat)
  case atStart => exact ⟨0, Nat.zero_le _, rfl, StRow.nil _ _, Below.refl _ _⟩
  case round =>
    obtain ⟨k, hk, rfl, hR, hB⟩ := hrel
    have HR := hid hR
    have HB := hid hB
    clear hR hB
    by_cases hlt : k < a.n
    · have hlt' : (k : Int) < (a.n : Int) := by omega
      obtain ⟨b1, o1, hp, _, hl1, hx⟩ := (HA.out.below HB.out).at_ (by omega)
      have a0 : wr.cell? ⟨b1, o1 + k * 2, none⟩ = some (.string (a.item k).text) := hx k hlt 0 _ rfl
      obtain ⟨A, hA⟩ : ∃ A, A = keysTo a k := ⟨_, rfl⟩
      have hAl : A.length ≤ 20000 := by rw [hA]; simp [keysTo_len]; omega
      rw [← hA] at HR
      have HE : Hid (keysTo a (k + 1) = A ++ [(a.item k).text]) := by show _ = _; rw [keysTo_succ, hA]
      rw [hp]
      obtain ⟨px, cx, hvx⟩ := ownsRow_slice HR.out
      subst hvx
      clear hx hp hA
      go_wp2_with (at_builtin; refine wpList_app rfl (.tmp 23) (.tmp 29) 27 9 i0 _ 1 16 HKd.out rfl w.heap.size (.slice px A.length cx) A.length _ rfl (World.ownsRow.alloc HR.out _) ⟨wr.heap.size, 0, none⟩ 1 1 [.string (a.item k).text] rfl rfl (newsS1 wr _) (by simp [Value.oneCell']) (by omega) (by omega) (by have := HB.out.size; simp; omega) ?_)
      intro v5 w5 ho5 hg5 hn5
      obtain ⟨p5, c5, rfl⟩ := ownsRow_slice ho5
      have HR5 : Hid (StRow w.heap.size w5 (.slice p5 (A.length + 1) c5) (A ++ [(a.item k).text])) := StRow.push ho5
      have HB5 : Hid (Below w.heap.size w w5) := (HB.out.trans ((below1 wr _).mono HB.out.size)).grown hg5 (by have := HB.out.size; simp; omega) (fun q hq => (HR.out.lt q hq).1)
      clear ho5 hg5 hn5
      go_wp2
      go_roundw
      case rel => exact ⟨k + 1, by omega, by go_num, by rw [HE.out]; exact HR5.out, HB5.out⟩
      case measure => simp [intOf]; omega
    · obtain rfl : k = a.n := by omega
      rw [keysTo_all] at HR
      have HR1 := HR
      have HW1 := HB
      clear HR HB
      obtain ⟨wq, hwq⟩ : ∃ x, x = wr := ⟨_, rfl⟩
      subst hwq
      go_wp2_with fail
      go_loopw [9, 11] (fun x y wr => ∃ k : Nat, k ≤ b.n ∧ y = .int .i64 (k : Int) ∧ StRow w.heap.size wr x (a.toL.map VT.text ++ keysTo b k) ∧ Below w.heap.size w wr) (fun _ y _ => b.n - (intOf y).toNat)
      case atStart => exact ⟨0, Nat.zero_le _, rfl, by rw [show keysTo b 0 = [] from rfl, List.append_nil]; exact HR1.out, HW1.out⟩
      case round =>
        obtain ⟨k, hk, rfl, hR, hB⟩ := hrel
        have HR := hid hR
        have HB := hid hB
        clear hR hB
        by_cases hlt : k < b.n
        · have hlt' : (k : Int) < (b.n : Int) := by omega
          obtain ⟨b1, o1, hp, _, hl1, hx⟩ := (HBb.out.below HB.out).at_ (by omega)
          have a0 : wr.cell? ⟨b1, o1 + k * 2, none⟩ = some (.string (b.item k).text) := hx k hlt 0 _ rfl
          obtain ⟨A, hA⟩ : ∃ A, A = a.toL.map VT.text ++ keysTo b k := ⟨_, rfl⟩
          have hAl : A.length ≤ 20000 := by rw [hA]; simp [keysTo_len, LT.toL_len]; omega
          rw [← hA] at HR
          have HE : Hid (a.toL.map VT.text ++ keysTo b (k + 1) = A ++ [(b.item k).text]) := by show _ = _; rw [keysTo_succ, hA]; rw [List.append_assoc]
          rw [hp]
          obtain ⟨px, cx, hvx⟩ := ownsRow_slice HR.out
          subst hvx
          clear hx hp hA
          go_wp2_with (at_builtin; refine wpList_app rfl (.tmp 37) (.tmp 43) 27 9 i0 _ 1 16 HKd.out rfl w.heap.size (.slice px A.length cx) A.length _ rfl (World.ownsRow.alloc HR.out _) ⟨wr.heap.size, 0, none⟩ 1 1 [.string (b.item k).text] rfl rfl (newsS1 wr _) (by simp [Value.oneCell']) (by omega) (by omega) (by have := HB.out.size; simp; omega) ?_)
          intro v5 w5 ho5 hg5 hn5
          obtain ⟨p5, c5, rfl⟩ := ownsRow_slice ho5
          have HR5 : Hid (StRow w.heap.size w5 (.slice p5 (A.length + 1) c5) (A ++ [(b.item k).text])) := StRow.push ho5
          have HB5 : Hid (Below w.heap.size w w5) := (HB.out.trans ((below1 wr _).mono HB.out.size)).grown hg5 (by have := HB.out.size; simp; omega) (fun q hq => (HR.out.lt q hq).1)
          clear ho5 hg5 hn5
          go_wp2
          go_roundw
          case rel => exact ⟨k + 1, by omega, by go_num, by rw [HE.out]; exact HR5.out, HB5.out⟩
          case measure => simp [intOf]; omega
        · obtain rfl : k = b.n := by omega
          rw [keysTo_all] at HR
          obtain ⟨W2, hW2⟩ : ∃ x, x = wr := ⟨_, rfl⟩
          subst hW2
          obtain ⟨A, hA⟩ : ∃ A, A = a.toL.map VT.text ++ b.toL.map VT.text := ⟨_, rfl⟩
          have hAl : A.length ≤ 20000 := by rw [hA]; simp [LT.toL_len]; omega
          rw [← hA] at HR
          have HAeq := hid hA
          obtain ⟨px, cx, hvx⟩ := ownsRow_slice HR.out
          subst hvx
          clear hA
          have HSr1 : Hid (Src W2 c.p c.n c.c 1 (c.toL.map Value.string)) := by have h := (HC.out.below HB.out).src; rw [strs_flat] at h; exact h
          go_wp2_with (at_builtin; refine wpList_appS rfl (.tmp 45) (.tmp 46) 27 9 i0 _ 1 16 HKd.out rfl w.heap.size (.slice px A.length cx) A.length _ rfl HR.out c.p c.n c.c _ rfl HSr1.out (oneStr _) (by omega) (by omega) HB.out.size ?_)
          intro v1 W3 ho hg hnr
          obtain ⟨p1, c1, rfl⟩ := ownsRow_slice ho
          have HR1 : Hid (StRow w.heap.size W3 (.slice p1 (A.length + c.n) c1) (A ++ c.toL)) := StRow.app (LT.toL_len _).symm ho
          have HB1 : Hid (Below w.heap.size w W3) := HB.out.grown hg HB.out.size (fun q hq => (HR.out.lt q hq).1)
          obtain ⟨A1, hA1⟩ : ∃ Z, Z = A ++ c.toL := ⟨_, rfl⟩
          have hl1 : A.length + c.n = A1.length := by rw [hA1, List.length_append, LT.toL_len]
          have hAl1 : A1.length ≤ 30000 := by rw [← hl1]; omega
          rw [hl1, ← hA1] at HR1
          rw [hl1]
          have HA1 := hid hA1
          clear ho hg hnr hl1 hA1 HSr1
          have HSr2 : Hid (Src W3 d.p d.n d.c 1 (d.toL.map Value.string)) := by have h := (HD.out.below HB1.out).src; rw [strs_flat] at h; exact h
          go_wp2_with (at_builtin; refine wpList_appS rfl (.tmp 48) (.tmp 49) 27 9 i0 _ 1 16 HKd.out rfl w.heap.size (.slice p1 A1.length c1) A1.length _ rfl HR1.out d.p d.n d.c _ rfl HSr2.out (oneStr _) (by omega) (by omega) HB1.out.size ?_)
          intro v2 W4 ho hg hnr
          obtain ⟨p2, c2, rfl⟩ := ownsRow_slice ho
          have HR2 : Hid (StRow w.heap.size W4 (.slice p2 (A1.length + d.n) c2) (A1 ++ d.toL)) := StRow.app (LT.toL_len _).symm ho
          have HB2 : Hid (Below w.heap.size w W4) := HB1.out.grown hg HB1.out.size (fun q hq => (HR1.out.lt q hq).1)
          obtain ⟨A2, hA2⟩ : ∃ Z, Z = A1 ++ d.toL := ⟨_, rfl⟩
          have hl2 : A1.length + d.n = A2.length := by rw [hA2, List.length_append, LT.toL_len]
          have hAl2 : A2.length ≤ 40000 := by rw [← hl2]; omega
          rw [hl2, ← hA2] at HR2
          rw [hl2]
          have HA2 := hid hA2
          clear ho hg hnr hl2 hA2 HSr2
          have HAll : Hid (A2 = allK a b c d) := by show _ = _; rw [HA2.out, HA1.out, HAeq.out]; rfl
          clear HA1 HA2 HAeq HR1 HB1 HR HB
          obtain ⟨LN, hLN⟩ : ∃ n, n = A2.length := ⟨_, rfl⟩
          rw [← hLN] at HR2 hAl2
          rw [← hLN]
          have HLN := hid hLN
          clear hLN
          go_wp2_with fail
          go_loopw [12] (fun x wr => ∃ out : List ByteArray, StRow W4.heap.size wr x out ∧ Kys A2 out ∧ Below W4.heap.size W4 wr) (fun x _ => LN - lenV x)
          case atStart => exact ⟨[], StRow.nil _ _, Kys.nil _, Below.refl _ _⟩
          case round =>
            obtain ⟨out, hO, hK, hB⟩ := hrel
            obtain ⟨po, co, hvo⟩ := ownsRow_slice hO
            have hol := hK.len
            obtain ⟨LO, hLO⟩ : ∃ n, n = out.length := ⟨_, rfl⟩
            rw [← hLO] at hvo hol
            rw [← HLN.out] at hol
            subst hvo
            have HO := hid hO
            have HK := hid hK
            have HB := hid hB
            have HLO := hid hLO
            clear hO hK hB hLO
            by_cases hlt : LO < LN
            · have hlt' : (LO : Int) < (LN : Int) := by omega
              obtain ⟨wo, hwo⟩ : ∃ x, x = wr := ⟨_, rfl⟩
              subst hwo
              go_wp2_with fail
              go_loopw [13, 14, 15] (fun x y z wr => ∃ (k : Nat) (nx : ByteArray) (sm : Bool), k ≤ LN ∧ z = .int .i64 (k : Int) ∧ x = .string nx ∧ y = .bool sm ∧ Least A2 out k sm nx ∧ Below wo.heap.size wo wr) (fun _ _ z _ => LN - (intOf z).toNat)
              case atStart => exact ⟨0, _, _, Nat.zero_le _, rfl, rfl, rfl, Least.start _ _ _, Below.refl _ _⟩
              case round =>
                obtain ⟨k, nx, sm, hk, rfl, rfl, rfl, hL, hBi⟩ := hrel
                have HL := hid hL
                have HBi := hid hBi
                clear hL hBi
                by_cases hki : k < LN
                · have hki' : (k : Int) < (LN : Int) := by omega
                  obtain ⟨key, hkey⟩ : ∃ key, A2[k]? = some key := ⟨_, List.getElem?_eq_getElem (by have := HLN.out; omega)⟩
                  obtain ⟨gl, hpl, hgl, hcl⟩ := ((HR2.out.below HB.out).below HBi.out).at_ (by have := HLN.out; omega)
                  have a0 := hcl k key hkey
                  have HKey := hid hkey
                  rw [hpl]
                  clear hcl hpl hkey
                  by_cases h0 : LO = 0
                  · have hoe : out = [] := List.eq_nil_of_length_eq_zero (by have := HLO.out; omega)
                    have h0' : ((LO : Int) == 0) = true := by simp [h0]
                    have HAb : Hid (∀ o ∈ out, ltB o key) := by rw [hoe]; intro o ho; cases ho
                    clear hoe
                    clear h0
                    go_upto_region 18 with fail
                    refine wp_region_calmE 30 (fun wx => Below wr.heap.size wr wx) [(0, true), (1, true), (2, true), (3, true), (4, true), (5, true), (6, true), (7, false), (8, true), (9, true), (10, true), (11, true), (12, true), (13, false), (14, true), (15, true), (16, true)] .done (by kernel_rfl) (by kernel_rfl) (Below.refl _ _).drew ?_
                    refine wpPre_e rfl rfl (fun K1 hK1 => ?_)
                    apply Exists.intro
                    refine And.intro (fun wx hx => ?_) ?_
                    · go_simp
                      try rfl
                    go_simp
                    refine hK1 _ ?_
                    clear hK1 K1
                    refine wpPre_e rfl rfl (fun K1 hK1 => ?_)
                    apply Exists.intro
                    refine And.intro (fun wx hx => ?_) ?_
                    · go_simp
                      try rfl
                    go_simp
                    refine hK1 _ ?_
                    clear hK1 K1
                    refine wpPre_e rfl rfl (fun K1 hK1 => ?_)
                    apply Exists.intro
                    refine And.intro (fun wx hx => ?_) ?_
                    · go_simp
                      try rfl
                    go_simp
                    refine hK1 _ ?_
                    clear hK1 K1
                    refine wpPre_e rfl rfl (fun K1 hK1 => ?_)
                    apply Exists.intro
                    refine And.intro (fun wx hx => ?_) ?_
                    · go_simp
                      try rfl
                    go_simp
                    refine hK1 _ ?_
                    clear hK1 K1
                    refine wpPre_i rfl (fun K1 hK1 => ?_)
                    rw [if_neg (by go_simp; all_goals (intro h; cases h))]
                    go_simp
                    refine hK1 _ ?_
                    clear hK1 K1
                    refine wpPre_i rfl (fun K1 hK1 => ?_)
                    rw [if_neg (by go_simp; all_goals (intro h; cases h))]
                    go_simp
                    refine hK1 _ ?_
                    clear hK1 K1
                    refine wpPre_i rfl (fun K1 hK1 => ?_)
                    rw [if_neg (by go_simp; all_goals (intro h; cases h))]
                    go_simp
                    refine hK1 _ ?_
                    clear hK1 K1
                    refine wpPre_i rfl (fun K1 hK1 => ?_)
                    rw [if_neg (by go_simp; all_goals (intro h; cases h))]
                    go_simp
                    refine hK1 _ ?_
                    clear hK1 K1
                    refine wpPre_i rfl (fun K1 hK1 => ?_)
                    rw [if_neg (by go_simp; all_goals (intro h; cases h))]
                    go_simp
                    refine hK1 _ ?_
                    clear hK1 K1
                    refine wpPre_i rfl (fun K1 hK1 => ?_)
                    rw [if_neg (by go_simp; all_goals (intro h; cases h))]
                    go_simp
                    refine hK1 _ ?_
                    clear hK1 K1
                    refine wpPre_i rfl (fun K1 hK1 => ?_)
                    rw [if_neg (by go_simp; all_goals (intro h; cases h))]
                    go_simp
                    refine hK1 _ ?_
                    clear hK1 K1
                    refine wpPre_i rfl (fun K1 hK1 => ?_)
                    rw [if_neg (by go_simp; all_goals (intro h; cases h))]
                    go_simp
                    refine hK1 _ ?_
                    clear hK1 K1
                    refine wpPre_i rfl (fun K1 hK1 => ?_)
                    rw [if_neg (by go_simp; all_goals (intro h; cases h))]
                    go_simp
                    refine hK1 _ ?_
                    clear hK1 K1
                    refine wpPre_i rfl (fun K1 hK1 => ?_)
                    rw [if_neg (by go_simp; all_goals (intro h; cases h))]
                    go_simp
                    refine hK1 _ ?_
                    clear hK1 K1
                    refine wpPre_i rfl (fun K1 hK1 => ?_)
                    rw [if_neg (by go_simp; all_goals (intro h; cases h))]
                    go_simp
                    refine hK1 _ ?_
                    clear hK1 K1
                    refine wpPre_e rfl rfl (fun K1 hK1 => ?_)
                    apply Exists.intro
                    refine And.intro (fun wx hx => ?_) ?_
                    · go_simp
                      try rfl
                    go_simp
                    refine hK1 _ ?_
                    clear hK1 K1
                    refine wpPre_e rfl rfl (fun K1 hK1 => ?_)
                    apply Exists.intro
                    refine And.intro (fun wx hx => ?_) ?_
                    · go_simp
                      try rfl
                    go_simp
                    refine hK1 _ ?_
                    clear hK1 K1
                    refine wpPre_nil ?_
                    refine wpTr_done ?_
                    cases sm with
                    | false =>
                      go_wp2
                      go_roundw
                      case rel => exact ⟨k + 1, key, true, by omega, by go_num, rfl, rfl, HL.out.hit HKey.out HAb.out (.inl rfl), HBi.out.drew⟩
                      case measure => simp [intOf]; omega
                    | true =>
                      cases hlt2 : Op.bytesLess key.toList nx.toList with
                      | false =>
                        have HLs := hid hlt2
                        go_wp2
                        go_roundw
                        case rel => exact ⟨k + 1, nx, true, by omega, by go_num, rfl, rfl, HL.out.skip HKey.out (fun h => h.2.elim (fun e => by cases e) (fun e => by have h9 := HLs.out; unfold ltB at e; rw [e] at h9; cases h9)), HBi.out.drew⟩
                        case measure => simp [intOf]; omega
                      | true =>
                        have HLs := hid hlt2
                        go_wp2
                        go_roundw
                        case rel => exact ⟨k + 1, key, true, by omega, by go_num, rfl, rfl, HL.out.hit HKey.out HAb.out (.inr HLs.out), HBi.out.drew⟩
                        case measure => simp [intOf]; omega
                  · obtain ⟨M, hM⟩ : ∃ M, LO = M + 1 := ⟨LO - 1, by omega⟩
                    obtain ⟨z, hz⟩ : ∃ z, out[M]? = some z := ⟨_, List.getElem?_eq_getElem (by have := HLO.out; omega)⟩
                    obtain ⟨go, hpo, hgo, hco⟩ := (HO.out.below HBi.out).at_ (by have := HLO.out; omega)
                    have d0 := hco M z hz
                    have hze : out = out.take M ++ [z] := by
                      have h1 := take_snoc hz
                      rw [← h1, List.take_of_length_le (by have := HLO.out; omega)]
                    have HAbv : Hid ((∀ o ∈ out, ltB o key) ↔ Op.bytesLess z.toList key.toList = true) := by
                      have hr := HK.out.rise
                      rw [hze] at hr
                      show (∀ o ∈ out, ltB o key) ↔ _
                      rw [hze]
                      exact above_last hr
                    have hM2 : ((LO : Int) == 0) = false := by simp; omega
                    have hM3 : (LO : Int) - 1 = (M : Int) := by omega
                    have hM4 : (M : Int) < (LO : Int) := by omega
                    have hM5 : M < LO := by omega
                    have hwM : IntKind.i64.wrap (M : Int) = (M : Int) := by rw [IntKind.wrap_i64]; omega
                    rw [hpo]
                    have HM := hid hM
                    clear hco hpo hz hze hM h0
                    have hnot : ∀ {p q : ByteArray}, ltB p q → Op.bytesLess q.toList p.toList = false ∧ (q.toList == p.toList) = false := fun {p q} h => by
                      constructor
                      · cases hx : Op.bytesLess q.toList p.toList with
                        | false => rfl
                        | true => exact (ltB.irr (ltB.trans h hx)).elim
                      · rw [beq_eq_false_iff_ne]; intro e; have e2 := ba_ext e; subst e2; exact h.irr
                    rcases ltB.tri z key with hab | hab | hab
                    · have HAb : Hid (∀ o ∈ out, ltB o key) := HAbv.out.2 hab
                      obtain ⟨c1_, c2_⟩ := hnot hab
                      clear hab hnot
                      go_upto_region 18 with fail
                      refine wp_region_calmE 30 (fun wx => Below wr.heap.size wr wx) [(0, true), (1, true), (2, true), (3, true), (4, true), (5, true), (6, true), (7, false), (8, true), (9, true), (10, true), (11, true), (12, true), (13, false), (14, true), (15, true), (16, true)] .done (by kernel_rfl) (by kernel_rfl) (Below.refl _ _).drew ?_
                      refine wpPre_e rfl rfl (fun K1 hK1 => ?_)
                      apply Exists.intro
                      refine And.intro (fun wx hx => ?_) ?_
                      · go_simp
                        try rfl
                      go_simp
                      refine hK1 _ ?_
                      clear hK1 K1
                      refine wpPre_e rfl rfl (fun K1 hK1 => ?_)
                      apply Exists.intro
                      refine And.intro (fun wx hx => ?_) ?_
                      · go_simp
                        try rfl
                      go_simp
                      refine hK1 _ ?_
                      clear hK1 K1
                      refine wpPre_e rfl rfl (fun K1 hK1 => ?_)
                      apply Exists.intro
                      refine And.intro (fun wx hx => ?_) ?_
                      · go_simp
                        try rfl
                      go_simp
                      refine hK1 _ ?_
                      clear hK1 K1
                      refine wpPre_e rfl rfl (fun K1 hK1 => ?_)
                      apply Exists.intro
                      refine And.intro (fun wx hx => ?_) ?_
                      · go_simp
                        try rfl
                      go_simp
                      refine hK1 _ ?_
                      clear hK1 K1
                      refine wpPre_i rfl (fun K1 hK1 => ?_)
                      rw [if_pos (by go_simp)]
                      apply Exists.intro
                      refine And.intro (fun wx hx => ?_) ?_
                      · go_simp
                        try rfl
                      go_simp
                      refine hK1 _ ?_
                      clear hK1 K1
                      refine wpPre_i rfl (fun K1 hK1 => ?_)
                      rw [if_pos (by go_simp)]
                      apply Exists.intro
                      refine And.intro (fun wx hx => ?_) ?_
                      · go_simp
                        try rfl
                      go_simp
                      refine hK1 _ ?_
                      clear hK1 K1
                      refine wpPre_i rfl (fun K1 hK1 => ?_)
                      rw [if_pos (by go_simp)]
                      apply Exists.intro
                      refine And.intro (fun wx hx => ?_) ?_
                      · go_simp
                        try rfl
                      go_simp
                      refine hK1 _ ?_
                      clear hK1 K1
                      refine wpPre_i rfl (fun K1 hK1 => ?_)
                      rw [if_pos (by go_simp)]
                      apply Exists.intro
                      refine And.intro (fun wx hx => ?_) ?_
                      · have e0 := below_fact hx rfl a0
                        have e1 := below_fact hx rfl d0
                        go_simp
                        try rfl
                      go_simp
                      refine hK1 _ ?_
                      clear hK1 K1
                      refine wpPre_i rfl (fun K1 hK1 => ?_)
                      rw [if_pos (by go_simp)]
                      apply Exists.intro
                      refine And.intro (fun wx hx => ?_) ?_
                      · go_simp
                        try rfl
                      go_simp
                      refine hK1 _ ?_
                      clear hK1 K1
                      refine wpPre_i rfl (fun K1 hK1 => ?_)
                      rw [if_pos (by go_simp)]
                      apply Exists.intro
                      refine And.intro (fun wx hx => ?_) ?_
                      · go_simp
                        try rfl
                      go_simp
                      refine hK1 _ ?_
                      clear hK1 K1
                      refine wpPre_i rfl (fun K1 hK1 => ?_)
                      rw [if_pos (by go_simp)]
                      apply Exists.intro
                      refine And.intro (fun wx hx => ?_) ?_
                      · go_simp
                        try rfl
                      go_simp
                      refine hK1 _ ?_
                      clear hK1 K1
                      refine wpPre_i rfl (fun K1 hK1 => ?_)
                      rw [if_pos (by go_simp)]
                      apply Exists.intro
                      refine And.intro (fun wx hx => ?_) ?_
                      · go_simp
                        try rfl
                      go_simp
                      refine hK1 _ ?_
                      clear hK1 K1
                      refine wpPre_i rfl (fun K1 hK1 => ?_)
                      rw [if_pos (by go_simp)]
                      apply Exists.intro
                      refine And.intro (fun wx hx => ?_) ?_
                      · go_simp
                        try rfl
                      go_simp
                      refine hK1 _ ?_
                      clear hK1 K1
                      refine wpPre_i rfl (fun K1 hK1 => ?_)
                      rw [if_pos (by go_simp)]
                      apply Exists.intro
                      refine And.intro (fun wx hx => ?_) ?_
                      · have e0 := below_fact hx rfl a0
                        have e1 := below_fact hx rfl d0
                        go_simp
                        try rfl
                      go_simp
                      refine hK1 _ ?_
                      clear hK1 K1
                      refine wpPre_i rfl (fun K1 hK1 => ?_)
                      rw [if_pos (by go_simp)]
                      apply Exists.intro
                      refine And.intro (fun wx hx => ?_) ?_
                      · go_simp
                        try rfl
                      go_simp
                      refine hK1 _ ?_
                      clear hK1 K1
                      refine wpPre_e rfl rfl (fun K1 hK1 => ?_)
                      apply Exists.intro
                      refine And.intro (fun wx hx => ?_) ?_
                      · go_simp
                        try rfl
                      go_simp
                      refine hK1 _ ?_
                      clear hK1 K1
                      refine wpPre_e rfl rfl (fun K1 hK1 => ?_)
                      apply Exists.intro
                      refine And.intro (fun wx hx => ?_) ?_
                      · go_simp
                        try rfl
                      go_simp
                      refine hK1 _ ?_
                      clear hK1 K1
                      refine wpPre_nil ?_
                      refine wpTr_done ?_
                      cases sm with
                      | false =>
                        go_wp2
                        go_roundw
                        case rel => exact ⟨k + 1, key, true, by omega, by go_num, rfl, rfl, HL.out.hit HKey.out HAb.out (.inl rfl), HBi.out.drew⟩
                        case measure => simp [intOf]; omega
                      | true =>
                        cases hlt2 : Op.bytesLess key.toList nx.toList with
                        | false =>
                          have HLs := hid hlt2
                          go_wp2
                          go_roundw
                          case rel => exact ⟨k + 1, nx, true, by omega, by go_num, rfl, rfl, HL.out.skip HKey.out (fun h => h.2.elim (fun e => by cases e) (fun e => by have h9 := HLs.out; unfold ltB at e; rw [e] at h9; cases h9)), HBi.out.drew⟩
                          case measure => simp [intOf]; omega
                        | true =>
                          have HLs := hid hlt2
                          go_wp2
                          go_roundw
                          case rel => exact ⟨k + 1, key, true, by omega, by go_num, rfl, rfl, HL.out.hit HKey.out HAb.out (.inr HLs.out), HBi.out.drew⟩
                          case measure => simp [intOf]; omega
                    · have HAb : Hid (¬ ∀ o ∈ out, ltB o key) := fun h => by have h9 : ltB z key := HAbv.out.1 h; rw [hab] at h9; exact h9.irr
                      have c1_ : Op.bytesLess key.toList z.toList = false := by rw [hab]; exact bl_irr _
                      have c2_ : (key.toList == z.toList) = true := by rw [hab]; simp
                      clear hab hnot
                      go_upto_region 18 with fail
                      refine wp_region_calmE 30 (fun wx => Below wr.heap.size wr wx) [(0, true), (1, true), (2, true), (3, true), (4, true), (5, true), (6, true), (7, false), (8, true), (9, true), (10, true), (11, true), (12, true), (13, false), (14, true), (15, true), (16, true)] .done (by kernel_rfl) (by kernel_rfl) (Below.refl _ _).drew ?_
                      refine wpPre_e rfl rfl (fun K1 hK1 => ?_)
                      apply Exists.intro
                      refine And.intro (fun wx hx => ?_) ?_
                      · go_simp
                        try rfl
                      go_simp
                      refine hK1 _ ?_
                      clear hK1 K1
                      refine wpPre_e rfl rfl (fun K1 hK1 => ?_)
                      apply Exists.intro
                      refine And.intro (fun wx hx => ?_) ?_
                      · go_simp
                        try rfl
                      go_simp
                      refine hK1 _ ?_
                      clear hK1 K1
                      refine wpPre_e rfl rfl (fun K1 hK1 => ?_)
                      apply Exists.intro
                      refine And.intro (fun wx hx => ?_) ?_
                      · go_simp
                        try rfl
                      go_simp
                      refine hK1 _ ?_
                      clear hK1 K1
                      refine wpPre_e rfl rfl (fun K1 hK1 => ?_)
                      apply Exists.intro
                      refine And.intro (fun wx hx => ?_) ?_
                      · go_simp
                        try rfl
                      go_simp
                      refine hK1 _ ?_
                      clear hK1 K1
                      refine wpPre_i rfl (fun K1 hK1 => ?_)
                      rw [if_pos (by go_simp)]
                      apply Exists.intro
                      refine And.intro (fun wx hx => ?_) ?_
                      · go_simp
                        try rfl
                      go_simp
                      refine hK1 _ ?_
                      clear hK1 K1
                      refine wpPre_i rfl (fun K1 hK1 => ?_)
                      rw [if_pos (by go_simp)]
                      apply Exists.intro
                      refine And.intro (fun wx hx => ?_) ?_
                      · go_simp
                        try rfl
                      go_simp
                      refine hK1 _ ?_
                      clear hK1 K1
                      refine wpPre_i rfl (fun K1 hK1 => ?_)
                      rw [if_pos (by go_simp)]
                      apply Exists.intro
                      refine And.intro (fun wx hx => ?_) ?_
                      · go_simp
                        try rfl
                      go_simp
                      refine hK1 _ ?_
                      clear hK1 K1
                      refine wpPre_i rfl (fun K1 hK1 => ?_)
                      rw [if_pos (by go_simp)]
                      apply Exists.intro
                      refine And.intro (fun wx hx => ?_) ?_
                      · have e0 := below_fact hx rfl a0
                        have e1 := below_fact hx rfl d0
                        go_simp
                        try rfl
                      go_simp
                      refine hK1 _ ?_
                      clear hK1 K1
                      refine wpPre_i rfl (fun K1 hK1 => ?_)
                      rw [if_pos (by go_simp)]
                      apply Exists.intro
                      refine And.intro (fun wx hx => ?_) ?_
                      · go_simp
                        try rfl
                      go_simp
                      refine hK1 _ ?_
                      clear hK1 K1
                      refine wpPre_i rfl (fun K1 hK1 => ?_)
                      rw [if_pos (by go_simp)]
                      apply Exists.intro
                      refine And.intro (fun wx hx => ?_) ?_
                      · go_simp
                        try rfl
                      go_simp
                      refine hK1 _ ?_
                      clear hK1 K1
                      refine wpPre_i rfl (fun K1 hK1 => ?_)
                      rw [if_pos (by go_simp)]
                      apply Exists.intro
                      refine And.intro (fun wx hx => ?_) ?_
                      · go_simp
                        try rfl
                      go_simp
                      refine hK1 _ ?_
                      clear hK1 K1
                      refine wpPre_i rfl (fun K1 hK1 => ?_)
                      rw [if_pos (by go_simp)]
                      apply Exists.intro
                      refine And.intro (fun wx hx => ?_) ?_
                      · go_simp
                        try rfl
                      go_simp
                      refine hK1 _ ?_
                      clear hK1 K1
                      refine wpPre_i rfl (fun K1 hK1 => ?_)
                      rw [if_pos (by go_simp)]
                      apply Exists.intro
                      refine And.intro (fun wx hx => ?_) ?_
                      · go_simp
                        try rfl
                      go_simp
                      refine hK1 _ ?_
                      clear hK1 K1
                      refine wpPre_i rfl (fun K1 hK1 => ?_)
                      rw [if_pos (by go_simp)]
                      apply Exists.intro
                      refine And.intro (fun wx hx => ?_) ?_
                      · have e0 := below_fact hx rfl a0
                        have e1 := below_fact hx rfl d0
                        go_simp
                        try rfl
                      go_simp
                      refine hK1 _ ?_
                      clear hK1 K1
                      refine wpPre_i rfl (fun K1 hK1 => ?_)
                      rw [if_pos (by go_simp)]
                      apply Exists.intro
                      refine And.intro (fun wx hx => ?_) ?_
                      · go_simp
                        try rfl
                      go_simp
                      refine hK1 _ ?_
                      clear hK1 K1
                      refine wpPre_e rfl rfl (fun K1 hK1 => ?_)
                      apply Exists.intro
                      refine And.intro (fun wx hx => ?_) ?_
                      · go_simp
                        try rfl
                      go_simp
                      refine hK1 _ ?_
                      clear hK1 K1
                      refine wpPre_e rfl rfl (fun K1 hK1 => ?_)
                      apply Exists.intro
                      refine And.intro (fun wx hx => ?_) ?_
                      · go_simp
                        try rfl
                      go_simp
                      refine hK1 _ ?_
                      clear hK1 K1
                      refine wpPre_nil ?_
                      refine wpTr_done ?_
                      cases sm with
                      | false =>
                        go_wp2
                        go_roundw
                        case rel => exact ⟨k + 1, nx, false, by omega, by go_num, rfl, rfl, HL.out.skip HKey.out (fun h => HAb.out h.1), HBi.out.drew⟩
                        case measure => simp [intOf]; omega
                      | true =>
                        go_wp2
                        go_roundw
                        case rel => exact ⟨k + 1, nx, true, by omega, by go_num, rfl, rfl, HL.out.skip HKey.out (fun h => HAb.out h.1), HBi.out.drew⟩
                        case measure => simp [intOf]; omega
                    · have HAb : Hid (¬ ∀ o ∈ out, ltB o key) := fun h => by have h9 : ltB z key := HAbv.out.1 h; exact (h9.trans hab).irr
                      have c1_ : Op.bytesLess key.toList z.toList = true := hab
                      clear hab hnot
                      go_upto_region 18 with fail
                      refine wp_region_calmE 30 (fun wx => Below wr.heap.size wr wx) [(0, true), (1, true), (2, true), (3, true), (4, true), (5, true), (6, true), (7, false), (8, true), (9, true), (10, true), (11, true), (12, true), (13, false), (14, true), (15, true), (16, true)] .done (by kernel_rfl) (by kernel_rfl) (Below.refl _ _).drew ?_
                      refine wpPre_e rfl rfl (fun K1 hK1 => ?_)
                      apply Exists.intro
                      refine And.intro (fun wx hx => ?_) ?_
                      · go_simp
                        try rfl
                      go_simp
                      refine hK1 _ ?_
                      clear hK1 K1
                      refine wpPre_e rfl rfl (fun K1 hK1 => ?_)
                      apply Exists.intro
                      refine And.intro (fun wx hx => ?_) ?_
                      · go_simp
                        try rfl
                      go_simp
                      refine hK1 _ ?_
                      clear hK1 K1
                      refine wpPre_e rfl rfl (fun K1 hK1 => ?_)
                      apply Exists.intro
                      refine And.intro (fun wx hx => ?_) ?_
                      · go_simp
                        try rfl
                      go_simp
                      refine hK1 _ ?_
                      clear hK1 K1
                      refine wpPre_e rfl rfl (fun K1 hK1 => ?_)
                      apply Exists.intro
                      refine And.intro (fun wx hx => ?_) ?_
                      · go_simp
                        try rfl
                      go_simp
                      refine hK1 _ ?_
                      clear hK1 K1
                      refine wpPre_i rfl (fun K1 hK1 => ?_)
                      rw [if_pos (by go_simp)]
                      apply Exists.intro
                      refine And.intro (fun wx hx => ?_) ?_
                      · go_simp
                        try rfl
                      go_simp
                      refine hK1 _ ?_
                      clear hK1 K1
                      refine wpPre_i rfl (fun K1 hK1 => ?_)
                      rw [if_pos (by go_simp)]
                      apply Exists.intro
                      refine And.intro (fun wx hx => ?_) ?_
                      · go_simp
                        try rfl
                      go_simp
                      refine hK1 _ ?_
                      clear hK1 K1
                      refine wpPre_i rfl (fun K1 hK1 => ?_)
                      rw [if_pos (by go_simp)]
                      apply Exists.intro
                      refine And.intro (fun wx hx => ?_) ?_
                      · go_simp
                        try rfl
                      go_simp
                      refine hK1 _ ?_
                      clear hK1 K1
                      refine wpPre_i rfl (fun K1 hK1 => ?_)
                      rw [if_pos (by go_simp)]
                      apply Exists.intro
                      refine And.intro (fun wx hx => ?_) ?_
                      · have e0 := below_fact hx rfl a0
                        have e1 := below_fact hx rfl d0
                        go_simp
                        try rfl
                      go_simp
                      refine hK1 _ ?_
                      clear hK1 K1
                      refine wpPre_i rfl (fun K1 hK1 => ?_)
                      rw [if_pos (by go_simp)]
                      apply Exists.intro
                      refine And.intro (fun wx hx => ?_) ?_
                      · go_simp
                        try rfl
                      go_simp
                      refine hK1 _ ?_
                      clear hK1 K1
                      refine wpPre_i rfl (fun K1 hK1 => ?_)
                      rw [if_pos (by go_simp)]
                      apply Exists.intro
                      refine And.intro (fun wx hx => ?_) ?_
                      · go_simp
                        try rfl
                      go_simp
                      refine hK1 _ ?_
                      clear hK1 K1
                      refine wpPre_i rfl (fun K1 hK1 => ?_)
                      rw [if_pos (by go_simp)]
                      apply Exists.intro
                      refine And.intro (fun wx hx => ?_) ?_
                      · go_simp
                        try rfl
                      go_simp
                      refine hK1 _ ?_
                      clear hK1 K1
                      refine wpPre_i rfl (fun K1 hK1 => ?_)
                      rw [if_pos (by go_simp)]
                      apply Exists.intro
                      refine And.intro (fun wx hx => ?_) ?_
                      · go_simp
                        try rfl
                      go_simp
                      refine hK1 _ ?_
                      clear hK1 K1
                      refine wpPre_i rfl (fun K1 hK1 => ?_)
                      rw [if_pos (by go_simp)]
                      apply Exists.intro
                      refine And.intro (fun wx hx => ?_) ?_
                      · go_simp
                        try rfl
                      go_simp
                      refine hK1 _ ?_
                      clear hK1 K1
                      refine wpPre_i rfl (fun K1 hK1 => ?_)
                      rw [if_pos (by go_simp)]
                      apply Exists.intro
                      refine And.intro (fun wx hx => ?_) ?_
                      · have e0 := below_fact hx rfl a0
                        have e1 := below_fact hx rfl d0
                        go_simp
                        try rfl
                      go_simp
                      refine hK1 _ ?_
                      clear hK1 K1
                      refine wpPre_i rfl (fun K1 hK1 => ?_)
                      rw [if_pos (by go_simp)]
                      apply Exists.intro
                      refine And.intro (fun wx hx => ?_) ?_
                      · go_simp
                        try rfl
                      go_simp
                      refine hK1 _ ?_
                      clear hK1 K1
                      refine wpPre_e rfl rfl (fun K1 hK1 => ?_)
                      apply Exists.intro
                      refine And.intro (fun wx hx => ?_) ?_
                      · go_simp
                        try rfl
                      go_simp
                      refine hK1 _ ?_
                      clear hK1 K1
                      refine wpPre_e rfl rfl (fun K1 hK1 => ?_)
                      apply Exists.intro
                      refine And.intro (fun wx hx => ?_) ?_
                      · go_simp
                        try rfl
                      go_simp
                      refine hK1 _ ?_
                      clear hK1 K1
                      refine wpPre_nil ?_
                      refine wpTr_done ?_
                      cases sm with
                      | false =>
                        go_wp2
                        go_roundw
                        case rel => exact ⟨k + 1, nx, false, by omega, by go_num, rfl, rfl, HL.out.skip HKey.out (fun h => HAb.out h.1), HBi.out.drew⟩
                        case measure => simp [intOf]; omega
                      | true =>
                        go_wp2
                        go_roundw
                        case rel => exact ⟨k + 1, nx, true, by omega, by go_num, rfl, rfl, HL.out.skip HKey.out (fun h => HAb.out h.1), HBi.out.drew⟩
                        case measure => simp [intOf]; omega
                · obtain rfl : LN = k := by omega
                  cases sm with
                  | false =>
                    have HKA : Hid (KysAll A2 out) := HK.out.done (Least.none_ (x := nx) (by rw [← HLN.out]; exact HL.out))
                    go_wp2
                    exact bodyPost_ret (v := .slice po LO co) (by simp [results, Try.results21, go_sem]) rfl ⟨_, out, rfl, by rw [← HAll.out]; exact HKA.out, (HO.out.below HBi.out).mono HB2.out.size, HB2.out.trans ((HB.out.trans (HBi.out.mono HB.out.size)).mono HB2.out.size)⟩
                  | true =>
                    have HKp : Hid (Kys A2 (out ++ [nx])) := by
                      obtain ⟨h1, h2, h3⟩ := Least.some_ (show Least A2 out A2.length true nx by rw [← HLN.out]; exact HL.out)
                      exact HK.out.push h1 h2 h3
                    have HO2 := hid (HO.out.below HBi.out)
                    have hs4 : W4.heap.size ≤ wr.heap.size := Nat.le_trans HB.out.size HBi.out.size
                    have HBr : Hid (Below W4.heap.size W4 wr) := HB.out.trans (HBi.out.mono HB.out.size)
                    have HOl : Hid (World.ownsRow wr W4.heap.size 9 1 (.slice po LO co) LO (out.map Value.string)) := by have h := HO2.out; unfold StRow at h; rw [← HLO.out] at h; exact h
                    go_wp2_with (at_builtin; refine wpList_app rfl (.tmp 98) (.tmp 100) 27 9 i0 _ 1 16 HKd.out rfl W4.heap.size (.slice po LO co) LO _ rfl (World.ownsRow.alloc HOl.out _) ⟨wr.heap.size, 0, none⟩ 1 1 [.string nx] rfl rfl (newsS1 wr _) (by simp [Value.oneCell']) (by omega) (by omega) (by simp; omega) ?_)
                    intro v5 w5 ho5 hg5 hn5
                    obtain ⟨p5, c5, rfl⟩ := ownsRow_slice ho5
                    have HR5 : Hid (StRow W4.heap.size w5 (.slice p5 (LO + 1) c5) (out ++ [nx])) := StRow.push (by rw [← HLO.out]; exact ho5)
                    have HB5 : Hid (Below W4.heap.size W4 w5) := (HBr.out.trans ((below1 wr _).mono hs4)).grown hg5 (by simp; omega) (fun q hq => (HOl.out.lt q hq).1)
                    clear ho5 hg5 hn5
                    go_wp2
                    go_roundw
                    case rel => exact ⟨_, HR5.out, HKp.out, HB5.out⟩
                    case measure => simp [lenV_slice]; omega
            · have hge : ¬ (LO : Int) < (LN : Int) := by omega
              have HKA : Hid (KysAll A2 out) := HK.out.full (by have h1 := HLN.out; have h2 := HLO.out; omega)
              go_wp2
              exact bodyPost_ret (v := .slice po LO co) (by simp [results, Try.results21, go_sem]) rfl (by first | exact ⟨_, out, rfl, by rw [← HAll.out]; exact HKA.out, HO.out.mono HB2.out.size, HB2.out.trans (HB.out.mono HB2.out.size)⟩ | exact ⟨_, rfl, out, by rw [← HAll.out]; exact HKA.out, HO.out.mono HB2.out.size, HB2.out.trans (HB.out.mono HB2.out.size)⟩)
end Go.Proofs.Ytpknlbibijheaab
