import Derived.Test.YtbcnlfbclgkeiaaLcQ
namespace Go.Proofs.Ytbcnlfbclgkeiaa
open Go.RowKit Go.Conc
set_option maxRecDepth 8000
/-- Put of items that are none of them refused: a lane without a bound -/
theorem put_free {w : World} {Z : Nat → Prop} {b : Nat} {L : Ln} {l : LT IT} {e : Ending} {w' : World} (h : PutQ w Z b L l e w') (hr : L.room = 0) (hm : ∀ x ∈ l.toL, 0 ≤ x.mark) :
    ∃ us L', e = .returned (.tuple #[.int .i64 (l.n : Int), .int .i64 0]) ∧ Cps l.toL us ∧ L'.q = L.q ++ us ∧ LSet w Z b L w' L' := by
  obtain ⟨us, L', er, he, hP, hend⟩ := h
  rcases hend with ⟨h1, h2⟩ | ⟨h1, h2, h3⟩
  · refine ⟨us, L', by rw [he, h1, h2], Cps.of_get (by rw [LT.toL_len]; exact h1) fun j x u hx hu => ?_, hP.q, hP.set⟩
    have := (hP.each j u hu).1
    rw [(LT.toL_some l hx).2] at this
    exact this
  · exfalso
    have hx := hm _ (List.mem_of_getElem? (l.toL_get h1))
    rw [hr] at h3
    unfold refI fullB at h3
    rw [if_neg (by omega)] at h3
    simp at h3
    exact h2 h3
structure PuA (w0 : World) (b : Nat) (L : Ln) (l : LT IT) (k : Nat) (v : Value) (n : Nat) (g : Nat → IT) (wr : World) : Prop where
  kl : k ≤ l.n
  gl : GL elItem w0.heap.size (fun _ => True) wr (fun _ => False) b L v n g
  eq : (List.range n).map g = (l.toL.take k).filter fun x => 0 ≤ x.mark
  bel : Below w0.heap.size w0 wr
structure PuC (w0 : World) (b : Nat) (L : Ln) (F : List IT) (k : Nat) (v : Value) (n : Nat) (g : Nat → RT) (wr : World) : Prop where
  kl : k ≤ F.length
  gl : GL elRec w0.heap.size (fun _ => True) wr (fun _ => False) b L v n g
  eq : (List.range n).map g = ((F.take k).filter fun x => x.mark = 0).map IT.r
  bel : Below w0.heap.size w0 wr
set_option maxRecDepth 60000 in
set_option maxHeartbeats 16000000 in
/-- LanePull -/
theorem lanePull_walk (l : LT IT) (w : World) (hin : LT.In elItem w (fun b => b < w.heap.size) l) : Calls Try.prog 3 #[.slice l.p l.n l.c] w fun e w' => e = .returned (.bool true) ∧ Below w.heap.size w w' := by
  obtain ⟨i0, Kd⟩ := kindIt
  obtain ⟨i1, Kr⟩ := kindRs
  have HKd := hid Kd
  have HKr := hid Kr
  have HI := hid hin
  have HFw := hid (szItems_few l w hin)
  clear hin Kd Kr
  go_enter Try.func3, Try.ntmps3
  go_wp2_with fail
  refine HFw.out.mono ?_
  rintro e w1 ⟨r, rfl, hr, hB1⟩
  have HB1 := hid hB1
  cases r with
  | false =>
    clear hr hB1
    go_wp2
    exact bodyPost_ret (v := .bool true) (by simp [results, Try.results3, go_sem]) rfl ⟨rfl, HB1.out⟩
  | true =>
  have hsum := hr rfl
  have hln : l.n ≤ 10000 := Nat.le_trans (l.sumI_le l.n) hsum
  have HSum := hid hsum
  have HNw := hid (lnew_any 0 w1 (fun _ => False) (fun _ h => h.elim))
  clear hr hB1 hsum HFw
  go_wp2_with fail
  refine HNw.out.mono ?_
  rintro e w2 ⟨_, hN⟩
  obtain ⟨rfl, hL, hB2⟩ := hN (by decide)
  have H0 : Hid (PuA w (w1.heap.size + 1) ⟨0, none, w1.heap.size, (0 : Int).toNat, []⟩ l 0 (.slice none 0 0) 0 (fun _ => ⟨0, rz⟩) w2) := ⟨Nat.zero_le _, GL.nil hL _, by simp, HB1.out.trans (hB2.mono HB1.out.size)⟩
  obtain ⟨b, hb⟩ : ∃ b, b = w1.heap.size + 1 := ⟨_, rfl⟩
  obtain ⟨L, hLe⟩ : ∃ L, L = Ln.mk 0 none w1.heap.size (0 : Int).toNat [] := ⟨_, rfl⟩
  have hbw : w.heap.size ≤ w1.heap.size := HB1.out.size
  rw [← hb, ← hLe] at H0
  rw [← hb]
  have hLr : Hid (L.room = 0 ∧ L.q = [] ∧ ∀ k, L.C b k → w.heap.size ≤ k) := by
    rw [hLe, hb]
    refine ⟨rfl, rfl, ?_⟩
    rintro k (e | e | e)
    · omega
    · have e' : k = w1.heap.size := e
      omega
    · cases e
  clear hL hB2 hN HNw hb hLe hbw
  go_wp2_with fail
  go_loopw [5, 6] (fun v x wr => ∃ k n g, x = .int .i64 ((k : Nat) : Int) ∧ PuA w b L l k v n g wr) (fun _ x _ => l.n - (intOf x).toNat)
  case atStart => exact ⟨0, 0, _, rfl, H0.out⟩
  case round =>
    obtain ⟨k, n, g, rfl, hP⟩ := hrel
    obtain ⟨v, hv⟩ : ∃ v, v = u5 := ⟨_, rfl⟩
    rw [← hv] at hP ⊢
    clear hv H0
    have HP := hid hP
    have hk := hP.kl
    have hs1 := hP.bel.size
    have hnk : n ≤ 10000 := by
      have h1 := congrArg List.length hP.eq
      rw [List.length_map, List.length_range] at h1
      have h2 := List.length_filter_le (fun x : IT => decide (0 ≤ x.mark)) (l.toL.take k)
      rw [List.length_take, LT.toL_len] at h2
      omega
    clear hP
    by_cases hlt : k < l.n
    · have hlt' : (k : Int) < (l.n : Int) := by omega
      obtain ⟨bb, o, hp, hSb, hbb, hat⟩ := HI.out.at_ (by omega)
      rw [hp]
      have hcell : ∀ r u, (elItem.cells (l.item k))[r]? = some u → wr.cell? ⟨bb, o + k * 7 + r, none⟩ = some u := fun r u hu => (World.cell?_of_block (a := ⟨bb, o + k * 7 + r, none⟩) (HP.out.bel.block bb hbb)).trans (hat k hlt r u hu)
      have c0 : wr.cell? ⟨bb, o + k * 7, none⟩ = some (.int .i64 (l.item k).mark) := hcell 0 _ rfl
      have c1 := hcell 1 _ rfl
      have c2 := hcell 2 _ rfl
      have c3 := hcell 3 _ rfl
      have c4 := hcell 4 _ rfl
      have c5 := hcell 5 _ rfl
      have c6 := hcell 6 _ rfl
      have hx := l.toL_get hlt
      clear hcell hat
      by_cases hmk : 0 ≤ (l.item k).mark
      · have HX : Hid ((l.toL.take (k + 1)).filter (fun x => 0 ≤ x.mark) = (l.toL.take k).filter (fun x => 0 ≤ x.mark) ++ [l.item k]) := by
          show _ = _
          rw [List.take_add_one, hx, List.filter_append]
          simp [hmk]
        have hel : IT.In wr (fun j => ¬ L.C b j ∧ True ∧ v.ownBlock ≠ some j) (l.item k) := by
          have h1 : IT.In w (fun j => j < w.heap.size) (l.item k) := HI.out.each k hlt
          refine (h1.kept hs1 fun j hj _ => HP.out.bel.block j hj).mono fun j hj _ => ⟨fun e => by have := hLr.out.2.2 j e; omega, trivial, fun e => by have := (HP.out.gl.own.lt j e).1; omega⟩
        have HEl := hid hel
        have ha : Below wr.heap.size wr (wr.alloc (.cells #[.int .i64 (l.item k).mark, .string (l.item k).r.key, .int .i64 (l.item k).r.v.kind, .int .i64 (l.item k).r.v.int, .string (l.item k).r.v.text, .slice (l.item k).r.v.p (l.item k).r.v.n (l.item k).r.v.c, .slice (l.item k).r.p (l.item k).r.n (l.item k).r.c] 35)) := (Below.refl _ _).alloc (Nat.le_refl _) _
        have HAa := hid ha
        have HNw : Hid (∀ j u', (elItem.cells (l.item k))[j]? = some u' → (wr.alloc (.cells #[.int .i64 (l.item k).mark, .string (l.item k).r.key, .int .i64 (l.item k).r.v.kind, .int .i64 (l.item k).r.v.int, .string (l.item k).r.v.text, .slice (l.item k).r.v.p (l.item k).r.v.n (l.item k).r.v.c, .slice (l.item k).r.p (l.item k).r.n (l.item k).r.c] 35)).cell? ((⟨wr.heap.size, 0, none⟩ : Addr).add j) = some u') := by
          intro j u' hu
          rw [Go.WideShapes.add_plain, (Box.new wr #[.int .i64 (l.item k).mark, .string (l.item k).r.key, .int .i64 (l.item k).r.v.kind, .int .i64 (l.item k).r.v.int, .string (l.item k).r.v.text, .slice (l.item k).r.v.p (l.item k).r.v.n (l.item k).r.v.c, .slice (l.item k).r.p (l.item k).r.n (l.item k).r.c] 35).cell]
          rw [show 0 + j = j by omega]
          simpa [elItem, IT.cells] using hu
        clear hel ha hx
        go_wp2_with (at_builtin; refine wpList_app rfl (.tmp 48) (.tmp 53) 22 35 i0 _ 7 104 HKd.out rfl w.heap.size v n _ rfl (HP.out.gl.own.alloc _) ⟨wr.heap.size, 0, none⟩ 1 1 (elItem.cells (l.item k)) rfl rfl HNw.out (elItem.one _) (by omega) (by omega) (by simp; omega) ?_)
        intro v4 w4 ho4 hg4 hn4
        have HG4 := hid ((HP.out.gl.below HAa.out).push (elItem.kept HEl.out HAa.out.size fun j _ hl => HAa.out.block j hl) ho4 hg4 hn4)
        have HB4 : Hid (Below w.heap.size w w4) := (HP.out.bel.trans (HAa.out.mono hs1)).grown hg4 (by simp; omega) (fun j hj => (HP.out.gl.own.lt j hj).1)
        have HE4 : Hid ((List.range (n + 1)).map (fun j => if j < n then g j else l.item k) = (l.toL.take (k + 1)).filter fun x => 0 ≤ x.mark) := by
          show _ = _
          rw [HX.out, ← HP.out.eq, List.range_succ, List.map_append]
          congr 1
          · refine List.map_congr_left fun j hj => ?_
            rw [if_pos (List.mem_range.1 hj)]
          · simp
        clear ho4 hg4 hn4 HNw HAa
        go_wp2_with fail
        go_roundw
        case rel => exact ⟨k + 1, n + 1, _, by go_num, hlt, HG4.out, HE4.out, HB4.out⟩
        case measure => simp [intOf]; omega
      · have HX : Hid ((l.toL.take (k + 1)).filter (fun x => 0 ≤ x.mark) = (l.toL.take k).filter (fun x => 0 ≤ x.mark)) := by
          show _ = _
          rw [List.take_add_one, hx, List.filter_append]
          simp [hmk]
        have hmk' : ¬ 0 ≤ (l.item k).mark := hmk
        clear hx
        go_wp2_with fail
        go_roundw
        case rel => exact ⟨k + 1, n, g, by go_num, hlt, HP.out.gl, by rw [HX.out]; exact HP.out.eq, HP.out.bel⟩
        case measure => simp [intOf]; omega
    · obtain rfl : k = l.n := by omega
      obtain ⟨p, c, hv, hinF⟩ := HP.out.gl.in_ (by omega)
      subst hv
      obtain ⟨F, hF⟩ : ∃ F : LT IT, F = ⟨p, n, c, g⟩ := ⟨_, rfl⟩
      have hFl : F.toL = l.toL.filter fun x => 0 ≤ x.mark := by
        rw [hF]
        show (List.range n).map g = _
        rw [HP.out.eq, List.take_of_length_le (by rw [LT.toL_len]; exact Nat.le_refl _)]
      have hFn : F.n = n := by rw [hF]
      rw [← hF] at hinF
      have e0 : Value.slice p n c = .slice F.p F.n F.c := by rw [hF]
      have hFm : ∀ x ∈ F.toL, 0 ≤ x.mark := fun x hx => by rw [hFl] at hx; simpa using (List.mem_filter.1 hx).2
      have hFs : ∀ j, j < F.n → (F.item j).r.n + (F.item j).r.v.total ≤ 10000 := fun j hj => by
        have h1 := List.mem_of_getElem? (F.toL_get hj)
        rw [hFl] at h1
        obtain ⟨q, hq⟩ := List.getElem?_of_mem (List.mem_filter.1 h1).1
        obtain ⟨hq1, hq2⟩ := l.toL_some hq
        rw [← hq2]
        exact Nat.le_trans (l.sumI_each hq1) HSum.out
      have hgl := HP.out.gl
      have hLn : LnI wr (fun _ => False) b L := hgl.ln.z fun k _ h => h.elim
      have HPt := hid (put_any wr (fun _ => False) b L hLn (fun _ h => h.elim) F _ hinF (fun k _ hk => hk.1) hFs (by rw [hLr.out.2.1]; simp; omega))
      have HIF := hid hinF
      have HFl := hid hFl
      have HFm := hid hFm
      have HFs := hid hFs
      have HFn := hid hFn
      have hF10 : F.n ≤ 10000 := by omega
      have hBr := hid HP.out.bel
      rw [e0]
      clear hinF hFl hFm hFs hgl hLn e0 hF hFn HP hlt hnk hk
      go_wp2_with fail
      refine HPt.out.mono ?_
      intro e w3 hQ
      obtain ⟨us, L1, rfl, hcp, hq1, hs3⟩ := put_free hQ hLr.out.1 HFm.out
      rw [hLr.out.2.1, List.nil_append] at hq1
      have HCp := hid hcp
      have HQ1 := hid hq1
      have HIF3 := hid (hs3.keepL elItem HIF.out)
      have HL3 := hid hs3.ln
      have HW3 : Hid (Below w.heap.size w w3) := hBr.out.trans (hs3.but.below hBr.out.size fun k hk e => by have := hLr.out.2.2 k e; omega)
      have HB3 : Hid (∀ k, L1.C b k → w.heap.size ≤ k) := fun k hk => by
        rcases hs3.c k hk with e | e
        · exact hLr.out.2.2 k e
        · have := hBr.out.size; omega
      have H0c : Hid (PuC w3 b L1 F.toL 0 (.slice none 0 0) 0 (fun _ => rz) w3) := ⟨Nat.zero_le _, GL.nil hs3.ln _, by simp, Below.refl _ _⟩
      have hFt : F.toL.length = F.n := F.toL_len
      have HFt := hid hFt
      clear hQ hcp hq1 hs3 HPt hFt
      go_wp2_with fail
      go_loopw [9, 10] (fun v x wr => ∃ k n g, x = .int .i64 ((k : Nat) : Int) ∧ PuC w3 b L1 F.toL k v n g wr) (fun _ x _ => F.n - (intOf x).toNat)
      case atStart => exact ⟨0, 0, _, rfl, H0c.out⟩
      case round =>
        obtain ⟨k, n, g, rfl, hP⟩ := hrel
        obtain ⟨v, hv⟩ : ∃ v, v = u9 := ⟨_, rfl⟩
        rw [← hv] at hP ⊢
        clear hv H0c
        have HP := hid hP
        have hk : k ≤ F.n := by have := hP.kl; have := HFt.out; omega
        have hs1 := hP.bel.size
        have hnk : n ≤ 10000 := by
          have h1 := congrArg List.length hP.eq
          rw [List.length_map, List.length_range, List.length_map] at h1
          have h2 := List.length_filter_le (fun x : IT => decide (x.mark = 0)) (F.toL.take k)
          rw [List.length_take] at h2
          omega
        clear hP
        by_cases hlt : k < F.n
        · have hlt' : (k : Int) < (F.n : Int) := by omega
          obtain ⟨bb, o, hp, hSb, hbb, hat⟩ := HIF3.out.at_ (by omega)
          rw [hp]
          have hcell : ∀ r u, (elItem.cells (F.item k))[r]? = some u → wr.cell? ⟨bb, o + k * 7 + r, none⟩ = some u := fun r u hu => (World.cell?_of_block (a := ⟨bb, o + k * 7 + r, none⟩) (HP.out.bel.block bb hbb)).trans (hat k hlt r u hu)
          have c0 : wr.cell? ⟨bb, o + k * 7, none⟩ = some (.int .i64 (F.item k).mark) := hcell 0 _ rfl
          have c1 := hcell 1 _ rfl
          have c2 := hcell 2 _ rfl
          have c3 := hcell 3 _ rfl
          have c4 := hcell 4 _ rfl
          have c5 := hcell 5 _ rfl
          have c6 := hcell 6 _ rfl
          have hx := F.toL_get hlt
          clear hcell hat
          by_cases hmk : (F.item k).mark = 0
          · have hmk' : ((F.item k).mark == 0) = true := by simp [hmk]
            have HX : Hid ((F.toL.take (k + 1)).filter (fun x => x.mark = 0) = (F.toL.take k).filter (fun x => x.mark = 0) ++ [F.item k]) := by
              show _ = _
              rw [List.take_add_one, hx, List.filter_append]
              simp [hmk]
            have hel : RT.In wr (fun j => ¬ L1.C b j ∧ True ∧ v.ownBlock ≠ some j) (F.item k).r := by
              have h1 : IT.In w3 _ (F.item k) := HIF3.out.each k hlt
              have h2 := (h1.r.mono (S' := fun j => ¬ L1.C b j ∧ j < w3.heap.size) fun j hj hl => ⟨hj.1, hl⟩)
              refine (h2.kept hs1 fun j hj _ => HP.out.bel.block j hj.2).mono fun j hj _ => ⟨hj.1, trivial, fun e => by have := (HP.out.gl.own.lt j e).1; omega⟩
            have HEl := hid hel
            have ha : Below wr.heap.size wr (wr.alloc (.cells #[.string (F.item k).r.key, .int .i64 (F.item k).r.v.kind, .int .i64 (F.item k).r.v.int, .string (F.item k).r.v.text, .slice (F.item k).r.v.p (F.item k).r.v.n (F.item k).r.v.c, .slice (F.item k).r.p (F.item k).r.n (F.item k).r.c] 33)) := (Below.refl _ _).alloc (Nat.le_refl _) _
            have HAa := hid ha
            have HNw : Hid (∀ j u', (elRec.cells (F.item k).r)[j]? = some u' → (wr.alloc (.cells #[.string (F.item k).r.key, .int .i64 (F.item k).r.v.kind, .int .i64 (F.item k).r.v.int, .string (F.item k).r.v.text, .slice (F.item k).r.v.p (F.item k).r.v.n (F.item k).r.v.c, .slice (F.item k).r.p (F.item k).r.n (F.item k).r.c] 33)).cell? ((⟨wr.heap.size, 0, none⟩ : Addr).add j) = some u') := by
              intro j u' hu
              rw [Go.WideShapes.add_plain, (Box.new wr #[.string (F.item k).r.key, .int .i64 (F.item k).r.v.kind, .int .i64 (F.item k).r.v.int, .string (F.item k).r.v.text, .slice (F.item k).r.v.p (F.item k).r.v.n (F.item k).r.v.c, .slice (F.item k).r.p (F.item k).r.n (F.item k).r.c] 33).cell]
              rw [show 0 + j = j by omega]
              simpa [elRec, RT.cells] using hu
            clear hel ha hx hmk
            go_wp2_with (at_builtin; refine wpList_app rfl (.tmp 81) (.tmp 87) 38 33 i1 _ 6 96 HKr.out rfl w3.heap.size v n _ rfl (HP.out.gl.own.alloc _) ⟨wr.heap.size, 0, none⟩ 1 1 (elRec.cells (F.item k).r) rfl rfl HNw.out (elRec.one _) (by omega) (by omega) (by simp; omega) ?_)
            intro v4 w4 ho4 hg4 hn4
            have HG4 := hid ((HP.out.gl.below HAa.out).push (elRec.kept HEl.out HAa.out.size fun j _ hl => HAa.out.block j hl) ho4 hg4 hn4)
            have HB4 : Hid (Below w3.heap.size w3 w4) := (HP.out.bel.trans (HAa.out.mono hs1)).grown hg4 (by simp; omega) (fun j hj => (HP.out.gl.own.lt j hj).1)
            have HE4 : Hid ((List.range (n + 1)).map (fun j => if j < n then g j else (F.item k).r) = ((F.toL.take (k + 1)).filter fun x => x.mark = 0).map IT.r) := by
              show _ = _
              rw [HX.out, List.map_append, ← HP.out.eq, List.range_succ, List.map_append]
              congr 1
              · refine List.map_congr_left fun j hj => ?_
                rw [if_pos (List.mem_range.1 hj)]
              · simp
            clear ho4 hg4 hn4 HNw HAa
            go_wp2_with fail
            go_roundw
            case rel => exact ⟨k + 1, n + 1, _, by go_num, by have := HFt.out; omega, HG4.out, HE4.out, HB4.out⟩
            case measure => simp [intOf]; omega
          · have hmk' : ((F.item k).mark == 0) = false := by simp [hmk]
            have HX : Hid ((F.toL.take (k + 1)).filter (fun x => x.mark = 0) = (F.toL.take k).filter (fun x => x.mark = 0)) := by
              show _ = _
              rw [List.take_add_one, hx, List.filter_append]
              simp [hmk]
            clear hx hmk
            go_wp2_with fail
            go_roundw
            case rel => exact ⟨k + 1, n, g, by go_num, by have := HFt.out; omega, HP.out.gl, by rw [HX.out]; exact HP.out.eq, HP.out.bel⟩
            case measure => simp [intOf]; omega
        · obtain rfl : k = F.n := by omega
          obtain ⟨p, c, hv, hinR⟩ := HP.out.gl.in_ (by omega)
          subst hv
          obtain ⟨R, hR⟩ : ∃ R : LT RT, R = ⟨p, n, c, g⟩ := ⟨_, rfl⟩
          have hRl : R.toL = (F.toL.filter fun x => x.mark = 0).map IT.r := by
            rw [hR]
            show (List.range n).map g = _
            rw [HP.out.eq, List.take_of_length_le (by rw [LT.toL_len]; exact Nat.le_refl _)]
          rw [← hR] at hinR
          have e0 : Value.slice p n c = .slice R.p R.n R.c := by rw [hR]
          have hRn : R.n = nR F.toL := by
            have h1 := congrArg List.length hRl
            rw [LT.toL_len, List.length_map] at h1
            exact h1
          have HMa := hid (marksAhead_any F wr _ (HIF3.out.below (HP.out.bel)) HFm.out hF10)
          have HIR := hid hinR
          have HRl := hid hRl
          have HRn := hid hRn
          have hR10 : R.n ≤ 10000 := by rw [hRn]; exact Nat.le_trans (nR_le _) (by have := HFt.out; omega)
          have HLr := hid (HP.out.gl.ln.z (Z' := fun _ => False) fun k _ h => h.elim)
          have HIF4 := hid (HIF3.out.below HP.out.bel)
          have HWr := hid (HW3.out.trans (HP.out.bel.mono HW3.out.size))
          rw [e0]
          clear hRl hinR e0 hR hRn HP hlt hnk hk
          go_wp2_with fail
          refine HMa.out.mono ?_
          rintro e w4 ⟨P, rfl, hPi, hPn, hPe, hB4⟩
          have HL4 := hid (HLr.out.below hB4)
          have HW4 := hid (HWr.out.trans (hB4.mono HWr.out.size))
          have HR4 := hid (HIR.out.below hB4)
          have HF4 := hid (HIF4.out.below hB4)
          have HP4 : Hid (LT.In elInt w4 (fun k => ¬ L1.C b k ∧ True) P) := hPi.mono fun k hk _ => ⟨fun e => by have := HLr.out.c_lt e; omega, trivial⟩
          have HPn := hid hPn
          have HPe := hid hPe
          have hP10 : P.n ≤ 10000 := by rw [hPn]; exact Nat.le_trans (cntM_le _ _) (by have := HFt.out; omega)
          have hul : us.length = F.n := by rw [HCp.out.len]; exact HFt.out
          have HUl := hid hul
          have H03 : Hid (LSet w4 (fun _ => False) b L1 w4 L1) := LSet.refl HL4.out
          clear hPi hPn hPe hB4 HMa hul HLr HIR HIF3 HIF4
          go_wp2_with fail
          go_loopw [12, 13] (fun y x wr => ∃ i L2, i ≤ F.n ∧ x = .int .i64 ((i : Nat) : Int) ∧ y = .int .i64 (cntM F.toL i : Nat) ∧ LSet w4 (fun _ => False) b L1 wr L2 ∧ L2.q = pulled us i) (fun _ x _ => F.n - (intOf x).toNat)
          case atStart => exact ⟨0, L1, Nat.zero_le _, rfl, rfl, H03.out, by rw [pulled_0]; exact HQ1.out⟩
          case round =>
            obtain ⟨i, L2, hi, rfl, rfl, hs, hq⟩ := hrel
            have HS := hid hs
            have HQ := hid hq
            have hci : cntM F.toL i ≤ 10000 := Nat.le_trans (cntM_le _ _) (by have := HFt.out; omega)
            have hs4 := hs.but.size
            have HF5 := hid (hs.keepL elItem HF4.out)
            have HR5 := hid (hs.keepL elRec HR4.out)
            have HP5 := hid (hs.keepL elInt HP4.out)
            clear hs hq H03
            by_cases hlt : i < F.n
            · have hlt' : (i : Int) < (F.n : Int) := by omega
              obtain ⟨bb, o, hp, hSb, hbb, hat⟩ := HF5.out.at_ (by omega)
              rw [hp]
              have hcell : ∀ r u, (elItem.cells (F.item i))[r]? = some u → wr.cell? ⟨bb, o + i * 7 + r, none⟩ = some u := hat i hlt
              have c0 : wr.cell? ⟨bb, o + i * 7, none⟩ = some (.int .i64 (F.item i).mark) := hcell 0 _ rfl
              have hx := F.toL_get hlt
              obtain ⟨u, hu, hcu⟩ := HCp.out.get hx
              have hm0 := HFm.out _ (List.mem_of_getElem? hx)
              clear hcell
              by_cases hmk : 0 < (F.item i).mark
              · have hne : (F.item i).mark ≠ 0 := by omega
                have hune : u.mark ≠ 0 := by rw [hcu.m]; exact hne
                obtain ⟨hpa, hpb⟩ := pulled_mark us hu hune
                rw [hpa] at HQ
                have HPl := hid (pull_some wr (fun _ => False) b L2 HS.out.ln (fun _ h => h.elim) ((us.take i).filter fun x => x.mark = 0) u (us.drop (i + 1)) HQ.out (fun x hx => by simpa using (List.mem_filter.1 hx).2) hune)
                rw [show u.mark = (F.item i).mark from hcu.m] at HPl
                have HX := hid (And.intro hpb (And.intro (cntM_mark hx hne) (And.intro (HPe.out i _ hx hne) hx)))
                have hkp : cntM F.toL i < P.n := by
                  have h1 := cntM_mark hx hne
                  have h2 := cntM_mono F.toL (show i + 1 ≤ F.toL.length by have := HFt.out; omega)
                  rw [HPn.out]; omega
                obtain ⟨b3, o3, hp3, _, _, _⟩ := HP5.out.at_ (by omega)
                rw [hp3]
                clear hat hune hpa hpb hne hx hcu hu
                go_wp2_with fail
                refine HPl.out.mono ?_
                rintro e w5 ⟨ah, rfl, hpl⟩
                obtain ⟨ch, cap, hset⟩ := hpl.set
                have HS5 := hid (LSet.trans HS.out hset)
                have hF6 := hset.keepL elItem HF5.out
                have hR6 := hset.keepL elRec HR5.out
                have hP6 := hset.keepL elInt HP5.out
                obtain ⟨b2, o2, hp2, _, hb2, hat2⟩ := hF6.at_ (by omega)
                rw [hp] at hp2
                injection hp2 with hp2
                injection hp2 with hp2a hp2b
                subst hp2a hp2b
                have d0 : w5.cell? ⟨bb, o + i * 7, none⟩ = some (.int .i64 (F.item i).mark) := hat2 i hlt 0 _ rfl
                obtain ⟨b4, o4, hp4, _, hb3, hat3⟩ := hP6.at_ (by omega)
                rw [hp3] at hp4
                injection hp4 with hp4
                injection hp4 with hp4a hp4b
                subst hp4a hp4b
                have d1 : w5.cell? ⟨b3, o3 + cntM F.toL i, none⟩ = some (.int .i64 (nR (F.toL.take i) : Nat)) := by
                  have := hat3 (cntM F.toL i) hkp 0 _ rfl
                  rw [show P.item (cntM F.toL i) = _ from HX.out.2.2.1] at this
                  simpa [elInt] using this
                have hle : nR (F.toL.take i) ≤ R.n := by
                  rw [HRn.out]
                  have h1 := List.take_append_drop i F.toL
                  have h2 : nR F.toL = nR (F.toL.take i) + nR (F.toL.drop i) := by rw [← nR_append, h1]
                  omega
                have hRc := hR6.nc
                have hRnil := hR6.nil
                have HSm := hid (sameRecs_yes ah ⟨R.p, nR (F.toL.take i), R.c, R.item⟩ w5 _ _ hpl.in_ (hR6.take hle) (by
                  show nR (F.toL.take i) = ah.n
                  rw [hpl.n]
                  exact ((HCp.out.take i).filter.len).symm) (fun j hj => by
                  rw [hpl.n] at hj
                  obtain ⟨y, hy⟩ : ∃ y, ((us.take i).filter fun x => x.mark = 0)[j]? = some y := ⟨_, List.getElem?_eq_getElem hj⟩
                  obtain ⟨z, hz, hzy⟩ := (HCp.out.take i).recs hy
                  have ha := hpl.each j y hy
                  have hRj : R.toL[j]? = some z.r := by
                    rw [HRl.out]
                    have h1 : (F.toL.filter fun x => x.mark = 0)[j]? = some z := by
                      rw [← List.take_append_drop i F.toL, List.filter_append]
                      rw [List.getElem?_append_left (by
                        rcases Nat.lt_or_ge j ((F.toL.take i).filter fun x => x.mark = 0).length with h | h
                        · exact h
                        · rw [List.getElem?_eq_none h] at hz; cases hz)]
                      exact hz
                    rw [List.getElem?_map, h1]
                    rfl
                  have hRe := (R.toL_some hRj).2
                  show RT.Alike (ah.item j) (R.item j)
                  rw [hRe]
                  refine RT.Alike.two (t := z.r) ⟨ha.key.trans hzy.key, hzy.v.trans ha.v, ha.n.trans hzy.n, fun q hq => (ha.loop q (by rw [hzy.n]; exact hq)).trans (hzy.loop q hq)⟩ ⟨rfl, VT.Alike.refl _, rfl, fun _ _ => rfl⟩ (hpl.in_.each j (by rw [hpl.n]; exact hj))))
                have hRp : R.p = none → nR (F.toL.take i) = 0 := fun e => by have := hRnil e; omega
                have hsz : R.c ≤ maxLen := hR6.cc
                clear hat2 hat3 hpl hset hF6 hR6 hP6 HPl c0
                have hle' : ((nR (F.toL.take i) : Nat) : Int) ≤ (R.c : Int) := by omega
                have hle2 : nR (F.toL.take i) ≤ R.c := by omega
                go_wp2_with fail
                refine HSm.out.mono ?_
                rintro e w6 ⟨rfl, hB6⟩
                have HS6 := hid (LSet.trans HS5.out (LSet.below HS5.out.ln hB6))
                clear hB6 HSm d0 d1
                go_wp2_with fail
                go_roundw
                case rel => exact ⟨i + 1, _, by omega, by go_num, by rw [HX.out.2.1]; go_num, HS6.out, HX.out.1.symm⟩
                case measure => simp [intOf]; omega
              · have hz : (F.item i).mark = 0 := by omega
                have HX := hid (And.intro (pulled_rec us hu (hcu.m.trans hz)) (cntM_rec hx hz))
                have hmk' : ¬ 0 < (F.item i).mark := hmk
                clear hat hz hx hcu hu
                go_wp2_with fail
                go_roundw
                case rel => exact ⟨i + 1, L2, by omega, by go_num, by rw [HX.out.2], HS.out, by rw [HX.out.1]; exact HQ.out⟩
                case measure => simp [intOf]; omega
            · obtain rfl : i = F.n := by omega
              have hqe : L2.q = us.filter fun x => x.mark = 0 := by rw [HQ.out, ← HUl.out, pulled_end]
              have HPl := hid (pull_none wr (fun _ => False) b L2 HS.out.ln (by rw [hqe]; exact nR_filter us))
              have HQe := hid hqe
              have hrl : (us.filter fun x => x.mark = 0).length = R.n := by rw [HRn.out, ← HCp.out.nR]; rfl
              have HRq := hid hrl
              clear hqe hlt hrl
              go_wp2_with fail
              refine HPl.out.mono ?_
              rintro e w5 ⟨rfl, hB5⟩
              have HS5 := hid (LSet.trans HS.out (LSet.below HS.out.ln hB5))
              have HW5 : Hid (Below w.heap.size w w5) := HW4.out.trans (HS5.out.but.below HW4.out.size fun k hk e => by have := HB3.out k e; omega)
              have HC5 : Hid (∀ k, L2.C b k → w.heap.size ≤ k) := fun k hk => by
                rcases HS.out.c k hk with e | e
                · exact HB3.out k e
                · have := HW4.out.size; omega
              have HR6 := hid (HR5.out.below hB5)
              have HL6 := hid (HS.out.ln.below hB5)
              have H04 : Hid (LSet w5 (fun _ => False) b L2 w5 L2) := LSet.refl HL6.out
              clear hB5 HPl
              go_wp2_with fail
              go_loopw [18] (fun x wr => ∃ i L3, i ≤ R.n ∧ x = .int .i64 ((i : Nat) : Int) ∧ LSet w5 (fun _ => False) b L2 wr L3 ∧ L3.q = (us.filter fun x => x.mark = 0).drop i) (fun x _ => R.n - (intOf x).toNat)
              case atStart => exact ⟨0, L2, Nat.zero_le _, rfl, H04.out, by rw [List.drop_zero]; exact HQe.out⟩
              case round =>
                obtain ⟨i, L3, hi, rfl, hs, hq⟩ := hrel
                have HS := hid hs
                have HR7 := hid (hs.keepL elRec HR6.out)
                clear H04
                by_cases hlt : i < R.n
                · have hlt' : (i : Int) < (R.n : Int) := by omega
                  have hil : i < (us.filter fun x => x.mark = 0).length := by rw [HRq.out]; exact hlt
                  obtain ⟨x, hx⟩ : ∃ x, (us.filter fun x => x.mark = 0)[i]? = some x := ⟨_, List.getElem?_eq_getElem hil⟩
                  obtain ⟨q', hq'⟩ : ∃ q', q' = (us.filter fun x => x.mark = 0).drop (i + 1) := ⟨_, rfl⟩
                  have hq2 : L3.q = x :: q' := by
                    rw [hq, hq', List.drop_eq_getElem_cons hil]
                    rw [List.getElem?_eq_getElem hil] at hx
                    injection hx with hx
                    rw [hx]
                  have HTk := hid (take_some wr (fun _ => False) b L3 hs.ln x q' hq2)
                  have hxi := hs.ln.it x (by rw [hq2]; exact List.mem_cons_self)
                  have hx0 : x.mark = 0 := by
                    have := List.mem_of_getElem? hx
                    simpa using (List.mem_filter.1 this).2
                  obtain ⟨z, hz, hzx⟩ := HCp.out.recs hx
                  have hRj : R.item i = z.r := (R.toL_some (j := i) (by rw [HRl.out, List.getElem?_map, hz]; rfl)).2
                  have HX := hid (And.intro hxi (And.intro hq' hzx))
                  have hx0' : (x.mark != 0) = false := by simp [hx0]
                  have HX0 := hid hx0
                  have HRj := hid hRj
                  obtain ⟨bb, o, hp, _, _, _⟩ := HR7.out.at_ (by omega)
                  rw [hp]
                  clear hs hq hx hq2 hxi hx0 hz hzx hRj hq'
                  go_wp2_with fail
                  refine HTk.out.mono ?_
                  rintro e w6 ⟨rfl, ht⟩
                  have HT := hid ht
                  have HX6 := hid (ht.keep elItem HX.out.1.1)
                  have hR8 := ht.keepL elRec HR7.out
                  obtain ⟨W, hW⟩ : ∃ W, W = w6.alloc (.cells #[.int .i64 x.mark, .string x.r.key, .int .i64 x.r.v.kind, .int .i64 x.r.v.int, .string x.r.v.text, .slice x.r.v.p x.r.v.n x.r.v.c, .slice x.r.p x.r.n x.r.c] 35) := ⟨_, rfl⟩
                  have hB : Below w6.heap.size w6 W := by rw [hW]; exact (Below.refl _ _).alloc (Nat.le_refl _) _
                  have hXb : Box W w6.heap.size #[.int .i64 x.mark, .string x.r.key, .int .i64 x.r.v.kind, .int .i64 x.r.v.int, .string x.r.v.text, .slice x.r.v.p x.r.v.n x.r.v.c, .slice x.r.p x.r.n x.r.c] 35 := by rw [hW]; exact Box.new _ _ _
                  have hR9 := hR8.below hB
                  obtain ⟨b2, o2, hp2, _, hbb, hat⟩ := hR9.at_ (by omega)
                  rw [hp] at hp2
                  injection hp2 with hp2
                  injection hp2 with hp2a hp2b
                  subst hp2a hp2b
                  have f0 : W.cell? ⟨bb, o + i * 6, none⟩ = some (.string (R.item i).key) := hat i hlt 0 _ rfl
                  have f1 : W.cell? ⟨bb, o + i * 6 + 1, none⟩ = some (.int .i64 (R.item i).v.kind) := hat i hlt 1 _ rfl
                  have f2 : W.cell? ⟨bb, o + i * 6 + 2, none⟩ = some (.int .i64 (R.item i).v.int) := hat i hlt 2 _ rfl
                  have f3 : W.cell? ⟨bb, o + i * 6 + 3, none⟩ = some (.string (R.item i).v.text) := hat i hlt 3 _ rfl
                  have f4 : W.cell? ⟨bb, o + i * 6 + 4, none⟩ = some (.slice (R.item i).v.p (R.item i).v.n (R.item i).v.c) := hat i hlt 4 _ rfl
                  have f5 : W.cell? ⟨bb, o + i * 6 + 5, none⟩ = some (.slice (R.item i).p (R.item i).n (R.item i).c) := hat i hlt 5 _ rfl
                  have z0 := hXb.cell 0
                  have z1 := hXb.cell 1
                  have z2 := hXb.cell 2
                  have z3 := hXb.cell 3
                  have z4 := hXb.cell 4
                  have z5 := hXb.cell 5
                  have z6 := hXb.cell 6
                  simp at z0 z1 z2 z3 z4 z5 z6
                  have HC : Hid (∀ V, Below W.heap.size W V → Calls Try.prog 14 #[.agg #[.string x.r.key, .int .i64 x.r.v.kind, .int .i64 x.r.v.int, .string x.r.v.text, .slice x.r.v.p x.r.v.n x.r.v.c, .slice x.r.p x.r.n x.r.c], .agg #[.string (R.item i).key, .int .i64 (R.item i).v.kind, .int .i64 (R.item i).v.int, .string (R.item i).v.text, .slice (R.item i).v.p (R.item i).v.n (R.item i).v.c, .slice (R.item i).p (R.item i).n (R.item i).c]] V fun e w' => e = .returned (.bool true) ∧ Below V.heap.size V w') := fun V hV => sameRec_yes x.r (R.item i) V _ _ ((IT.In.below HX6.out hB).r.below hV) (RT.In.below (hR9.each i hlt) hV) (by rw [HRj.out]; exact RT.Alike.two (t := z.r) HX.out.2.2 ⟨rfl, VT.Alike.refl _, rfl, fun _ _ => rfl⟩ HX6.out.r)
                  have HSw := hid (LSet.trans (LSet.trans HS.out ht) (LSet.below ht.ln hB))
                  have HW := hid hW
                  have xl := hXb.lt
                  clear hat hB hXb hR8 hR9 ht HTk hW
                  unfold IT.val
                  go_upto_region 38 with fail
                  rw [← HW.out]
                  refine wp_region_calmE 30 (fun wx => Below W.heap.size W wx) [(0, true), (1, true), (2, true), (3, true), (4, false), (5, true), (6, true), (7, true), (8, true), (9, false), (10, true), (11, true), (12, true), (13, false)] (.one 14 false [(15, true), (16, true)] .done) (by kernel_rfl) (by kernel_rfl) (Below.refl _ _).drew ?_
                  refine wpPre_e rfl rfl (fun K1 hK1 => ?_)
                  apply Exists.intro
                  refine And.intro (fun wx hx => ?_) ?_
                  · go_simp
                    try rfl
                  go_simp
                  refine hK1 _ ?_
                  clear hK1 K1
                  refine wpPre_e rfl rfl (fun K1 hK1 => ?_)
                  apply Exists.intro
                  refine And.intro (fun wx hx => ?_) ?_
                  · go_simp
                    try rfl
                  go_simp
                  refine hK1 _ ?_
                  clear hK1 K1
                  refine wpPre_e rfl rfl (fun K1 hK1 => ?_)
                  apply Exists.intro
                  refine And.intro (fun wx hx => ?_) ?_
                  · go_simp
                    try rfl
                  go_simp
                  refine hK1 _ ?_
                  clear hK1 K1
                  refine wpPre_i rfl (fun K1 hK1 => ?_)
                  rw [if_pos (by go_simp)]
                  apply Exists.intro
                  refine And.intro (fun wx hx => ?_) ?_
                  · go_simp
                    try rfl
                  go_simp
                  refine hK1 _ ?_
                  clear hK1 K1
                  refine wpPre_i rfl (fun K1 hK1 => ?_)
                  rw [if_pos (by go_simp)]
                  apply Exists.intro
                  refine And.intro (fun wx hx => ?_) ?_
                  · have e0 := below_fact hx rfl z0
                    have e1 := below_fact hx rfl z1
                    have e2 := below_fact hx rfl z2
                    have e3 := below_fact hx rfl z3
                    have e4 := below_fact hx rfl z4
                    have e5 := below_fact hx rfl z5
                    have e6 := below_fact hx rfl z6
                    have e7 := below_fact hx rfl f0
                    have e8 := below_fact hx rfl f1
                    have e9 := below_fact hx rfl f2
                    have e10 := below_fact hx rfl f3
                    have e11 := below_fact hx rfl f4
                    have e12 := below_fact hx rfl f5
                    go_simp
                    try rfl
                  go_simp
                  refine hK1 _ ?_
                  clear hK1 K1
                  refine wpPre_i rfl (fun K1 hK1 => ?_)
                  rw [if_pos (by go_simp)]
                  apply Exists.intro
                  refine And.intro (fun wx hx => ?_) ?_
                  · go_simp
                    try rfl
                  go_simp
                  refine hK1 _ ?_
                  clear hK1 K1
                  refine wpPre_e rfl rfl (fun K1 hK1 => ?_)
                  apply Exists.intro
                  refine And.intro (fun wx hx => ?_) ?_
                  · go_simp
                    try rfl
                  go_simp
                  refine hK1 _ ?_
                  clear hK1 K1
                  refine wpPre_e rfl rfl (fun K1 hK1 => ?_)
                  apply Exists.intro
                  refine And.intro (fun wx hx => ?_) ?_
                  · go_simp
                    try rfl
                  go_simp
                  refine hK1 _ ?_
                  clear hK1 K1
                  refine wpPre_i rfl (fun K1 hK1 => ?_)
                  rw [if_pos (by go_simp)]
                  apply Exists.intro
                  refine And.intro (fun wx hx => ?_) ?_
                  · go_simp
                    try rfl
                  go_simp
                  refine hK1 _ ?_
                  clear hK1 K1
                  refine wpPre_i rfl (fun K1 hK1 => ?_)
                  rw [if_pos (by go_simp)]
                  apply Exists.intro
                  refine And.intro (fun wx hx => ?_) ?_
                  · have e0 := below_fact hx rfl z0
                    have e1 := below_fact hx rfl z1
                    have e2 := below_fact hx rfl z2
                    have e3 := below_fact hx rfl z3
                    have e4 := below_fact hx rfl z4
                    have e5 := below_fact hx rfl z5
                    have e6 := below_fact hx rfl z6
                    have e7 := below_fact hx rfl f0
                    have e8 := below_fact hx rfl f1
                    have e9 := below_fact hx rfl f2
                    have e10 := below_fact hx rfl f3
                    have e11 := below_fact hx rfl f4
                    have e12 := below_fact hx rfl f5
                    go_simp
                    try rfl
                  go_simp
                  refine hK1 _ ?_
                  clear hK1 K1
                  refine wpPre_i rfl (fun K1 hK1 => ?_)
                  rw [if_pos (by go_simp)]
                  apply Exists.intro
                  refine And.intro (fun wx hx => ?_) ?_
                  · go_simp
                    try rfl
                  go_simp
                  refine hK1 _ ?_
                  clear hK1 K1
                  refine wpPre_i rfl (fun K1 hK1 => ?_)
                  rw [if_pos (by go_simp)]
                  apply Exists.intro
                  refine And.intro (fun wx hx => ?_) ?_
                  · go_simp
                    try rfl
                  go_simp
                  refine hK1 _ ?_
                  clear hK1 K1
                  refine wpPre_i rfl (fun K1 hK1 => ?_)
                  rw [if_pos (by go_simp)]
                  apply Exists.intro
                  refine And.intro (fun wx hx => ?_) ?_
                  · go_simp
                    try rfl
                  go_simp
                  refine hK1 _ ?_
                  clear hK1 K1
                  refine wpPre_i rfl (fun K1 hK1 => ?_)
                  rw [if_pos (by go_simp)]
                  apply Exists.intro
                  refine And.intro (fun wx hx => ?_) ?_
                  · have e0 := below_fact hx rfl z0
                    have e1 := below_fact hx rfl z1
                    have e2 := below_fact hx rfl z2
                    have e3 := below_fact hx rfl z3
                    have e4 := below_fact hx rfl z4
                    have e5 := below_fact hx rfl z5
                    have e6 := below_fact hx rfl z6
                    have e7 := below_fact hx rfl f0
                    have e8 := below_fact hx rfl f1
                    have e9 := below_fact hx rfl f2
                    have e10 := below_fact hx rfl f3
                    have e11 := below_fact hx rfl f4
                    have e12 := below_fact hx rfl f5
                    go_simp
                    try rfl
                  go_simp
                  refine hK1 _ ?_
                  clear hK1 K1
                  refine wpPre_nil ?_
                  refine wpTr_e rfl (fun K1 hK1 => ?_)
                  refine step_callG (by go_simp) 14 #[.tmp 160, .tmp 164] _ rfl Try.f14 Try.func14 (by kernel_rfl) rfl #[.agg #[.string x.r.key, .int .i64 x.r.v.kind, .int .i64 x.r.v.int, .string x.r.v.text, .slice x.r.v.p x.r.v.n x.r.v.c, .slice x.r.p x.r.n x.r.c], .agg #[.string (R.item i).key, .int .i64 (R.item i).v.kind, .int .i64 (R.item i).v.int, .string (R.item i).v.text, .slice (R.item i).v.p (R.item i).v.n (R.item i).v.c, .slice (R.item i).p (R.item i).n (R.item i).c]] rfl _ (HC.out _ (Below.refl _ _).drew) (fun e w7 h7 => ?_)
                  obtain ⟨rfl, hb7⟩ := h7
                  refine ⟨_, rfl, ?_⟩
                  have HSz := hid (LSet.trans HSw.out (LSet.below HSw.out.ln ((Below.refl W.heap.size W).drew.trans hb7)))
                  clear hb7
                  go_simp
                  refine hK1 _ _ (fun h => by cases h) ?_
                  clear hK1 K1
                  refine wpPre_i rfl (fun K1 hK1 => ?_)
                  rw [if_pos (by go_simp)]
                  apply Exists.intro
                  refine And.intro (fun wx hx => ?_) ?_
                  · go_simp
                    try rfl
                  go_simp
                  refine hK1 _ ?_
                  clear hK1 K1
                  refine wpPre_e rfl rfl (fun K1 hK1 => ?_)
                  apply Exists.intro
                  refine And.intro (fun wx hx => ?_) ?_
                  · go_simp
                    try rfl
                  go_simp
                  refine hK1 _ ?_
                  clear hK1 K1
                  refine wpPre_nil ?_
                  refine wpTr_done ?_
                  go_wp2_with fail
                  go_roundw
                  case rel => exact ⟨i + 1, _, hlt, by go_num, HSz.out, HX.out.2.1⟩
                  case measure => simp [intOf]; omega
                · obtain rfl : i = R.n := by omega
                  have hq0 : L3.q = [] := by rw [hq, ← HRq.out, List.drop_length]
                  have HTk := hid (take_none wr (fun _ => False) b L3 hs.ln hq0)
                  have HWz : Hid (Below w.heap.size w wr) := HW5.out.trans (hs.but.below HW5.out.size fun k hk e => by have := HC5.out k e; omega)
                  clear hs hq hq0 hlt
                  go_wp2_with fail
                  refine HTk.out.mono ?_
                  rintro e w6 ⟨rfl, hB6⟩
                  have HW6 := hid (HWz.out.trans (hB6.mono HWz.out.size))
                  have hs6 := HW6.out.size
                  clear hB6 HTk
                  unfold zI
                  go_wp2
                  exact bodyPost_ret (v := .bool true) (by simp [results, Try.results3, go_sem]) rfl ⟨rfl, HW6.out.alloc hs6 _⟩
end Go.Proofs.Ytbcnlfbclgkeiaa
