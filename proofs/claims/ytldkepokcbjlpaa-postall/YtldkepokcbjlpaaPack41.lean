import Derived.Test.YtldkepokcbjlpaaPack40
import Derived.Deep.DeepCutAuto
namespace Go.Proofs.Ytldkepokcbjlpaa
open Go.RowKit Go.Conc
set_option maxRecDepth 60000
set_option maxHeartbeats 16000000 in
theorem yState (num : Int) (l u : LT VT) (w : World) (S R : Nat → Prop) (hl : LT.In elCell w S l) (hu : LT.In elCell w R u) (ha : LAlk VT.Alike l u) : Calls Try.prog 37 #[.agg #[.int .i64 num, .slice l.p l.n l.c], .agg #[.int .i64 num, .slice u.p u.n u.c]] w fun e w' => Yes w e w' := by
  have hnn := hl.nn
  have hn := ha.n
  rw [hn]
  have HL := hid hl
  have HU := hid hu
  have HA := hid ha
  have HN := hid hn
  obtain ⟨W, hW⟩ : ∃ V, V = (w.alloc (.cells #[.int .i64 num, .slice l.p l.n l.c] 35)).alloc (.cells #[.int .i64 num, .slice u.p l.n u.c] 35) := ⟨_, rfl⟩
  have hB : Below w.heap.size w W := by rw [hW]; exact ((Below.refl _ _).alloc (Nat.le_refl _) _).alloc (by simp) _
  have hX : Box W w.heap.size #[.int .i64 num, .slice l.p l.n l.c] 35 := by rw [hW]; exact (Box.new _ _ _).below ((Below.refl _ _).alloc (Nat.le_refl _) _)
  have hY : Box W (w.heap.size + 1) #[.int .i64 num, .slice u.p l.n u.c] 35 := by
    have h := Box.new (w.alloc (.cells #[.int .i64 num, .slice l.p l.n l.c] 35)) #[.int .i64 num, .slice u.p l.n u.c] 35
    rw [← hW] at h
    simpa using h
  have HX := hid hX
  have HY := hid hY
  have HB := hid hB
  have HW := hid hW
  have x0 := hX.cell 0
  have x1 := hX.cell 1
  have y0 := hY.cell 0
  have y1 := hY.cell 1
  have xl := hX.lt
  have yl := hY.lt
  simp at x0 x1 y0 y1
  clear hl hu ha hn hX hY hB hW
  go_enter Try.func37, Try.ntmps37
  go_upto_region 1 with fail
  rw [← HW.out]
  go_wp2_with fail
  go_loopw [5] (fun x wr => ∃ k : Nat, k ≤ l.n ∧ x = .int .i64 (k : Int) ∧ Below W.heap.size W wr) (fun x _ => l.n - (intOf x).toNat)
  case atStart => exact ⟨0, Nat.zero_le _, rfl, Below.refl _ _⟩
  case round =>
    obtain ⟨k, hk, rfl, hb⟩ := hrel
    have HBk := hid hb
    have d1 := (World.cell?_of_block (a := ⟨w.heap.size, 1, none⟩) (hb.block _ xl)).trans x1
    have e1 := (World.cell?_of_block (a := ⟨w.heap.size + 1, 1, none⟩) (hb.block _ yl)).trans y1
    have xlr := Nat.lt_of_lt_of_le xl hb.size
    have ylr := Nat.lt_of_lt_of_le yl hb.size
    have hbw := HB.out.trans (hb.mono HB.out.size)
    have HBw := hid hbw
    by_cases hlt : k < l.n
    · have hlt' : (k : Int) < (l.n : Int) := by omega
      have hlu : k < u.n := by rw [HN.out]; exact hlt
      obtain ⟨b1, o1, hp, _, hl1, hat⟩ := HL.out.at_ (by omega)
      obtain ⟨b2, o2, hp', _, hl2, hat'⟩ := HU.out.at_ (by omega)
      have a0 : wr.cell? ⟨b1, o1 + k * 2, none⟩ = some (.string (l.item k).text) := (World.cell?_of_block (a := ⟨b1, o1 + k * 2, none⟩) (hbw.block b1 hl1)).trans (hat k hlt 0 _ rfl)
      have a1 : wr.cell? ⟨b1, o1 + k * 2 + 1, none⟩ = some (.slice (l.item k).p (l.item k).n (l.item k).c) := (World.cell?_of_block (a := ⟨b1, o1 + k * 2 + 1, none⟩) (hbw.block b1 hl1)).trans (hat k hlt 1 _ rfl)
      have b0 : wr.cell? ⟨b2, o2 + k * 2, none⟩ = some (.string (u.item k).text) := (World.cell?_of_block (a := ⟨b2, o2 + k * 2, none⟩) (hbw.block b2 hl2)).trans (hat' k hlu 0 _ rfl)
      have b1' : wr.cell? ⟨b2, o2 + k * 2 + 1, none⟩ = some (.slice (u.item k).p (u.item k).n (u.item k).c) := (World.cell?_of_block (a := ⟨b2, o2 + k * 2 + 1, none⟩) (hbw.block b2 hl2)).trans (hat' k hlu 1 _ rfl)
      have HIl : Hid (VT.In w S (l.item k)) := HL.out.each k hlt
      have HIu : Hid (VT.In w R (u.item k)) := HU.out.each k hlu
      have hal := HA.out.item k hlt
      have HAk := hid hal
      obtain ⟨at0, at1⟩ : (u.item k).text = (l.item k).text ∧ (u.item k).n = (l.item k).n := by
        obtain ⟨k9, i9, s9, n9, p9, c9, f9, h9⟩ := HIl.out.mk_
        rw [h9] at hal ⊢
        exact ⟨hal.2.2.1, hal.2.2.2.1⟩
      rw [at0] at b0
      rw [at1] at b1'
      have b1 := b1'
      rw [hp] at d1
      rw [hp'] at e1
      have hk2 : (l.item k).n ≤ 140737488355328 := HIl.out.fit.nn
      clear hat hat' hb hp hp' hbw b1' hal at0
      have HN2 := hid at1
      clear at1
      go_wp2_with fail
      go_cut [6, 7] (fun s6 s7 wx => ∃ cb db, s6 = .pointer (some ⟨cb, 0, none⟩) ∧ s7 = .pointer (some ⟨db, 0, none⟩) ∧ Box wx cb #[.string (l.item k).text, .slice (l.item k).p (l.item k).n (l.item k).c] 122 ∧ Box wx db #[.string (l.item k).text, .slice (u.item k).p (l.item k).n (u.item k).c] 122 ∧ Below wr.heap.size wr wx)
      case first =>
        refine wp_region_calmE 30 (fun wx => Below wr.heap.size wr wx) [(0, true), (1, false), (2, true), (3, true), (4, false), (5, true), (6, false), (7, true), (8, true), (9, false)] (.two 10 true [] (.one 11 true [] (.one 12 true [] (.one 13 true [] .done))) 11 true [] (.one 10 true [] (.one 12 true [] (.one 13 true [] .done)))) (by kernel_rfl) (by kernel_rfl) (Below.refl _ _).drew ?_
        refine wpPre_e rfl rfl (fun K1 hK1 => ?_)
        apply Exists.intro
        refine And.intro (fun wx hx => ?_) ?_
        · go_simp
          try rfl
        go_simp
        refine hK1 _ ?_
        clear hK1 K1
        refine wpPre_e rfl rfl (fun K1 hK1 => ?_)
        apply Exists.intro
        refine And.intro (fun wx hx => ?_) ?_
        · have e0 := below_fact hx rfl d1
          have e1 := below_fact hx rfl e1
          have e2 := below_fact hx rfl a0
          have e3 := below_fact hx rfl a1
          have e4 := below_fact hx rfl b0
          have e5 := below_fact hx rfl b1
          go_simp
          try rfl
        go_simp
        refine hK1 _ ?_
        clear hK1 K1
        refine wpPre_e rfl rfl (fun K1 hK1 => ?_)
        apply Exists.intro
        refine And.intro (fun wx hx => ?_) ?_
        · go_simp
          try rfl
        go_simp
        refine hK1 _ ?_
        clear hK1 K1
        refine wpPre_e rfl rfl (fun K1 hK1 => ?_)
        apply Exists.intro
        refine And.intro (fun wx hx => ?_) ?_
        · go_simp
          try rfl
        go_simp
        refine hK1 _ ?_
        clear hK1 K1
        refine wpPre_e rfl rfl (fun K1 hK1 => ?_)
        apply Exists.intro
        refine And.intro (fun wx hx => ?_) ?_
        · have e0 := below_fact hx rfl d1
          have e1 := below_fact hx rfl e1
          have e2 := below_fact hx rfl a0
          have e3 := below_fact hx rfl a1
          have e4 := below_fact hx rfl b0
          have e5 := below_fact hx rfl b1
          go_simp
          try rfl
        go_simp
        refine hK1 _ ?_
        clear hK1 K1
        refine wpPre_e rfl rfl (fun K1 hK1 => ?_)
        apply Exists.intro
        refine And.intro (fun wx hx => ?_) ?_
        · go_simp
          try rfl
        go_simp
        refine hK1 _ ?_
        clear hK1 K1
        refine wpPre_e rfl rfl (fun K1 hK1 => ?_)
        apply Exists.intro
        refine And.intro (fun wx hx => ?_) ?_
        · have e0 := below_fact hx rfl d1
          have e1 := below_fact hx rfl e1
          have e2 := below_fact hx rfl a0
          have e3 := below_fact hx rfl a1
          have e4 := below_fact hx rfl b0
          have e5 := below_fact hx rfl b1
          go_simp
          try rfl
        go_simp
        refine hK1 _ ?_
        clear hK1 K1
        refine wpPre_e rfl rfl (fun K1 hK1 => ?_)
        apply Exists.intro
        refine And.intro (fun wx hx => ?_) ?_
        · go_simp
          try rfl
        go_simp
        refine hK1 _ ?_
        clear hK1 K1
        refine wpPre_e rfl rfl (fun K1 hK1 => ?_)
        apply Exists.intro
        refine And.intro (fun wx hx => ?_) ?_
        · go_simp
          try rfl
        go_simp
        refine hK1 _ ?_
        clear hK1 K1
        refine wpPre_e rfl rfl (fun K1 hK1 => ?_)
        apply Exists.intro
        refine And.intro (fun wx hx => ?_) ?_
        · have e0 := below_fact hx rfl d1
          have e1 := below_fact hx rfl e1
          have e2 := below_fact hx rfl a0
          have e3 := below_fact hx rfl a1
          have e4 := below_fact hx rfl b0
          have e5 := below_fact hx rfl b1
          go_simp
          try rfl
        go_simp
        refine hK1 _ ?_
        clear hK1 K1
        refine wpPre_nil ?_
        refine And.intro ?_ ?_
        · refine wpTr_op rfl (fun K1 hK1 => ?_)
          go_simp
          refine hK1 _ _ (fun _ => by first | exact ((Below.refl wr.heap.size wr).alloc (Nat.le_refl _) _).drew | exact (((Below.refl wr.heap.size wr).alloc (Nat.le_refl _) _).alloc (by simp) _).drew | skip) ?_
          clear hK1 K1
          refine wpPre_nil ?_
          refine wpTr_e rfl (fun K1 hK1 => ?_)
          go_simp
          refine hK1 _ _ (fun _ => by first | exact ((Below.refl wr.heap.size wr).alloc (Nat.le_refl _) _).drew | exact (((Below.refl wr.heap.size wr).alloc (Nat.le_refl _) _).alloc (by simp) _).drew | skip) ?_
          clear hK1 K1
          refine wpPre_nil ?_
          refine wpTr_e rfl (fun K1 hK1 => ?_)
          go_simp
          refine hK1 _ _ (fun _ => by first | exact ((Below.refl wr.heap.size wr).alloc (Nat.le_refl _) _).drew | exact (((Below.refl wr.heap.size wr).alloc (Nat.le_refl _) _).alloc (by simp) _).drew | skip) ?_
          clear hK1 K1
          refine wpPre_nil ?_
          refine wpTr_e rfl (fun K1 hK1 => ?_)
          go_simp
          refine hK1 _ _ (fun _ => by first | exact ((Below.refl wr.heap.size wr).alloc (Nat.le_refl _) _).drew | exact (((Below.refl wr.heap.size wr).alloc (Nat.le_refl _) _).alloc (by simp) _).drew | skip) ?_
          clear hK1 K1
          refine wpPre_nil ?_
          refine wpTr_done ?_
          go_wp2_with fail
          go_meet
          exact ⟨_, _, rfl, rfl, (TwoK.start wr #[.string (l.item k).text, .slice (l.item k).p (l.item k).n (l.item k).c] #[.string (l.item k).text, .slice (u.item k).p (l.item k).n (u.item k).c] 122).ba.below (Below.refl _ _).drew, (TwoK.start wr #[.string (l.item k).text, .slice (l.item k).p (l.item k).n (l.item k).c] #[.string (l.item k).text, .slice (u.item k).p (l.item k).n (u.item k).c] 122).bb.below (Below.refl _ _).drew, (TwoK.start wr #[.string (l.item k).text, .slice (l.item k).p (l.item k).n (l.item k).c] #[.string (l.item k).text, .slice (u.item k).p (l.item k).n (u.item k).c] 122).bel.drew⟩
        · refine wpTr_op rfl (fun K1 hK1 => ?_)
          go_simp
          refine hK1 _ _ (fun _ => by first | exact ((Below.refl wr.heap.size wr).alloc (Nat.le_refl _) _).drew | exact (((Below.refl wr.heap.size wr).alloc (Nat.le_refl _) _).alloc (by simp) _).drew | skip) ?_
          clear hK1 K1
          refine wpPre_nil ?_
          refine wpTr_e rfl (fun K1 hK1 => ?_)
          go_simp
          refine hK1 _ _ (fun _ => by first | exact ((Below.refl wr.heap.size wr).alloc (Nat.le_refl _) _).drew | exact (((Below.refl wr.heap.size wr).alloc (Nat.le_refl _) _).alloc (by simp) _).drew | skip) ?_
          clear hK1 K1
          refine wpPre_nil ?_
          refine wpTr_e rfl (fun K1 hK1 => ?_)
          go_simp
          refine hK1 _ _ (fun _ => by first | exact ((Below.refl wr.heap.size wr).alloc (Nat.le_refl _) _).drew | exact (((Below.refl wr.heap.size wr).alloc (Nat.le_refl _) _).alloc (by simp) _).drew | skip) ?_
          clear hK1 K1
          refine wpPre_nil ?_
          refine wpTr_e rfl (fun K1 hK1 => ?_)
          go_simp
          refine hK1 _ _ (fun _ => by first | exact ((Below.refl wr.heap.size wr).alloc (Nat.le_refl _) _).drew | exact (((Below.refl wr.heap.size wr).alloc (Nat.le_refl _) _).alloc (by simp) _).drew | skip) ?_
          clear hK1 K1
          refine wpPre_nil ?_
          refine wpTr_done ?_
          go_wp2_with fail
          go_meet
          exact ⟨_, _, rfl, rfl, (TwoK.start wr #[.string (l.item k).text, .slice (u.item k).p (l.item k).n (u.item k).c] #[.string (l.item k).text, .slice (l.item k).p (l.item k).n (l.item k).c] 122).bb.below (Below.refl _ _).drew, (TwoK.start wr #[.string (l.item k).text, .slice (u.item k).p (l.item k).n (u.item k).c] #[.string (l.item k).text, .slice (l.item k).p (l.item k).n (l.item k).c] 122).ba.below (Below.refl _ _).drew, (TwoK.start wr #[.string (l.item k).text, .slice (u.item k).p (l.item k).n (u.item k).c] #[.string (l.item k).text, .slice (l.item k).p (l.item k).n (l.item k).c] 122).bel.drew⟩
      case rest =>
        obtain ⟨cb, db, rfl, rfl, hcb, hdb, hbx⟩ := hcut
        have HCb := hid hcb
        have HDb := hid hdb
        have HBx := hid hbx
        have p0 := hcb.cell 0
        have p1 := hcb.cell 1
        have q0 := hdb.cell 0
        have q1 := hdb.cell 1
        have cl := hcb.lt
        have dl := hdb.lt
        simp at p0 p1 q0 q1
        clear a0 a1 b0 b1 d1 e1 hcb hdb hbx
        go_wp2_with fail
        go_loopw [8] (fun x wi => ∃ q : Nat, q ≤ (l.item k).n ∧ x = .int .i64 (q : Int) ∧ Below wc.heap.size wc wi) (fun x _ => (l.item k).n - (intOf x).toNat)
        case atStart => exact ⟨0, Nat.zero_le _, rfl, Below.refl _ _⟩
        case round =>
          obtain ⟨q, hq, rfl, hbi⟩ := hrel
          obtain ⟨wi, hwi⟩ : ∃ x, x = wr := ⟨_, rfl⟩
          subst hwi
          have HBi := hid hbi
          have p1 := (World.cell?_of_block (a := ⟨cb, 1, none⟩) (hbi.block _ cl)).trans p1
          have q1 := (World.cell?_of_block (a := ⟨db, 1, none⟩) (hbi.block _ dl)).trans q1
          have cli := Nat.lt_of_lt_of_le cl hbi.size
          have dli := Nat.lt_of_lt_of_le dl hbi.size
          by_cases hqn : q < (l.item k).n
          · have hqn' : (q : Int) < ((l.item k).n : Int) := by omega
            have hqu : q < (u.item k).n := by rw [HN2.out]; exact hqn
            have hbwi : Below w.heap.size w wi := HBw.out.trans ((HBx.out.trans (hbi.mono HBx.out.size)).mono HBw.out.size)
            obtain ⟨vb, vo, hvp, _, hvl, hvat⟩ := HIl.out.at_ (by omega)
            obtain ⟨ub, uo, hup, _, hul, huat⟩ := HIu.out.at_ (by omega)
            obtain ⟨v0, v1, v2, v3⟩ := (hvat q hqn).kept (hbwi.block vb hvl)
            obtain ⟨g0, g1, g2, g3⟩ := (huat q hqu).kept (hbwi.block ub hul)
            rw [hvp] at p1
            rw [hup] at q1
            have HV : Hid (∀ X, Below wi.heap.size wi X → Calls Try.prog 58 #[.agg #[.int .i64 ((l.item k).item q).kind, .int .i64 ((l.item k).item q).int, .string ((l.item k).item q).text, .slice ((l.item k).item q).p ((l.item k).item q).n ((l.item k).item q).c], .agg #[.int .i64 ((u.item k).item q).kind, .int .i64 ((u.item k).item q).int, .string ((u.item k).item q).text, .slice ((u.item k).item q).p ((u.item k).item q).n ((u.item k).item q).c]] X fun e w' => YesNo (VT.Alike ((l.item k).item q) ((u.item k).item q)) e X w') := fun X hX => by
              have hbX := hbwi.trans (hX.mono hbwi.size)
              exact yValue _ _ X S R ((HIl.out.sub hqn).below hbX) ((HIu.out.sub hqu).below hbX)
            have HVa : Hid (VT.Alike ((l.item k).item q) ((u.item k).item q)) := by
              unfold Hid
              have h := HAk.out
              obtain ⟨k9, i9, s9, n9, p9, c9, f9, h9⟩ := HIl.out.mk_
              rw [h9] at h hqn ⊢
              exact h.2.2.2.2 q hqn
            clear hvat huat hvp hup hbi hbwi
            go_wp2_with fail
            refine wp_region_calmE 30 (fun wx => Below wi.heap.size wi wx) [(0, true), (1, false), (2, true), (3, true), (4, false), (5, true), (6, false), (7, true), (8, true), (9, false)] (.one 10 false [(11, true)] .done) (by kernel_rfl) (by kernel_rfl) (Below.refl _ _).drew ?_
            refine wpPre_e rfl rfl (fun K1 hK1 => ?_)
            apply Exists.intro
            refine And.intro (fun wx hx => ?_) ?_
            · go_simp
              try rfl
            go_simp
            refine hK1 _ ?_
            clear hK1 K1
            refine wpPre_e rfl rfl (fun K1 hK1 => ?_)
            apply Exists.intro
            refine And.intro (fun wx hx => ?_) ?_
            · have e0 := below_fact hx rfl p1
              have e1 := below_fact hx rfl q1
              have e2 := below_fact hx rfl v0
              have e3 := below_fact hx rfl v1
              have e4 := below_fact hx rfl v2
              have e5 := below_fact hx rfl v3
              have e6 := below_fact hx rfl g0
              have e7 := below_fact hx rfl g1
              have e8 := below_fact hx rfl g2
              have e9 := below_fact hx rfl g3
              go_simp
              try rfl
            go_simp
            refine hK1 _ ?_
            clear hK1 K1
            refine wpPre_e rfl rfl (fun K1 hK1 => ?_)
            apply Exists.intro
            refine And.intro (fun wx hx => ?_) ?_
            · go_simp
              try rfl
            go_simp
            refine hK1 _ ?_
            clear hK1 K1
            refine wpPre_e rfl rfl (fun K1 hK1 => ?_)
            apply Exists.intro
            refine And.intro (fun wx hx => ?_) ?_
            · go_simp
              try rfl
            go_simp
            refine hK1 _ ?_
            clear hK1 K1
            refine wpPre_e rfl rfl (fun K1 hK1 => ?_)
            apply Exists.intro
            refine And.intro (fun wx hx => ?_) ?_
            · have e0 := below_fact hx rfl p1
              have e1 := below_fact hx rfl q1
              have e2 := below_fact hx rfl v0
              have e3 := below_fact hx rfl v1
              have e4 := below_fact hx rfl v2
              have e5 := below_fact hx rfl v3
              have e6 := below_fact hx rfl g0
              have e7 := below_fact hx rfl g1
              have e8 := below_fact hx rfl g2
              have e9 := below_fact hx rfl g3
              go_simp
              try rfl
            go_simp
            refine hK1 _ ?_
            clear hK1 K1
            refine wpPre_e rfl rfl (fun K1 hK1 => ?_)
            apply Exists.intro
            refine And.intro (fun wx hx => ?_) ?_
            · go_simp
              try rfl
            go_simp
            refine hK1 _ ?_
            clear hK1 K1
            refine wpPre_e rfl rfl (fun K1 hK1 => ?_)
            apply Exists.intro
            refine And.intro (fun wx hx => ?_) ?_
            · have e0 := below_fact hx rfl p1
              have e1 := below_fact hx rfl q1
              have e2 := below_fact hx rfl v0
              have e3 := below_fact hx rfl v1
              have e4 := below_fact hx rfl v2
              have e5 := below_fact hx rfl v3
              have e6 := below_fact hx rfl g0
              have e7 := below_fact hx rfl g1
              have e8 := below_fact hx rfl g2
              have e9 := below_fact hx rfl g3
              go_simp
              try rfl
            go_simp
            refine hK1 _ ?_
            clear hK1 K1
            refine wpPre_e rfl rfl (fun K1 hK1 => ?_)
            apply Exists.intro
            refine And.intro (fun wx hx => ?_) ?_
            · go_simp
              try rfl
            go_simp
            refine hK1 _ ?_
            clear hK1 K1
            refine wpPre_e rfl rfl (fun K1 hK1 => ?_)
            apply Exists.intro
            refine And.intro (fun wx hx => ?_) ?_
            · go_simp
              try rfl
            go_simp
            refine hK1 _ ?_
            clear hK1 K1
            refine wpPre_e rfl rfl (fun K1 hK1 => ?_)
            apply Exists.intro
            refine And.intro (fun wx hx => ?_) ?_
            · have e0 := below_fact hx rfl p1
              have e1 := below_fact hx rfl q1
              have e2 := below_fact hx rfl v0
              have e3 := below_fact hx rfl v1
              have e4 := below_fact hx rfl v2
              have e5 := below_fact hx rfl v3
              have e6 := below_fact hx rfl g0
              have e7 := below_fact hx rfl g1
              have e8 := below_fact hx rfl g2
              have e9 := below_fact hx rfl g3
              go_simp
              try rfl
            go_simp
            refine hK1 _ ?_
            clear hK1 K1
            refine wpPre_nil ?_
            refine wpTr_e rfl (fun K1 hK1 => ?_)
            refine step_call rfl 58 #[.tmp 65, .tmp 70] _ rfl Try.f58 Try.func58 (by kernel_rfl) rfl #[.agg #[.int .i64 ((l.item k).item q).kind, .int .i64 ((l.item k).item q).int, .string ((l.item k).item q).text, .slice ((l.item k).item q).p ((l.item k).item q).n ((l.item k).item q).c], .agg #[.int .i64 ((u.item k).item q).kind, .int .i64 ((u.item k).item q).int, .string ((u.item k).item q).text, .slice ((u.item k).item q).p ((u.item k).item q).n ((u.item k).item q).c]] rfl _ (HV.out _ (Below.refl _ _).drew) (fun e w4 h4 => ?_)
            obtain ⟨r4, rfl, hr4, hb4⟩ := h4
            obtain rfl : r4 = true := hr4.2 HVa.out
            refine ⟨_, rfl, ?_⟩
            have HB4 : Hid (Below wc.heap.size wc w4) := HBi.out.trans (((Below.refl wi.heap.size wi).drew.trans hb4).mono HBi.out.size)
            clear hb4 hr4
            go_simp
            refine hK1 _ _ (fun h => by cases h) ?_
            clear hK1 K1
            refine wpPre_e rfl rfl (fun K1 hK1 => ?_)
            apply Exists.intro
            refine And.intro (fun wx hx => ?_) ?_
            · go_simp
              try rfl
            go_simp
            refine hK1 _ ?_
            clear hK1 K1
            refine wpPre_nil ?_
            refine wpTr_done ?_
            go_wp2
            go_roundw
            case rel => exact ⟨q + 1, by omega, by go_num, HB4.out⟩
            case measure => simp [intOf]; omega
          · have hqn' : ¬ (q : Int) < ((l.item k).n : Int) := by omega
            have HBf : Hid (Below W.heap.size W wi) := HBk.out.trans ((HBx.out.trans (HBi.out.mono HBx.out.size)).mono HBk.out.size)
            clear hbi
            go_wp2
            go_roundw
            case rel => exact ⟨k + 1, by omega, by go_num, HBf.out⟩
            case measure => simp [intOf]; omega
    · have hlt' : ¬ (k : Int) < (l.n : Int) := by omega
      clear hb hbw
      go_wp2
      refine bodyPost_ret (v := .bool true) (by simp [results, Try.results37, go_sem]) rfl ?_
      exact ⟨rfl, HBw.out⟩
end Go.Proofs.Ytldkepokcbjlpaa

namespace Go.Proofs.Ytldkepokcbjlpaa
open Go.RowKit Go.Conc
set_option maxRecDepth 60000
set_option maxHeartbeats 8000000 in
theorem yPartG (t u : PtT) (w : World) (S R : Nat → Prop) (ht : PtIn w S t) (hu : PtIn w R u) (ha : PtAlk t u) :
    Calls Try.prog 19 #[.agg #[.int .i64 t.num, .slice t.cl.p t.cl.n t.cl.c, .slice t.lg.p t.lg.n t.lg.c, .slice t.pd.p t.pd.n t.pd.c], .agg #[.int .i64 u.num, .slice u.cl.p u.cl.n u.cl.c, .slice u.lg.p u.lg.n u.lg.c, .slice u.pd.p u.pd.n u.pd.c]] w fun e w' => Yes w e w' := by
  have hnn := ht.lg.nn
  have Ht := hid ht
  have Hu := hid hu
  have HA := hid ha
  have hcn := ha.cl.n
  have hln := ha.lg.n
  have hnum := ha.num
  obtain ⟨W, hW⟩ : ∃ V, V = (w.alloc (.cells #[.int .i64 t.num, .slice t.cl.p t.cl.n t.cl.c, .slice t.lg.p t.lg.n t.lg.c, .slice t.pd.p t.pd.n t.pd.c] 39)).alloc (.cells #[.int .i64 u.num, .slice u.cl.p u.cl.n u.cl.c, .slice u.lg.p u.lg.n u.lg.c, .slice u.pd.p u.pd.n u.pd.c] 39) := ⟨_, rfl⟩
  have hB : Below w.heap.size w W := by rw [hW]; exact ((Below.refl _ _).alloc (Nat.le_refl _) _).alloc (by simp) _
  have hX : Box W w.heap.size #[.int .i64 t.num, .slice t.cl.p t.cl.n t.cl.c, .slice t.lg.p t.lg.n t.lg.c, .slice t.pd.p t.pd.n t.pd.c] 39 := by rw [hW]; exact (Box.new _ _ _).below ((Below.refl _ _).alloc (Nat.le_refl _) _)
  have hY : Box W (w.heap.size + 1) #[.int .i64 u.num, .slice u.cl.p u.cl.n u.cl.c, .slice u.lg.p u.lg.n u.lg.c, .slice u.pd.p u.pd.n u.pd.c] 39 := by
    have h := Box.new (w.alloc (.cells #[.int .i64 t.num, .slice t.cl.p t.cl.n t.cl.c, .slice t.lg.p t.lg.n t.lg.c, .slice t.pd.p t.pd.n t.pd.c] 39)) #[.int .i64 u.num, .slice u.cl.p u.cl.n u.cl.c, .slice u.lg.p u.lg.n u.lg.c, .slice u.pd.p u.pd.n u.pd.c] 39
    rw [← hW] at h
    simpa using h
  have HSt : Hid (∀ V, Below w.heap.size w V → Calls Try.prog 37 #[.agg #[.int .i64 t.num, .slice t.cl.p t.cl.n t.cl.c], .agg #[.int .i64 u.num, .slice u.cl.p u.cl.n u.cl.c]] V fun e w' => Yes V e w') := fun V hV => by
    rw [hnum]
    exact yState t.num t.cl u.cl V S R (ht.cl.below hV) (hu.cl.below hV) ha.cl
  have HPd : Hid (∀ V, Below w.heap.size w V → Calls Try.prog 38 #[.slice t.pd.p t.pd.n t.pd.c, .slice u.pd.p u.pd.n u.pd.c] V fun e w' => Yes V e w') := fun V hV => yRecs _ _ V _ _ (ht.pd.below hV) (hu.pd.below hV) ha.pd
  have HX := hid hX
  have HY := hid hY
  have HB := hid hB
  have x0 := hX.cell 0
  have x1 := hX.cell 1
  have x2 := hX.cell 2
  have x3 := hX.cell 3
  have y0 := hY.cell 0
  have y1 := hY.cell 1
  have y2 := hY.cell 2
  have y3 := hY.cell 3
  have xl := hX.lt
  have yl := hY.lt
  simp at x0 x1 x2 x3 y0 y1 y2 y3
  rw [hln] at y2
  have HLn := hid hln
  have HW := hid hW
  clear ht hu ha hcn hnum hX hY hB hln hW
  go_enter Try.func19, Try.ntmps19
  go_upto_region 1 with fail
  rw [← HW.out]
  go_wp2_with fail
  refine (HSt.out _ HB.out).mono ?_
  rintro e w1 ⟨rfl, hb1⟩
  have HB1 := hid (HB.out.trans (hb1.mono HB.out.size))
  have H1 := hid hb1
  have z3 := (World.cell?_of_block (a := ⟨w.heap.size, 3, none⟩) (hb1.block _ xl)).trans x3
  have v3 := (World.cell?_of_block (a := ⟨w.heap.size + 1, 3, none⟩) (hb1.block _ yl)).trans y3
  have xl1 := Nat.lt_of_lt_of_le xl hb1.size
  have yl1 := Nat.lt_of_lt_of_le yl hb1.size
  clear hb1
  go_wp2_with fail
  refine (HPd.out _ HB1.out).mono ?_
  rintro e w2 ⟨rfl, hb2⟩
  have HB2 := hid (H1.out.trans (hb2.mono H1.out.size))
  clear hb2
  go_wp2_with fail
  go_loopw [5] (fun x wr => ∃ k : Nat, k ≤ t.lg.n ∧ x = .int .i64 (k : Int) ∧ Below W.heap.size W wr) (fun x _ => t.lg.n - (intOf x).toNat)
  case atStart => exact ⟨0, Nat.zero_le _, rfl, HB2.out⟩
  case round =>
    obtain ⟨k, hk, rfl, hb⟩ := hrel
    have HBk := hid hb
    have x2 := (World.cell?_of_block (a := ⟨w.heap.size, 2, none⟩) (hb.block _ xl)).trans x2
    have y2 := (World.cell?_of_block (a := ⟨w.heap.size + 1, 2, none⟩) (hb.block _ yl)).trans y2
    have xl1 := Nat.lt_of_lt_of_le xl hb.size
    have yl1 := Nat.lt_of_lt_of_le yl hb.size
    have hbw := HB.out.trans (hb.mono HB.out.size)
    by_cases hlt : k < t.lg.n
    · have hlt' : (k : Int) < (t.lg.n : Int) := by omega
      have hlu : k < u.lg.n := by rw [HLn.out]; exact hlt
      obtain ⟨b1, o1, hp, _, hl1, hat⟩ := Ht.out.lg.at_ (by omega)
      obtain ⟨b2, o2, hp', _, hl2, hat'⟩ := Hu.out.lg.at_ (by omega)
      have a0 : wr.cell? ⟨b1, o1 + k, none⟩ = some (.slice (t.lg.item k).p (t.lg.item k).n (t.lg.item k).c) := (World.cell?_of_block (a := ⟨b1, o1 + k, none⟩) (hbw.block b1 hl1)).trans (by have := hat k hlt 0 _ rfl; simpa [elRecs] using this)
      have d0 : wr.cell? ⟨b2, o2 + k, none⟩ = some (.slice (u.lg.item k).p (u.lg.item k).n (u.lg.item k).c) := (World.cell?_of_block (a := ⟨b2, o2 + k, none⟩) (hbw.block b2 hl2)).trans (by have := hat' k hlu 0 _ rfl; simpa [elRecs] using this)
      have HR : Hid (∀ V, Below wr.heap.size wr V → Calls Try.prog 38 #[.slice (t.lg.item k).p (t.lg.item k).n (t.lg.item k).c, .slice (u.lg.item k).p (u.lg.item k).n (u.lg.item k).c] V fun e w' => Yes V e w') := fun V hV => yRecs _ _ V _ _ (LT.In.below (Ht.out.lg.each k hlt) (hbw.trans (hV.mono hbw.size))) (LT.In.below (Hu.out.lg.each k hlu) (hbw.trans (hV.mono hbw.size))) (HA.out.lg.item k hlt)
      rw [hp] at x2
      rw [hp'] at y2
      clear hat hat' hb hp hp' hbw
      go_wp2_with fail
      refine wp_region_calmE 30 (fun wx => Below wr.heap.size wr wx) [(0, true), (1, false), (2, true), (3, true), (4, false), (5, true), (6, false), (7, true), (8, true), (9, false)] (.one 10 false [(11, true)] .done) (by kernel_rfl) (by kernel_rfl) (Below.refl _ _).drew ?_
      refine wpPre_e rfl rfl (fun K1 hK1 => ?_)
      apply Exists.intro
      refine And.intro (fun wx hx => ?_) ?_
      · go_simp
        try rfl
      go_simp
      refine hK1 _ ?_
      clear hK1 K1
      refine wpPre_e rfl rfl (fun K1 hK1 => ?_)
      apply Exists.intro
      refine And.intro (fun wx hx => ?_) ?_
      · have e0 := below_fact hx rfl x2
        have e1 := below_fact hx rfl y2
        have e2 := below_fact hx rfl a0
        have e3 := below_fact hx rfl d0
        go_simp
        try rfl
      go_simp
      refine hK1 _ ?_
      clear hK1 K1
      refine wpPre_e rfl rfl (fun K1 hK1 => ?_)
      apply Exists.intro
      refine And.intro (fun wx hx => ?_) ?_
      · go_simp
        try rfl
      go_simp
      refine hK1 _ ?_
      clear hK1 K1
      refine wpPre_e rfl rfl (fun K1 hK1 => ?_)
      apply Exists.intro
      refine And.intro (fun wx hx => ?_) ?_
      · go_simp
        try rfl
      go_simp
      refine hK1 _ ?_
      clear hK1 K1
      refine wpPre_e rfl rfl (fun K1 hK1 => ?_)
      apply Exists.intro
      refine And.intro (fun wx hx => ?_) ?_
      · have e0 := below_fact hx rfl x2
        have e1 := below_fact hx rfl y2
        have e2 := below_fact hx rfl a0
        have e3 := below_fact hx rfl d0
        go_simp
        try rfl
      go_simp
      refine hK1 _ ?_
      clear hK1 K1
      refine wpPre_e rfl rfl (fun K1 hK1 => ?_)
      apply Exists.intro
      refine And.intro (fun wx hx => ?_) ?_
      · go_simp
        try rfl
      go_simp
      refine hK1 _ ?_
      clear hK1 K1
      refine wpPre_e rfl rfl (fun K1 hK1 => ?_)
      apply Exists.intro
      refine And.intro (fun wx hx => ?_) ?_
      · have e0 := below_fact hx rfl x2
        have e1 := below_fact hx rfl y2
        have e2 := below_fact hx rfl a0
        have e3 := below_fact hx rfl d0
        go_simp
        try rfl
      go_simp
      refine hK1 _ ?_
      clear hK1 K1
      refine wpPre_e rfl rfl (fun K1 hK1 => ?_)
      apply Exists.intro
      refine And.intro (fun wx hx => ?_) ?_
      · go_simp
        try rfl
      go_simp
      refine hK1 _ ?_
      clear hK1 K1
      refine wpPre_e rfl rfl (fun K1 hK1 => ?_)
      apply Exists.intro
      refine And.intro (fun wx hx => ?_) ?_
      · go_simp
        try rfl
      go_simp
      refine hK1 _ ?_
      clear hK1 K1
      refine wpPre_e rfl rfl (fun K1 hK1 => ?_)
      apply Exists.intro
      refine And.intro (fun wx hx => ?_) ?_
      · have e0 := below_fact hx rfl x2
        have e1 := below_fact hx rfl y2
        have e2 := below_fact hx rfl a0
        have e3 := below_fact hx rfl d0
        go_simp
        try rfl
      go_simp
      refine hK1 _ ?_
      clear hK1 K1
      refine wpPre_nil ?_
      refine wpTr_e rfl (fun K1 hK1 => ?_)
      refine step_call rfl 38 #[.tmp 40, .tmp 45] _ rfl Try.f38 Try.func38 (by kernel_rfl) rfl #[.slice (t.lg.item k).p (t.lg.item k).n (t.lg.item k).c, .slice (u.lg.item k).p (u.lg.item k).n (u.lg.item k).c] rfl _ (HR.out _ (Below.refl _ _).drew) (fun e w4 h4 => ?_)
      obtain ⟨rfl, hb4⟩ := h4
      refine ⟨_, rfl, ?_⟩
      have HB4 : Hid (Below wr.heap.size wr w4) := (Below.refl wr.heap.size wr).drew.trans hb4
      clear hb4
      go_simp
      refine hK1 _ _ (fun h => by cases h) ?_
      clear hK1 K1
      refine wpPre_e rfl rfl (fun K1 hK1 => ?_)
      apply Exists.intro
      refine And.intro (fun wx hx => ?_) ?_
      · go_simp
        try rfl
      go_simp
      refine hK1 _ ?_
      clear hK1 K1
      refine wpPre_nil ?_
      refine wpTr_done ?_
      go_wp2
      go_roundw
      case rel => exact ⟨k + 1, by omega, by go_num, HBk.out.trans (HB4.out.mono HBk.out.size)⟩
      case measure => simp [intOf]; omega
    · have hlt' : ¬ (k : Int) < (t.lg.n : Int) := by omega
      have HBw := hid hbw
      clear hb hbw
      go_wp2
      refine bodyPost_ret (v := .bool true) (by simp [results, Try.results19, go_sem]) rfl ⟨rfl, HBw.out⟩
set_option maxHeartbeats 16000000 in
theorem yShot (id sum : Int) (v u : LT PtT) (w : World) (S R : Nat → Prop) (hv : LT.In elPt w S v) (hu : LT.In elPt w R u) (hn : u.n = v.n) (ha : ∀ j, j < v.n → PtAlk (v.item j) (u.item j)) : Calls Try.prog 45 #[.agg #[.int .i64 id, .int .u32 sum, .slice v.p v.n v.c], .agg #[.int .i64 id, .int .u32 sum, .slice u.p u.n u.c]] w fun e w' => Yes w e w' := by
  have hnn := hv.nn
  rw [hn]
  have HV := hid hv
  have HU := hid hu
  have HA := hid ha
  have HN := hid hn
  obtain ⟨W, hW⟩ : ∃ V, V = (w.alloc (.cells #[.int .i64 id, .int .u32 sum, .slice v.p v.n v.c] 48)).alloc (.cells #[.int .i64 id, .int .u32 sum, .slice u.p v.n u.c] 48) := ⟨_, rfl⟩
  have hB : Below w.heap.size w W := by rw [hW]; exact ((Below.refl _ _).alloc (Nat.le_refl _) _).alloc (by simp) _
  have hX : Box W w.heap.size #[.int .i64 id, .int .u32 sum, .slice v.p v.n v.c] 48 := by rw [hW]; exact (Box.new _ _ _).below ((Below.refl _ _).alloc (Nat.le_refl _) _)
  have hY : Box W (w.heap.size + 1) #[.int .i64 id, .int .u32 sum, .slice u.p v.n u.c] 48 := by
    have h := Box.new (w.alloc (.cells #[.int .i64 id, .int .u32 sum, .slice v.p v.n v.c] 48)) #[.int .i64 id, .int .u32 sum, .slice u.p v.n u.c] 48
    rw [← hW] at h
    simpa using h
  have HB := hid hB
  have HW := hid hW
  have x0 := hX.cell 0
  have x1 := hX.cell 1
  have x2 := hX.cell 2
  have y0 := hY.cell 0
  have y1 := hY.cell 1
  have y2 := hY.cell 2
  have xl := hX.lt
  have yl := hY.lt
  simp at x0 x1 x2 y0 y1 y2
  clear hv hu ha hn hX hY hB hW
  go_enter Try.func45, Try.ntmps45
  go_upto_region 1 with fail
  rw [← HW.out]
  go_wp2_with fail
  go_loopw [5] (fun x wr => ∃ k : Nat, k ≤ v.n ∧ x = .int .i64 (k : Int) ∧ Below W.heap.size W wr) (fun x _ => v.n - (intOf x).toNat)
  case atStart => exact ⟨0, Nat.zero_le _, rfl, Below.refl _ _⟩
  case round =>
    obtain ⟨k, hk, rfl, hb⟩ := hrel
    have HBk := hid hb
    have x2 := (World.cell?_of_block (a := ⟨w.heap.size, 2, none⟩) (hb.block _ xl)).trans x2
    have y2 := (World.cell?_of_block (a := ⟨w.heap.size + 1, 2, none⟩) (hb.block _ yl)).trans y2
    have xl1 := Nat.lt_of_lt_of_le xl hb.size
    have yl1 := Nat.lt_of_lt_of_le yl hb.size
    have hbw := HB.out.trans (hb.mono HB.out.size)
    by_cases hlt : k < v.n
    · have hlt' : (k : Int) < (v.n : Int) := by omega
      have hlu : k < u.n := by rw [HN.out]; exact hlt
      obtain ⟨b1, o1, hp, _, hl1, hat⟩ := HV.out.at_ (by omega)
      obtain ⟨b2, o2, hp', _, hl2, hat'⟩ := HU.out.at_ (by omega)
      have hca : ∀ r z, (elPt.cells (v.item k))[r]? = some z → wr.cell? ⟨b1, o1 + k * 4 + r, none⟩ = some z := fun r z hz => (World.cell?_of_block (a := ⟨b1, o1 + k * 4 + r, none⟩) (hbw.block b1 hl1)).trans (hat k hlt r z hz)
      have hcb : ∀ r z, (elPt.cells (u.item k))[r]? = some z → wr.cell? ⟨b2, o2 + k * 4 + r, none⟩ = some z := fun r z hz => (World.cell?_of_block (a := ⟨b2, o2 + k * 4 + r, none⟩) (hbw.block b2 hl2)).trans (hat' k hlu r z hz)
      have a0 : wr.cell? ⟨b1, o1 + k * 4, none⟩ = some (.int .i64 (v.item k).num) := hca 0 _ rfl
      have a1 : wr.cell? ⟨b1, o1 + k * 4 + 1, none⟩ = some (.slice (v.item k).cl.p (v.item k).cl.n (v.item k).cl.c) := hca 1 _ rfl
      have a2 : wr.cell? ⟨b1, o1 + k * 4 + 2, none⟩ = some (.slice (v.item k).lg.p (v.item k).lg.n (v.item k).lg.c) := hca 2 _ rfl
      have a3 : wr.cell? ⟨b1, o1 + k * 4 + 3, none⟩ = some (.slice (v.item k).pd.p (v.item k).pd.n (v.item k).pd.c) := hca 3 _ rfl
      have d0 : wr.cell? ⟨b2, o2 + k * 4, none⟩ = some (.int .i64 (u.item k).num) := hcb 0 _ rfl
      have d1 : wr.cell? ⟨b2, o2 + k * 4 + 1, none⟩ = some (.slice (u.item k).cl.p (u.item k).cl.n (u.item k).cl.c) := hcb 1 _ rfl
      have d2 : wr.cell? ⟨b2, o2 + k * 4 + 2, none⟩ = some (.slice (u.item k).lg.p (u.item k).lg.n (u.item k).lg.c) := hcb 2 _ rfl
      have d3 : wr.cell? ⟨b2, o2 + k * 4 + 3, none⟩ = some (.slice (u.item k).pd.p (u.item k).pd.n (u.item k).pd.c) := hcb 3 _ rfl
      have HR : Hid (∀ V, Below wr.heap.size wr V → Calls Try.prog 19 #[.agg #[.int .i64 (v.item k).num, .slice (v.item k).cl.p (v.item k).cl.n (v.item k).cl.c, .slice (v.item k).lg.p (v.item k).lg.n (v.item k).lg.c, .slice (v.item k).pd.p (v.item k).pd.n (v.item k).pd.c], .agg #[.int .i64 (u.item k).num, .slice (u.item k).cl.p (u.item k).cl.n (u.item k).cl.c, .slice (u.item k).lg.p (u.item k).lg.n (u.item k).lg.c, .slice (u.item k).pd.p (u.item k).pd.n (u.item k).pd.c]] V fun e w' => Yes V e w') := fun V hV => by
        have hbV := hbw.trans (hV.mono hbw.size)
        exact yPartG _ _ V S R (PtIn.below (HV.out.each k hlt) hbV) (PtIn.below (HU.out.each k hlu) hbV) (HA.out k hlt)
      rw [hp] at x2
      rw [hp'] at y2
      clear hat hat' hb hp hp' hbw hca hcb
      go_wp2_with fail
      refine wp_region_calmE 30 (fun wx => Below wr.heap.size wr wx) [(0, true), (1, false), (2, true), (3, true), (4, false), (5, true), (6, false), (7, true), (8, true), (9, false)] (.one 10 false [(11, true)] .done) (by kernel_rfl) (by kernel_rfl) (Below.refl _ _).drew ?_
      refine wpPre_e rfl rfl (fun K1 hK1 => ?_)
      apply Exists.intro
      refine And.intro (fun wx hx => ?_) ?_
      · go_simp
        try rfl
      go_simp
      refine hK1 _ ?_
      clear hK1 K1
      refine wpPre_e rfl rfl (fun K1 hK1 => ?_)
      apply Exists.intro
      refine And.intro (fun wx hx => ?_) ?_
      · have e0 := below_fact hx rfl x2
        have e1 := below_fact hx rfl y2
        have e2 := below_fact hx rfl a0
        have e3 := below_fact hx rfl a1
        have e4 := below_fact hx rfl a2
        have e5 := below_fact hx rfl a3
        have e6 := below_fact hx rfl d0
        have e7 := below_fact hx rfl d1
        have e8 := below_fact hx rfl d2
        have e9 := below_fact hx rfl d3
        go_simp
        try rfl
      go_simp
      refine hK1 _ ?_
      clear hK1 K1
      refine wpPre_e rfl rfl (fun K1 hK1 => ?_)
      apply Exists.intro
      refine And.intro (fun wx hx => ?_) ?_
      · go_simp
        try rfl
      go_simp
      refine hK1 _ ?_
      clear hK1 K1
      refine wpPre_e rfl rfl (fun K1 hK1 => ?_)
      apply Exists.intro
      refine And.intro (fun wx hx => ?_) ?_
      · go_simp
        try rfl
      go_simp
      refine hK1 _ ?_
      clear hK1 K1
      refine wpPre_e rfl rfl (fun K1 hK1 => ?_)
      apply Exists.intro
      refine And.intro (fun wx hx => ?_) ?_
      · have e0 := below_fact hx rfl x2
        have e1 := below_fact hx rfl y2
        have e2 := below_fact hx rfl a0
        have e3 := below_fact hx rfl a1
        have e4 := below_fact hx rfl a2
        have e5 := below_fact hx rfl a3
        have e6 := below_fact hx rfl d0
        have e7 := below_fact hx rfl d1
        have e8 := below_fact hx rfl d2
        have e9 := below_fact hx rfl d3
        go_simp
        try rfl
      go_simp
      refine hK1 _ ?_
      clear hK1 K1
      refine wpPre_e rfl rfl (fun K1 hK1 => ?_)
      apply Exists.intro
      refine And.intro (fun wx hx => ?_) ?_
      · go_simp
        try rfl
      go_simp
      refine hK1 _ ?_
      clear hK1 K1
      refine wpPre_e rfl rfl (fun K1 hK1 => ?_)
      apply Exists.intro
      refine And.intro (fun wx hx => ?_) ?_
      · have e0 := below_fact hx rfl x2
        have e1 := below_fact hx rfl y2
        have e2 := below_fact hx rfl a0
        have e3 := below_fact hx rfl a1
        have e4 := below_fact hx rfl a2
        have e5 := below_fact hx rfl a3
        have e6 := below_fact hx rfl d0
        have e7 := below_fact hx rfl d1
        have e8 := below_fact hx rfl d2
        have e9 := below_fact hx rfl d3
        go_simp
        try rfl
      go_simp
      refine hK1 _ ?_
      clear hK1 K1
      refine wpPre_e rfl rfl (fun K1 hK1 => ?_)
      apply Exists.intro
      refine And.intro (fun wx hx => ?_) ?_
      · go_simp
        try rfl
      go_simp
      refine hK1 _ ?_
      clear hK1 K1
      refine wpPre_e rfl rfl (fun K1 hK1 => ?_)
      apply Exists.intro
      refine And.intro (fun wx hx => ?_) ?_
      · go_simp
        try rfl
      go_simp
      refine hK1 _ ?_
      clear hK1 K1
      refine wpPre_e rfl rfl (fun K1 hK1 => ?_)
      apply Exists.intro
      refine And.intro (fun wx hx => ?_) ?_
      · have e0 := below_fact hx rfl x2
        have e1 := below_fact hx rfl y2
        have e2 := below_fact hx rfl a0
        have e3 := below_fact hx rfl a1
        have e4 := below_fact hx rfl a2
        have e5 := below_fact hx rfl a3
        have e6 := below_fact hx rfl d0
        have e7 := below_fact hx rfl d1
        have e8 := below_fact hx rfl d2
        have e9 := below_fact hx rfl d3
        go_simp
        try rfl
      go_simp
      refine hK1 _ ?_
      clear hK1 K1
      refine wpPre_nil ?_
      refine wpTr_e rfl (fun K1 hK1 => ?_)
      refine step_call rfl 19 #[.tmp 38, .tmp 43] _ rfl Try.f19 Try.func19 (by kernel_rfl) rfl #[.agg #[.int .i64 (v.item k).num, .slice (v.item k).cl.p (v.item k).cl.n (v.item k).cl.c, .slice (v.item k).lg.p (v.item k).lg.n (v.item k).lg.c, .slice (v.item k).pd.p (v.item k).pd.n (v.item k).pd.c], .agg #[.int .i64 (u.item k).num, .slice (u.item k).cl.p (u.item k).cl.n (u.item k).cl.c, .slice (u.item k).lg.p (u.item k).lg.n (u.item k).lg.c, .slice (u.item k).pd.p (u.item k).pd.n (u.item k).pd.c]] rfl _ (HR.out _ (Below.refl _ _).drew) (fun e w4 h4 => ?_)
      obtain ⟨rfl, hb4⟩ := h4
      refine ⟨_, rfl, ?_⟩
      have HB4 : Hid (Below wr.heap.size wr w4) := (Below.refl wr.heap.size wr).drew.trans hb4
      clear hb4
      go_simp
      refine hK1 _ _ (fun h => by cases h) ?_
      clear hK1 K1
      refine wpPre_e rfl rfl (fun K1 hK1 => ?_)
      apply Exists.intro
      refine And.intro (fun wx hx => ?_) ?_
      · go_simp
        try rfl
      go_simp
      refine hK1 _ ?_
      clear hK1 K1
      refine wpPre_nil ?_
      refine wpTr_done ?_
      go_wp2
      go_roundw
      case rel => exact ⟨k + 1, by omega, by go_num, HBk.out.trans (HB4.out.mono HBk.out.size)⟩
      case measure => simp [intOf]; omega
    · have hlt' : ¬ (k : Int) < (v.n : Int) := by omega
      have HBw := hid hbw
      clear hb hbw
      go_wp2
      refine bodyPost_ret (v := .bool true) (by simp [results, Try.results45, go_sem]) rfl ⟨rfl, HBw.out⟩
end Go.Proofs.Ytldkepokcbjlpaa
