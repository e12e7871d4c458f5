import Derived.Test.YtebiidfdokhpaabGreatDoorFaJ
namespace Go.Proofs.YtebiidfdokhpaabGreatDoor
open Go.RowKit
set_option maxRecDepth 8000
theorem But.cc {C : Nat → Prop} {w w1 w2 : World} (hb : But C w w1) (h3 : But (fun k => C k ∨ w.heap.size ≤ k) w1 w2) : But C w w2 :=
  ⟨h3.os.trans hb.os, h3.tape.trans hb.tape, h3.output.trans hb.output, Nat.le_trans hb.size h3.size, fun k hk hx => (h3.block k (Nat.lt_of_lt_of_le hk hb.size) fun e => e.elim hx fun h => by omega).trans (hb.block k hk hx)⟩
theorem updK_ins (s : ByteArray) (a : List Int × Int) (b : Key) (ks : List Key) (h : ∀ k ∈ ks, k.1 ≠ s) (hb : b.1 = s := by rfl) : updK s b (insK (s, a.1, a.2) ks) = insK b ks := by
  induction ks with
  | nil => simp [insK, updK]
  | cons x l ih =>
    have hx : x.1 ≠ s := h x (by simp)
    have hl : ∀ k ∈ l, k.1 ≠ s := fun k hk => h k (List.mem_cons_of_mem _ hk)
    have hm : l.map (fun k => if k.1 = s then b else k) = l := by
      conv => rhs; rw [← List.map_id l]
      exact List.map_congr_left fun k hk => by simp [hl k hk]
    have ih' := ih hl
    unfold updK at ih' ⊢
    simp only [insK]
    have e : lessN (s, a.1, a.2).1 x.1 = lessN b.1 x.1 := by rw [hb]
    rw [e]
    split
    · simp [hx, hm]
    · simp [hx]
      exact ih'
def apE (R : RK) (n : Nat) : Int := if pyB R ((n : Int) + 1) = true then 0 else 100
def apR (R : RK) (n : Nat) : RK := if pyB R ((n : Int) + 1) = true then pyR R ((n : Int) + 1) else R.fallen
def apN (R : RK) (n : Nat) : Nat := if pyB R ((n : Int) + 1) = true then n else R.left.toNat
def ApQ (R : RK) (s : ByteArray) (zs : List Int) (C : Nat → Prop) (rb : Nat) (w : World) (e : Ending) (w' : World) : Prop :=
  (ahE R s true ≠ 0 ∧ e = .returned (.int .i64 (ahE R s true)) ∧ RigR (ahR R s true) C rb w w') ∨
  (ahE R s true = 0 ∧ R.no s ∧ (65536 < zs.length ∨ 400 ≤ R.fs.length) ∧ e = .returned (.int .i64 104) ∧ RC (ahR R s true).ak C rb w w') ∨
  (ahE R s true = 0 ∧ (∃ i f, R.is s i f ∧ 65536 < f.su.length + f.lo.length + zs.length) ∧ e = .returned (.int .i64 104) ∧ RC (ahR R s true).ak C rb w w') ∨
  (ahE R s true = 0 ∧ R.no s ∧ zs.length ≤ 65536 ∧ R.fs.length < 400 ∧ e = .returned (.int .i64 (apE (ahR R s true) zs.length)) ∧ RC { (apR (ahR R s true) zs.length).ak with ks := insK (s, zs.take (apN (ahR R s true) zs.length), 0) (R.fs.map RF.key) } C rb w w') ∨
  (ahE R s true = 0 ∧ ∃ i f, R.is s i f ∧ f.su.length + f.lo.length + zs.length ≤ 65536 ∧ e = .returned (.int .i64 (apE (ahR R s true) zs.length)) ∧ RC { (apR (ahR R s true) zs.length).ak with ks := updK s (s, f.su ++ f.lo ++ zs.take (apN (ahR R s true) zs.length), (f.su.length : Int)) (R.fs.map RF.key) } C rb w w')
set_option maxHeartbeats 16000000 in
theorem rappend_any (R : RK) (s : ByteArray) (p : Option Addr) (c : Nat) (zs : List Int) (w : World) (C S : Nat → Prop) (rb : Nat) (hR : RkI w C rb R) (hmx : s.size ≤ 140737488355328) (hd : Byts w S p zs.length c (fun j => zs.getD j 0)) (hSC : ∀ b, S b → ¬ C b) (hSl : ∀ b, S b → b < w.heap.size) (hzl : zs.length ≤ 100000000) :
    Calls Tryz.prog 13 #[.pointer (some ⟨rb, 0, none⟩), .string s, .slice p zs.length c] w fun e w' => ApQ R s zs C rb w e w' := by
  obtain ⟨i0, Kd⟩ := kindB
  have HKd := hid Kd
  have HDat := hid hd
  have HSC := hid hSC
  have HSl := hid hSl
  have HA := hid (rahead_any R s true w C rb hR hmx)
  clear hR Kd hd hSC hSl
  go_enter Tryz.func13, Tryz.ntmps13
  go_wp2_with fail
  refine HA.out.mono ?_
  rintro e w2 ⟨rfl, hR2⟩
  have HR2 := hid hR2
  obtain ⟨q, hq⟩ : ∃ q, q = ahE R s true := ⟨_, rfl⟩
  rw [← hq]
  have HQe := hid hq
  by_cases h0 : q = 0
  case neg =>
    have h0' : (q == 0) = false := by simpa using h0
    have H0 := hid h0
    clear h0 hR2 HA hq
    go_wp2
    exact bodyPost_ret (v := .int .i64 q) (by simp [results, Tryz.results13, go_sem]) rfl (.inl ⟨by rw [← HQe.out]; exact H0.out, by rw [← HQe.out], HR2.out⟩)
  case pos =>
    subst h0
    obtain ⟨R1, hRe⟩ : ∃ R1, R1 = ahR R s true := ⟨_, rfl⟩
    have HFs : Hid (R1.fs = R.fs) := by show R1.fs = R.fs; rw [hRe]; exact (ahR_fs R s true).1
    have HIk1 : Hid (RkI w2 C rb R1) := by show RkI _ _ _ _; rw [hRe]; exact hR2.1
    have HBw2 : Hid (But C w w2) := hR2.rc.2
    have HRe := hid hRe
    have HNmS : Hid (Nm s) := by
      refine (nmB_iff s).1 ?_
      cases h : nmB s with
      | true => rfl
      | false => simp [ahE, h] at hq
    have HF := hid (rfindK_any R1 s w2 C rb HIk1.out)
    have r0 := HIk1.out.bx.cell 0
    have rl := HIk1.out.bx.lt
    simp at r0
    have hn4 := HIk1.out.n
    have HRC : Hid (RC (ahR R s true).ak C rb w w2) := hR2.rc
    clear hRe hR2 HA hq
    go_wp2_with fail
    refine HF.out.mono ?_
    rintro e w3 ⟨hw3, hf⟩
    obtain rfl := hw3.symm
    rcases hf with ⟨hno, rfl⟩ | ⟨i, f0, hi, rfl⟩
    · have HNo := hid hno
      have HNoR : Hid (R.no s) := by show ∀ f ∈ R.fs, f.name ≠ s; rw [← HFs.out]; exact hno
      clear hno HF
      by_cases h1 : 65536 < zs.length
      · have h1' : (65536 : Int) < (zs.length : Int) := by omega
        go_upto_region 6 with fail
        go_wp2
        exact bodyPost_ret (v := .int .i64 104) (by simp [results, Tryz.results13, go_sem]) rfl (.inr (.inl ⟨HQe.out.symm, HNoR.out, .inl h1, rfl, HRC.out⟩))
      · have h1' : ¬ (65536 : Int) < (zs.length : Int) := by omega
        by_cases h2 : 400 ≤ R1.fs.length
        · have h2' : (400 : Int) ≤ (R1.fs.length : Int) := by omega
          go_upto_region 6 with fail
          go_wp2
          exact bodyPost_ret (v := .int .i64 104) (by simp [results, Tryz.results13, go_sem]) rfl (.inr (.inl ⟨HQe.out.symm, HNoR.out, .inr (by rw [← HFs.out]; exact h2), rfl, HRC.out⟩))
        · have h2' : ¬ (400 : Int) ≤ (R1.fs.length : Int) := by omega
          go_upto_region 7 with fail
          refine wp_region_calmE 30 (fun wx => Below w2.heap.size w2 wx) [(0, true), (1, true), (2, true), (3, true), (4, true), (5, true), (6, false), (7, true), (8, true), (9, true), (10, false), (11, true), (12, true), (13, true), (14, true), (15, false), (16, true), (17, true), (18, true), (19, false), (20, true), (21, true), (22, true), (23, true), (24, true), (25, true), (26, true)] .done (by kernel_rfl) (by kernel_rfl) (Below.refl _ _).drew ?_
          refine wpPre_e rfl rfl (fun K1 hK1 => ?_)
          apply Exists.intro
          refine And.intro (fun wx hx => ?_) ?_
          · go_simp
            try rfl
          go_simp
          refine hK1 _ ?_
          clear hK1 K1
          refine wpPre_e rfl rfl (fun K1 hK1 => ?_)
          apply Exists.intro
          refine And.intro (fun wx hx => ?_) ?_
          · go_simp
            try rfl
          go_simp
          refine hK1 _ ?_
          clear hK1 K1
          refine wpPre_e rfl rfl (fun K1 hK1 => ?_)
          apply Exists.intro
          refine And.intro (fun wx hx => ?_) ?_
          · go_simp
            try rfl
          go_simp
          refine hK1 _ ?_
          clear hK1 K1
          refine wpPre_i rfl (fun K1 hK1 => ?_)
          rw [if_neg (by go_simp; all_goals (intro h; cases h))]
          go_simp
          refine hK1 _ ?_
          clear hK1 K1
          refine wpPre_i rfl (fun K1 hK1 => ?_)
          rw [if_neg (by go_simp; all_goals (intro h; cases h))]
          go_simp
          refine hK1 _ ?_
          clear hK1 K1
          refine wpPre_i rfl (fun K1 hK1 => ?_)
          rw [if_neg (by go_simp; all_goals (intro h; cases h))]
          go_simp
          refine hK1 _ ?_
          clear hK1 K1
          refine wpPre_i rfl (fun K1 hK1 => ?_)
          rw [if_neg (by go_simp; all_goals (intro h; cases h))]
          go_simp
          refine hK1 _ ?_
          clear hK1 K1
          refine wpPre_i rfl (fun K1 hK1 => ?_)
          rw [if_neg (by go_simp; all_goals (intro h; cases h))]
          go_simp
          refine hK1 _ ?_
          clear hK1 K1
          refine wpPre_i rfl (fun K1 hK1 => ?_)
          rw [if_neg (by go_simp; all_goals (intro h; cases h))]
          go_simp
          refine hK1 _ ?_
          clear hK1 K1
          refine wpPre_i rfl (fun K1 hK1 => ?_)
          rw [if_neg (by go_simp; all_goals (intro h; cases h))]
          go_simp
          refine hK1 _ ?_
          clear hK1 K1
          refine wpPre_i rfl (fun K1 hK1 => ?_)
          rw [if_neg (by go_simp; all_goals (intro h; cases h))]
          go_simp
          refine hK1 _ ?_
          clear hK1 K1
          refine wpPre_i rfl (fun K1 hK1 => ?_)
          rw [if_neg (by go_simp; all_goals (intro h; cases h))]
          go_simp
          refine hK1 _ ?_
          clear hK1 K1
          refine wpPre_i rfl (fun K1 hK1 => ?_)
          rw [if_neg (by go_simp; all_goals (intro h; cases h))]
          go_simp
          refine hK1 _ ?_
          clear hK1 K1
          refine wpPre_i rfl (fun K1 hK1 => ?_)
          rw [if_neg (by go_simp; all_goals (intro h; cases h))]
          go_simp
          refine hK1 _ ?_
          clear hK1 K1
          refine wpPre_i rfl (fun K1 hK1 => ?_)
          rw [if_neg (by go_simp; all_goals (intro h; cases h))]
          go_simp
          refine hK1 _ ?_
          clear hK1 K1
          refine wpPre_i rfl (fun K1 hK1 => ?_)
          rw [if_neg (by go_simp; all_goals (intro h; cases h))]
          go_simp
          refine hK1 _ ?_
          clear hK1 K1
          refine wpPre_i rfl (fun K1 hK1 => ?_)
          rw [if_neg (by go_simp; all_goals (intro h; cases h))]
          go_simp
          refine hK1 _ ?_
          clear hK1 K1
          refine wpPre_i rfl (fun K1 hK1 => ?_)
          rw [if_neg (by go_simp; all_goals (intro h; cases h))]
          go_simp
          refine hK1 _ ?_
          clear hK1 K1
          refine wpPre_i rfl (fun K1 hK1 => ?_)
          rw [if_neg (by go_simp; all_goals (intro h; cases h))]
          go_simp
          refine hK1 _ ?_
          clear hK1 K1
          refine wpPre_i rfl (fun K1 hK1 => ?_)
          rw [if_neg (by go_simp; all_goals (intro h; cases h))]
          go_simp
          refine hK1 _ ?_
          clear hK1 K1
          refine wpPre_i rfl (fun K1 hK1 => ?_)
          rw [if_neg (by go_simp; all_goals (intro h; cases h))]
          go_simp
          refine hK1 _ ?_
          clear hK1 K1
          refine wpPre_i rfl (fun K1 hK1 => ?_)
          rw [if_neg (by go_simp; all_goals (intro h; cases h))]
          go_simp
          refine hK1 _ ?_
          clear hK1 K1
          refine wpPre_i rfl (fun K1 hK1 => ?_)
          rw [if_neg (by go_simp; all_goals (intro h; cases h))]
          go_simp
          refine hK1 _ ?_
          clear hK1 K1
          refine wpPre_i rfl (fun K1 hK1 => ?_)
          rw [if_neg (by go_simp; all_goals (intro h; cases h))]
          go_simp
          refine hK1 _ ?_
          clear hK1 K1
          refine wpPre_i rfl (fun K1 hK1 => ?_)
          rw [if_neg (by go_simp; all_goals (intro h; cases h))]
          go_simp
          refine hK1 _ ?_
          clear hK1 K1
          refine wpPre_i rfl (fun K1 hK1 => ?_)
          rw [if_neg (by go_simp; all_goals (intro h; cases h))]
          go_simp
          refine hK1 _ ?_
          clear hK1 K1
          refine wpPre_e rfl rfl (fun K1 hK1 => ?_)
          apply Exists.intro
          refine And.intro (fun wx hx => ?_) ?_
          · go_simp
            try rfl
          go_simp
          refine hK1 _ ?_
          clear hK1 K1
          refine wpPre_nil ?_
          refine wpTr_done ?_
          clear r0 rl
          obtain ⟨W4, hW4⟩ : ∃ V, V = w2.drew := ⟨_, rfl⟩
          rw [← hW4]
          have HI1 : Hid (RkI W4 C rb R1) := by show RkI _ _ _ _; rw [hW4]; exact HIk1.out.drew
          have HBW4 : Hid (But C w W4) := by show But _ _ _; rw [hW4]; exact HBw2.out.drew
          clear hW4
          have HP := hid (rpays_any R1 ((zs.length : Int) + 1) W4 C rb HI1.out (by omega) (by omega))
          have r2 := HI1.out.bx.cell 2
          have r2l := HI1.out.bx.lt
          simp at r2
          go_wp2_with fail
          refine HP.out.mono ?_
          rintro e W5 ⟨rfl, hP⟩
          have HBW5 : Hid (But C w W5) := HBW4.out.trans (hP.2.mono fun k _ e => by have e' : k = rb := e; subst e'; exact hP.1.cb)
          clear r2 r2l HP
          obtain ⟨R3, hR3⟩ : ∃ R3, R3 = pyR R1 ((zs.length : Int) + 1) := ⟨_, rfl⟩
          have HF3 : Hid (R3.fs = R1.fs) := by show R3.fs = R1.fs; rw [hR3]; exact (pyR_fs R1 _).1
          have HIk3 : Hid (RkI W5 C rb R3) := by show RkI _ _ _ _; rw [hR3]; exact hP.1
          have HR3 := hid hR3
          clear hR3 hP
          cases hpy : pyB R1 ((zs.length : Int) + 1) with
          | true =>
            have HPy := hid hpy
            clear hpy
            have HPt := hid (rputR_any R3 ⟨s, none, 0, [], none, 0, []⟩ W5 C rb HIk3.out ⟨HNmS.out, World.ownsRow_nil _ _ _ _, World.ownsRow_nil _ _ _ _, (fun g hg => by rcases hg with hg | hg <;> cases hg), (fun g hg => by cases hg), by show ([] : List Int).length + ([] : List Int).length ≤ 65536; simp, (fun z hz => by cases hz)⟩ (fun k hk => by rcases hk with hk | hk <;> cases hk) (by show ∀ f ∈ R3.fs, f.name ≠ s; rw [HF3.out]; exact HNo.out) (by rw [HF3.out]; omega))
            go_wp2_with fail
            refine HPt.out.mono ?_
            rintro e W6 ⟨rfl, p6, c6, hI6, hb6⟩
            have HB6 : Hid (But C W5 W6) := hb6.mono fun k _ e => by have e' : k = rb := e; subst e'; exact HIk3.out.cb
            obtain ⟨R4, hR4⟩ : ∃ R4 : RK, R4 = { R3 with p := p6, c := c6, fs := insF ⟨s, none, 0, [], none, 0, []⟩ R3.fs } := ⟨_, rfl⟩
            rw [← hR4] at hI6
            have HR4 := hid hR4
            have HI6 := hid hI6
            clear hb6 hI6 hR4 HPt
            have HFd := hid (rfindK_any R4 s W6 _ rb HI6.out)
            go_wp2_with fail
            refine HFd.out.mono ?_
            rintro e w7 ⟨hw7, hf7⟩
            obtain rfl := hw7.symm
            have hf8 : ∃ i f, R4.is s i f ∧ e = .returned (.int .i64 (i : Int)) := by
              rcases hf7 with ⟨h1, _⟩ | h1
              · refine absurd rfl (h1 ⟨s, none, 0, [], none, 0, []⟩ ?_)
                rw [HR4.out]
                exact (insF_perm _ _).mem_iff.2 (by simp)
              · exact h1
            obtain ⟨i, f0, hi, rfl⟩ := hf8
            have HI4 := hid hi
            have hi0 : ¬ (i : Int) < 0 := by omega
            have HF0 : Hid (f0 = ⟨s, none, 0, [], none, 0, []⟩) := by
              have h1 := List.mem_of_getElem? hi.1
              rw [HR4.out] at h1
              rcases List.mem_cons.1 ((insF_perm _ _).mem_iff.1 h1) with h2 | h2
              · exact h2
              · rw [HF3.out] at h2
                exact absurd hi.2 (HNo.out f0 h2)
            have HIk4 : Hid (RkI W6 (fun k => C k ∨ w.heap.size ≤ k) rb R4) := HI6.out.mono fun k hk _ => hk.imp_right fun e => Nat.le_trans HBW5.out.size e
            have HBW : Hid (But C w W6) := HBW5.out.trans HB6.out
            have HLe4 : Hid (f0.su.length + f0.lo.length + zs.length ≤ 65536) := by
              show f0.su.length + f0.lo.length + zs.length ≤ 65536
              rw [HF0.out]
              show 0 + 0 + zs.length ≤ 65536
              omega
            clear hi hf7 HFd
            have HEND : Hid (∀ (e : Ending) (w' : World), e = .returned (.int .i64 0) → RC { R4.ak with ks := updK s (s, f0.su ++ (f0.lo ++ zs.take zs.length), (f0.su.length : Int)) (R4.fs.map RF.key) } C rb w w' → ApQ R s zs C rb w e w') := by
              intro e w' he hrc
              have hq0 : ahE R s true = 0 := HQe.out.symm
              have hR1 : ahR R s true = R1 := HRe.out.symm
              have hpy' : pyB (ahR R s true) ((zs.length : Int) + 1) = true := by rw [hR1]; exact HPy.out
              have a1 : apE (ahR R s true) zs.length = 0 := by unfold apE; rw [hpy']; simp
              have a2 : apR (ahR R s true) zs.length = R3 := by unfold apR; rw [hpy', hR1]; simp; exact HR3.out.symm
              have a3 : apN (ahR R s true) zs.length = zs.length := by unfold apN; rw [hpy', hR1]; simp
              refine .inr (.inr (.inr (.inl ⟨hq0, HNoR.out, by omega, by rw [← HFs.out]; omega, by rw [a1]; exact he, ?_⟩)))
              rw [a2, a3]
              rw [HF0.out, HR4.out] at hrc
              have e1 : (insF ⟨s, none, 0, [], none, 0, []⟩ R3.fs).map RF.key = insK (s, [], 0) (R.fs.map RF.key) := by rw [insF_key, HF3.out, HFs.out]; rfl
              have e2 : updK s (s, zs.take zs.length, 0) (insK (s, [], 0) (R.fs.map RF.key)) = insK (s, zs.take zs.length, 0) (R.fs.map RF.key) := updK_ins s ([], 0) (s, zs.take zs.length, 0) (R.fs.map RF.key) fun k hk => by
                obtain ⟨f, hf, rfl⟩ := List.mem_map.1 hk
                exact HNoR.out f hf
              rw [← e2, ← e1]
              exact hrc
            obtain ⟨g, hpg, habg, hrg, hil, hnl, _, _⟩ := HIk4.out.getAt HI4.out
            have HPg := hid hpg
            have HAbg := hid habg
            have hil' : (i : Int) < (R4.fs.length : Int) := by omega
            clear hpg habg
            go_wp2_with fail
            go_loopw [12] (fun x wr => ∃ (k : Nat) (fk : RF), k ≤ zs.length ∧ x = .int .i64 (k : Int) ∧ fk.name = s ∧ fk.su = f0.su ∧ fk.lo = f0.lo ++ zs.take k ∧ RkI wr (fun k => C k ∨ w.heap.size ≤ k) rb { R4 with fs := R4.fs.set i fk } ∧ But C w wr) (fun x _ => zs.length - (intOf x).toNat)
            case atStart => exact ⟨0, f0, Nat.zero_le _, rfl, HI4.out.2, rfl, by simp, by rw [set_get_self HI4.out.1]; exact HIk4.out, HBW.out⟩
            case round =>
              obtain ⟨k, fk, hk, rfl, hnm, hsu, hlo, hIk, hbw⟩ := hrel
              have HNm := hid hnm
              have HSu := hid hsu
              have HLo := hid hlo
              have HIk := hid hIk
              have HBw := hid hbw
              clear hnm hsu hlo hIk hbw
              obtain ⟨Rk, hRk⟩ : ∃ Rk : RK, Rk = { R4 with fs := R4.fs.set i fk } := ⟨_, rfl⟩
              rw [← hRk] at HIk
              have HRk := hid hRk
              have hfl : Rk.fs.length = R4.fs.length := by rw [hRk]; exact List.length_set
              have HIs : Hid (Rk.is s i fk) := by
                refine ⟨?_, HNm.out⟩
                rw [hRk]
                show (R4.fs.set i fk)[i]? = some fk
                rw [List.getElem?_set_self hil]
              have hcR : Rk.c = R4.c := by rw [hRk]
              have habk : Rk.ab g := by
                have h := HAbg.out
                unfold RK.ab at h ⊢
                rw [hfl, hRk]
                exact h
              have HAb := hid habk
              have HFl := hid hfl
              clear hRk habk hcR hfl
              by_cases hlt : k < zs.length
              · have hlt' : (k : Int) < (zs.length : Int) := by omega
                obtain ⟨g2, _, hab2, _, hil2, _, hF, hAt⟩ := HIk.out.getAt HIs.out
                obtain rfl : g = g2 := Option.some.inj (HAb.out.symm.trans hab2)
                have HF := hid hF
                have HAt := hid hAt
                have hil2' : (i : Int) < (Rk.fs.length : Int) := by omega
                have HMv : Hid (∀ wx, But fk.blk wr wx → At wx Rk rb g i fk) := fun wx hx => HIk.out.moveAt HIs.out HAb.out HAt.out hx
                have hmz : zs.length ≤ zs.length := Nat.le_refl _
                have HLe : Hid (fk.su.length + (fk.lo.length + 1) ≤ 65536) := by
                  have h1 := HLe4.out
                  have h2 : (zs.take k).length = k := by simp; omega
                  show fk.su.length + (fk.lo.length + 1) ≤ 65536
                  rw [HSu.out, HLo.out, List.length_append, h2]
                  omega
                have hkz : (k : Int) < (zs.length : Int) := by omega
                have HDr : Hid (Byts wr S p zs.length c (fun j => zs.getD j 0)) := HDat.out.kept HBw.out.size fun b hb hl => HBw.out.block b hl (HSC.out b hb)
                obtain ⟨bb, o, hpp, hSb, hbb, hat⟩ := HDr.out.at_ (by omega)
                have hbt := HDr.out.fit k (by omega)
                obtain ⟨zb, hzb⟩ : ∃ zb, zb = zs.getD k 0 := ⟨_, rfl⟩
                have HBt : Hid (0 ≤ zb ∧ zb < 256) := by show 0 ≤ zb ∧ zb < 256; rw [hzb]; exact hbt
                have HZb := hid hzb
                subst hpp
                have HDt : Hid (∀ wx, But fk.blk wr wx → wx.cell? ⟨bb, o + k, none⟩ = some (.int .u8 zb)) := fun wx hx => by
                  rw [cell_kept (hx.block bb hbb fun e => by
                    rcases (HIk.out.each fk (List.mem_of_getElem? HIs.out.1)).cs bb e with h | h
                    · exact HSC.out bb hSb h
                    · have := HSl.out bb hSb; omega)]
                  rw [hzb]
                  exact hat k (by omega)
                have HL2 : Hid ((wr.alloc (.cells #[.int .u8 zb] 5)).drew.ownsRow 0 5 1 (.slice fk.lp fk.lo.length fk.lc) fk.lo.length (fk.lo.map (Value.int .u8))) := HF.out.l.below (((Below.refl _ _).alloc (Nat.le_refl _) _).drew)
                have HNw : Hid (∀ j u', [Value.int .u8 zb][j]? = some u' → (wr.alloc (.cells #[.int .u8 zb] 5)).drew.cell? ((⟨wr.heap.size, 0, none⟩ : Addr).add j) = some u') := fun j u' hu => by
                  have hbn : Box (wr.alloc (.cells #[.int .u8 zb] 5)).drew wr.heap.size #[.int .u8 zb] 5 := Box.new wr _ _
                  rw [Go.WideShapes.add_plain, hbn.cell]
                  rw [show 0 + j = j by omega]
                  simpa using hu
                clear hF hAt hat hbt hab2 hzb
                go_upto_region 20 with fail
                refine wp_region_calmE 30 (fun wx => But fk.blk wr wx) [(0, true), (1, true), (2, true), (3, false), (4, true), (5, true), (6, true), (7, true), (8, false), (9, true), (10, true), (11, true), (12, false), (13, true), (14, true), (15, true), (16, false)] (.one 17 true [] (.one 18 true [(19, true), (20, true)] (.one 21 false [] .done))) (by kernel_rfl) (by kernel_rfl) (But.refl _ _).drew ?_
                refine wpPre_e rfl rfl (fun K1 hK1 => ?_)
                apply Exists.intro
                refine And.intro (fun wx hx => ?_) ?_
                · go_simp
                  try rfl
                go_simp
                refine hK1 _ ?_
                clear hK1 K1
                refine wpPre_e rfl rfl (fun K1 hK1 => ?_)
                apply Exists.intro
                refine And.intro (fun wx hx => ?_) ?_
                · go_simp
                  try rfl
                go_simp
                refine hK1 _ ?_
                clear hK1 K1
                refine wpPre_e rfl rfl (fun K1 hK1 => ?_)
                apply Exists.intro
                refine And.intro (fun wx hx => ?_) ?_
                · go_simp
                  try rfl
                go_simp
                refine hK1 _ ?_
                clear hK1 K1
                refine wpPre_e rfl rfl (fun K1 hK1 => ?_)
                apply Exists.intro
                refine And.intro (fun wx hx => ?_) ?_
                · have e0 := (HMv.out wx (hx.resolve_left (by simp))).r0
                  go_simp
                  try rfl
                go_simp
                refine hK1 _ ?_
                clear hK1 K1
                refine wpPre_e rfl rfl (fun K1 hK1 => ?_)
                apply Exists.intro
                refine And.intro (fun wx hx => ?_) ?_
                · go_simp
                  try rfl
                go_simp
                refine hK1 _ ?_
                clear hK1 K1
                refine wpPre_e rfl rfl (fun K1 hK1 => ?_)
                apply Exists.intro
                refine And.intro (fun wx hx => ?_) ?_
                · go_simp
                  try rfl
                go_simp
                refine hK1 _ ?_
                clear hK1 K1
                refine wpPre_e rfl rfl (fun K1 hK1 => ?_)
                apply Exists.intro
                refine And.intro (fun wx hx => ?_) ?_
                · go_simp
                  try rfl
                go_simp
                refine hK1 _ ?_
                clear hK1 K1
                refine wpPre_e rfl rfl (fun K1 hK1 => ?_)
                apply Exists.intro
                refine And.intro (fun wx hx => ?_) ?_
                · go_simp
                  try rfl
                go_simp
                refine hK1 _ ?_
                clear hK1 K1
                refine wpPre_e rfl rfl (fun K1 hK1 => ?_)
                apply Exists.intro
                refine And.intro (fun wx hx => ?_) ?_
                · have e0 := (HMv.out wx (hx.resolve_left (by simp))).r0
                  go_simp
                  try rfl
                go_simp
                refine hK1 _ ?_
                clear hK1 K1
                refine wpPre_e rfl rfl (fun K1 hK1 => ?_)
                apply Exists.intro
                refine And.intro (fun wx hx => ?_) ?_
                · go_simp
                  try rfl
                go_simp
                refine hK1 _ ?_
                clear hK1 K1
                refine wpPre_e rfl rfl (fun K1 hK1 => ?_)
                apply Exists.intro
                refine And.intro (fun wx hx => ?_) ?_
                · go_simp
                  try rfl
                go_simp
                refine hK1 _ ?_
                clear hK1 K1
                refine wpPre_e rfl rfl (fun K1 hK1 => ?_)
                apply Exists.intro
                refine And.intro (fun wx hx => ?_) ?_
                · go_simp
                  try rfl
                go_simp
                refine hK1 _ ?_
                clear hK1 K1
                refine wpPre_e rfl rfl (fun K1 hK1 => ?_)
                apply Exists.intro
                refine And.intro (fun wx hx => ?_) ?_
                · have e0 := (HMv.out wx (hx.resolve_left (by simp))).a2
                  go_simp
                  try rfl
                go_simp
                refine hK1 _ ?_
                clear hK1 K1
                refine wpPre_e rfl rfl (fun K1 hK1 => ?_)
                apply Exists.intro
                refine And.intro (fun wx hx => ?_) ?_
                · go_simp
                  try rfl
                go_simp
                refine hK1 _ ?_
                clear hK1 K1
                refine wpPre_e rfl rfl (fun K1 hK1 => ?_)
                apply Exists.intro
                refine And.intro (fun wx hx => ?_) ?_
                · go_simp
                  try rfl
                go_simp
                refine hK1 _ ?_
                clear hK1 K1
                refine wpPre_e rfl rfl (fun K1 hK1 => ?_)
                apply Exists.intro
                refine And.intro (fun wx hx => ?_) ?_
                · go_simp
                  try rfl
                go_simp
                refine hK1 _ ?_
                clear hK1 K1
                refine wpPre_e rfl rfl (fun K1 hK1 => ?_)
                apply Exists.intro
                refine And.intro (fun wx hx => ?_) ?_
                · have e0 := HDt.out wx (hx.resolve_left (by simp))
                  go_simp
                  try rfl
                go_simp
                refine hK1 _ ?_
                clear hK1 K1
                refine wpPre_nil ?_
                refine wpTr_e rfl (fun K1 hK1 => ?_)
                go_simp
                have HBa : Hid (But fk.blk wr (wr.alloc (.cells #[.int .u8 zb] 5)).drew) := ((But.refl _ _).alloc _).drew
                refine hK1 _ _ (fun _ => HBa.out) ?_
                clear hK1 K1
                refine wpPre_nil ?_
                refine wpTr_e rfl (fun K1 hK1 => ?_)
                refine step_app rfl (.tmp 103) (.tmp 108) 31 5 i0 _ 1 1 HKd.out rfl 0 (.slice fk.lp fk.lo.length fk.lc) fk.lo.length _ rfl HL2.out ⟨wr.heap.size, 0, none⟩ 1 1 [.int .u8 zb] rfl rfl HNw.out (fun u hu => by obtain rfl := List.mem_singleton.1 hu; rfl) (by have := HLe.out; omega) (by have := HLe.out; omega) (Nat.zero_le _) ?_
                intro v3 w3 ho hg hn
                obtain ⟨p3, c3, hv3⟩ := ownsRow_slice ho
                subst hv3
                have HO := hid ho
                have HG := hid hg
                have HN := hid hn
                clear ho hg hn
                have HB3 : Hid (But fk.lb wr w3) := (((But.refl fk.lb wr).alloc _).drew).grown HG.out fun k e _ => e
                have HA3 := hid (HMv.out w3 (HB3.out.mono fun _ _ e => .inr e))
                have e0 := HA3.out.a2
                have e1 := HA3.out.gf (i * 3 + 2)
                have e2 := HA3.out.gl
                go_simp
                refine hK1 _ _ (fun _ => HB3.out.mono fun _ _ e => .inr e) ?_
                clear hK1 K1
                refine wpPre_e rfl rfl (fun K1 hK1 => ?_)
                apply Exists.intro
                refine And.intro (fun wx hx => ?_) ?_
                · go_simp
                  try rfl
                go_simp
                refine hK1 _ ?_
                clear hK1 K1
                refine wpPre_e rfl rfl (fun K1 hK1 => ?_)
                apply Exists.intro
                refine And.intro (fun wx hx => ?_) ?_
                · go_simp
                  try rfl
                go_simp
                refine hK1 _ ?_
                clear hK1 K1
                refine wpPre_nil ?_
                refine wpTr_e rfl (fun K1 hK1 => ?_)
                go_simp
                refine hK1 _ _ (fun h => by cases h) ?_
                clear hK1 K1
                refine wpPre_nil ?_
                refine wpTr_done ?_
                obtain ⟨f1, hf1⟩ : ∃ f1 : RF, f1 = ⟨fk.name, fk.sp, fk.sc, fk.su, p3, c3, fk.lo ++ [zb]⟩ := ⟨_, rfl⟩
                have HE : Hid (RkI (w3.setCell ⟨g, i * 3 + 2, none⟩ (.slice p3 (fk.lo.length + 1) c3)) (fun k => C k ∨ w.heap.size ≤ k) rb { R4 with fs := R4.fs.set i f1 } ∧ But C w (w3.setCell ⟨g, i * 3 + 2, none⟩ (.slice p3 (fk.lo.length + 1) c3))) := by
                  have hln : (fk.lo ++ [zb]).length = fk.lo.length + 1 := by simp
                  have h := HIk.out.putX (f' := f1) HIs.out HAb.out (by rw [hf1]) (by rw [hf1]) (by rw [hf1]) (by rw [hf1]) HB3.out ?_ ?_ ?_ ?_
                  · rw [hf1] at h
                    simp only [hln] at h
                    have e1 : ({ Rk with fs := Rk.fs.set i ⟨fk.name, fk.sp, fk.sc, fk.su, p3, c3, fk.lo ++ [zb]⟩ } : RK) = { R4 with fs := R4.fs.set i f1 } := by
                      rw [HRk.out, hf1]
                      simp
                    rw [e1] at h
                    refine ⟨h.1.mono fun k hk _ => ?_, HBw.out.cc h.2⟩
                    rcases hk with hk | hk
                    · exact hk
                    · exact .inr (Nat.le_trans HBw.out.size hk)
                  · rw [hf1]
                    show OwnBy 0 w3 (.slice p3 (fk.lo ++ [zb]).length c3) (fk.lo ++ [zb])
                    rw [hln]
                    exact OwnBy.app (ys := [zb]) HF.out.l HO.out
                  · intro k2 hk2
                    have hk3 : (Value.slice p3 (fk.lo.length + 1) c3).ownBlock = some k2 := by
                      have : (Value.slice f1.lp f1.lo.length f1.lc).ownBlock = some k2 := hk2
                      rw [hf1] at this
                      simp only [hln] at this
                      exact this
                    rcases HN.out with h1 | h1
                    · exact .inl (h1.symm.trans hk3)
                    · have := h1 k2 hk3
                      exact .inr (by have h2 : wr.heap.size ≤ (wr.alloc (.cells #[.int .u8 zb] 5)).drew.heap.size := (((Below.refl wr.heap.size wr).alloc (Nat.le_refl _) _).drew).size
                                     omega)
                  · rw [hf1]
                    show fk.su.length + (fk.lo ++ [zb]).length ≤ 65536
                    rw [hln]
                    exact HLe.out
                  · rw [hf1]
                    intro z hz
                    have hz' : z ∈ fk.su ++ (fk.lo ++ [zb]) := hz
                    rw [← List.append_assoc] at hz'
                    rcases List.mem_append.1 hz' with h1 | h1
                    · exact HF.out.by_ z h1
                    · rw [List.mem_singleton.1 h1]
                      have := HBt.out
                      omega
                have HF1 : Hid (f1.name = s ∧ f1.su = f0.su ∧ f1.lo = f0.lo ++ zs.take (k + 1)) := by
                  refine ⟨by rw [hf1]; exact HNm.out, by rw [hf1]; exact HSu.out, ?_⟩
                  rw [hf1]
                  show fk.lo ++ [zb] = _
                  rw [HLo.out, List.append_assoc, HZb.out]
                  congr 1
                  rw [List.take_add_one, List.getElem?_eq_getElem (show k < zs.length by omega)]
                  simp [List.getD_eq_getElem?_getD, List.getElem?_eq_getElem (show k < zs.length by omega)]
                clear hf1 e0 e1 e2
                go_wp2
                go_roundw
                case rel => exact ⟨k + 1, f1, by omega, by go_num, HF1.out.1, HF1.out.2.1, HF1.out.2.2, HE.out.1, HE.out.2⟩
                case measure => simp [intOf]; omega
              · have hlt' : ¬ (k : Int) < (zs.length : Int) := by omega
                obtain rfl : k = zs.length := by omega
                have HAk : Hid (RC { R4.ak with ks := updK s (s, f0.su ++ (f0.lo ++ zs.take zs.length), (f0.su.length : Int)) (R4.fs.map RF.key) } C rb w wr) := by
                  refine ⟨⟨Rk, ?_, HIk.out⟩, HBw.out⟩
                  have e1 : Rk.fs.map RF.key = updK s fk.key (R4.fs.map RF.key) := by rw [HRk.out]; exact set_key HIk4.out.nd HI4.out
                  have e2 : fk.key = (s, f0.su ++ (f0.lo ++ zs.take zs.length), (f0.su.length : Int)) := by
                    unfold RF.key
                    rw [HNm.out, HSu.out, HLo.out]
                  unfold RK.ak
                  rw [e1, e2, HRk.out]
                go_wp2
                refine bodyPost_ret (v := .int .i64 0) (by simp [results, Tryz.results13, go_sem]) rfl ?_
                exact HEND.out _ _ (by first | rfl | simp) HAk.out
          | false =>
            have HPy := hid hpy
            have HPyR : Hid (R3 = R1) := by
              show R3 = R1
              rw [HR3.out]
              simp only [pyB, Bool.or_eq_false_iff, decide_eq_false_iff_not] at hpy
              exact if_neg (by omega)
            obtain ⟨m, hm⟩ : ∃ m, m = R1.left.toNat := ⟨_, rfl⟩
            have hpl : 0 ≤ R1.left ∧ R1.left < (zs.length : Int) + 1 := by
              simp only [pyB, Bool.or_eq_false_iff, decide_eq_false_iff_not] at hpy
              omega
            have hml : R1.left = (m : Int) := by omega
            have HMz : Hid (m ≤ zs.length) := by show m ≤ zs.length; omega
            have HM := hid hm
            rw [hml]
            clear hpy hm hml hpl
            have HPt := hid (rputR_any R3 ⟨s, none, 0, [], none, 0, []⟩ W5 C rb HIk3.out ⟨HNmS.out, World.ownsRow_nil _ _ _ _, World.ownsRow_nil _ _ _ _, (fun g hg => by rcases hg with hg | hg <;> cases hg), (fun g hg => by cases hg), by show ([] : List Int).length + ([] : List Int).length ≤ 65536; simp, (fun z hz => by cases hz)⟩ (fun k hk => by rcases hk with hk | hk <;> cases hk) (by show ∀ f ∈ R3.fs, f.name ≠ s; rw [HF3.out]; exact HNo.out) (by rw [HF3.out]; omega))
            go_wp2_with fail
            refine HPt.out.mono ?_
            rintro e W6 ⟨rfl, p6, c6, hI6, hb6⟩
            have HB6 : Hid (But C W5 W6) := hb6.mono fun k _ e => by have e' : k = rb := e; subst e'; exact HIk3.out.cb
            obtain ⟨R4, hR4⟩ : ∃ R4 : RK, R4 = { R3 with p := p6, c := c6, fs := insF ⟨s, none, 0, [], none, 0, []⟩ R3.fs } := ⟨_, rfl⟩
            rw [← hR4] at hI6
            have HR4 := hid hR4
            have HI6 := hid hI6
            clear hb6 hI6 hR4 HPt
            have HFd := hid (rfindK_any R4 s W6 _ rb HI6.out)
            go_wp2_with fail
            refine HFd.out.mono ?_
            rintro e w7 ⟨hw7, hf7⟩
            obtain rfl := hw7.symm
            have hf8 : ∃ i f, R4.is s i f ∧ e = .returned (.int .i64 (i : Int)) := by
              rcases hf7 with ⟨h1, _⟩ | h1
              · refine absurd rfl (h1 ⟨s, none, 0, [], none, 0, []⟩ ?_)
                rw [HR4.out]
                exact (insF_perm _ _).mem_iff.2 (by simp)
              · exact h1
            obtain ⟨i, f0, hi, rfl⟩ := hf8
            have HI4 := hid hi
            have hi0 : ¬ (i : Int) < 0 := by omega
            have HF0 : Hid (f0 = ⟨s, none, 0, [], none, 0, []⟩) := by
              have h1 := List.mem_of_getElem? hi.1
              rw [HR4.out] at h1
              rcases List.mem_cons.1 ((insF_perm _ _).mem_iff.1 h1) with h2 | h2
              · exact h2
              · rw [HF3.out] at h2
                exact absurd hi.2 (HNo.out f0 h2)
            have HIk4 : Hid (RkI W6 (fun k => C k ∨ w.heap.size ≤ k) rb R4) := HI6.out.mono fun k hk _ => hk.imp_right fun e => Nat.le_trans HBW5.out.size e
            have HBW : Hid (But C w W6) := HBW5.out.trans HB6.out
            have HLe4 : Hid (f0.su.length + f0.lo.length + zs.length ≤ 65536) := by
              show f0.su.length + f0.lo.length + zs.length ≤ 65536
              rw [HF0.out]
              show 0 + 0 + zs.length ≤ 65536
              omega
            clear hi hf7 HFd
            have HEND : Hid (∀ (e : Ending) (w' : World), e = .returned (.int .i64 100) → RC { R4.fallen.ak with ks := updK s (s, f0.su ++ (f0.lo ++ zs.take m), (f0.su.length : Int)) (R4.fs.map RF.key) } C rb w w' → ApQ R s zs C rb w e w') := by
              intro e w' he hrc
              have hq0 : ahE R s true = 0 := HQe.out.symm
              have hR1 : ahR R s true = R1 := HRe.out.symm
              have hpy' : pyB (ahR R s true) ((zs.length : Int) + 1) = false := by rw [hR1]; exact HPy.out
              have a1 : apE (ahR R s true) zs.length = 100 := by unfold apE; rw [hpy']; simp
              have a2 : apR (ahR R s true) zs.length = R3.fallen := by unfold apR; rw [hpy', hR1]; simp; rw [HPyR.out]
              have a3 : apN (ahR R s true) zs.length = m := by unfold apN; rw [hpy', hR1]; simp; exact HM.out.symm
              refine .inr (.inr (.inr (.inl ⟨hq0, HNoR.out, by omega, by rw [← HFs.out]; omega, by rw [a1]; exact he, ?_⟩)))
              rw [a2, a3]
              rw [HF0.out, HR4.out] at hrc
              have e1 : (insF ⟨s, none, 0, [], none, 0, []⟩ R3.fs).map RF.key = insK (s, [], 0) (R.fs.map RF.key) := by rw [insF_key, HF3.out, HFs.out]; rfl
              have e2 : updK s (s, zs.take m, 0) (insK (s, [], 0) (R.fs.map RF.key)) = insK (s, zs.take m, 0) (R.fs.map RF.key) := updK_ins s ([], 0) (s, zs.take m, 0) (R.fs.map RF.key) fun k hk => by
                obtain ⟨f, hf, rfl⟩ := List.mem_map.1 hk
                exact HNoR.out f hf
              rw [← e2, ← e1]
              exact hrc
            obtain ⟨g, hpg, habg, hrg, hil, hnl, _, _⟩ := HIk4.out.getAt HI4.out
            have HPg := hid hpg
            have HAbg := hid habg
            have hil' : (i : Int) < (R4.fs.length : Int) := by omega
            clear hpg habg
            go_wp2_with fail
            go_loopw [12] (fun x wr => ∃ (k : Nat) (fk : RF), k ≤ m ∧ x = .int .i64 (k : Int) ∧ fk.name = s ∧ fk.su = f0.su ∧ fk.lo = f0.lo ++ zs.take k ∧ RkI wr (fun k => C k ∨ w.heap.size ≤ k) rb { R4 with fs := R4.fs.set i fk } ∧ But C w wr) (fun x _ => m - (intOf x).toNat)
            case atStart => exact ⟨0, f0, Nat.zero_le _, rfl, HI4.out.2, rfl, by simp, by rw [set_get_self HI4.out.1]; exact HIk4.out, HBW.out⟩
            case round =>
              obtain ⟨k, fk, hk, rfl, hnm, hsu, hlo, hIk, hbw⟩ := hrel
              have HNm := hid hnm
              have HSu := hid hsu
              have HLo := hid hlo
              have HIk := hid hIk
              have HBw := hid hbw
              clear hnm hsu hlo hIk hbw
              obtain ⟨Rk, hRk⟩ : ∃ Rk : RK, Rk = { R4 with fs := R4.fs.set i fk } := ⟨_, rfl⟩
              rw [← hRk] at HIk
              have HRk := hid hRk
              have hfl : Rk.fs.length = R4.fs.length := by rw [hRk]; exact List.length_set
              have HIs : Hid (Rk.is s i fk) := by
                refine ⟨?_, HNm.out⟩
                rw [hRk]
                show (R4.fs.set i fk)[i]? = some fk
                rw [List.getElem?_set_self hil]
              have hcR : Rk.c = R4.c := by rw [hRk]
              have habk : Rk.ab g := by
                have h := HAbg.out
                unfold RK.ab at h ⊢
                rw [hfl, hRk]
                exact h
              have HAb := hid habk
              have HFl := hid hfl
              clear hRk habk hcR hfl
              by_cases hlt : k < m
              · have hlt' : (k : Int) < (m : Int) := by omega
                obtain ⟨g2, _, hab2, _, hil2, _, hF, hAt⟩ := HIk.out.getAt HIs.out
                obtain rfl : g = g2 := Option.some.inj (HAb.out.symm.trans hab2)
                have HF := hid hF
                have HAt := hid hAt
                have hil2' : (i : Int) < (Rk.fs.length : Int) := by omega
                have HMv : Hid (∀ wx, But fk.blk wr wx → At wx Rk rb g i fk) := fun wx hx => HIk.out.moveAt HIs.out HAb.out HAt.out hx
                have hmz : m ≤ zs.length := HMz.out
                have HLe : Hid (fk.su.length + (fk.lo.length + 1) ≤ 65536) := by
                  have h1 := HLe4.out
                  have h2 : (zs.take k).length = k := by simp; omega
                  show fk.su.length + (fk.lo.length + 1) ≤ 65536
                  rw [HSu.out, HLo.out, List.length_append, h2]
                  omega
                have hkz : (k : Int) < (zs.length : Int) := by omega
                have HDr : Hid (Byts wr S p zs.length c (fun j => zs.getD j 0)) := HDat.out.kept HBw.out.size fun b hb hl => HBw.out.block b hl (HSC.out b hb)
                obtain ⟨bb, o, hpp, hSb, hbb, hat⟩ := HDr.out.at_ (by omega)
                have hbt := HDr.out.fit k (by omega)
                obtain ⟨zb, hzb⟩ : ∃ zb, zb = zs.getD k 0 := ⟨_, rfl⟩
                have HBt : Hid (0 ≤ zb ∧ zb < 256) := by show 0 ≤ zb ∧ zb < 256; rw [hzb]; exact hbt
                have HZb := hid hzb
                subst hpp
                have HDt : Hid (∀ wx, But fk.blk wr wx → wx.cell? ⟨bb, o + k, none⟩ = some (.int .u8 zb)) := fun wx hx => by
                  rw [cell_kept (hx.block bb hbb fun e => by
                    rcases (HIk.out.each fk (List.mem_of_getElem? HIs.out.1)).cs bb e with h | h
                    · exact HSC.out bb hSb h
                    · have := HSl.out bb hSb; omega)]
                  rw [hzb]
                  exact hat k (by omega)
                have HL2 : Hid ((wr.alloc (.cells #[.int .u8 zb] 5)).drew.ownsRow 0 5 1 (.slice fk.lp fk.lo.length fk.lc) fk.lo.length (fk.lo.map (Value.int .u8))) := HF.out.l.below (((Below.refl _ _).alloc (Nat.le_refl _) _).drew)
                have HNw : Hid (∀ j u', [Value.int .u8 zb][j]? = some u' → (wr.alloc (.cells #[.int .u8 zb] 5)).drew.cell? ((⟨wr.heap.size, 0, none⟩ : Addr).add j) = some u') := fun j u' hu => by
                  have hbn : Box (wr.alloc (.cells #[.int .u8 zb] 5)).drew wr.heap.size #[.int .u8 zb] 5 := Box.new wr _ _
                  rw [Go.WideShapes.add_plain, hbn.cell]
                  rw [show 0 + j = j by omega]
                  simpa using hu
                clear hF hAt hat hbt hab2 hzb
                go_upto_region 20 with fail
                refine wp_region_calmE 30 (fun wx => But fk.blk wr wx) [(0, true), (1, true), (2, true), (3, false), (4, true), (5, true), (6, true), (7, true), (8, false), (9, true), (10, true), (11, true), (12, false), (13, true), (14, true), (15, true), (16, false)] (.one 17 true [] (.one 18 true [(19, true), (20, true)] (.one 21 false [] .done))) (by kernel_rfl) (by kernel_rfl) (But.refl _ _).drew ?_
                refine wpPre_e rfl rfl (fun K1 hK1 => ?_)
                apply Exists.intro
                refine And.intro (fun wx hx => ?_) ?_
                · go_simp
                  try rfl
                go_simp
                refine hK1 _ ?_
                clear hK1 K1
                refine wpPre_e rfl rfl (fun K1 hK1 => ?_)
                apply Exists.intro
                refine And.intro (fun wx hx => ?_) ?_
                · go_simp
                  try rfl
                go_simp
                refine hK1 _ ?_
                clear hK1 K1
                refine wpPre_e rfl rfl (fun K1 hK1 => ?_)
                apply Exists.intro
                refine And.intro (fun wx hx => ?_) ?_
                · go_simp
                  try rfl
                go_simp
                refine hK1 _ ?_
                clear hK1 K1
                refine wpPre_e rfl rfl (fun K1 hK1 => ?_)
                apply Exists.intro
                refine And.intro (fun wx hx => ?_) ?_
                · have e0 := (HMv.out wx (hx.resolve_left (by simp))).r0
                  go_simp
                  try rfl
                go_simp
                refine hK1 _ ?_
                clear hK1 K1
                refine wpPre_e rfl rfl (fun K1 hK1 => ?_)
                apply Exists.intro
                refine And.intro (fun wx hx => ?_) ?_
                · go_simp
                  try rfl
                go_simp
                refine hK1 _ ?_
                clear hK1 K1
                refine wpPre_e rfl rfl (fun K1 hK1 => ?_)
                apply Exists.intro
                refine And.intro (fun wx hx => ?_) ?_
                · go_simp
                  try rfl
                go_simp
                refine hK1 _ ?_
                clear hK1 K1
                refine wpPre_e rfl rfl (fun K1 hK1 => ?_)
                apply Exists.intro
                refine And.intro (fun wx hx => ?_) ?_
                · go_simp
                  try rfl
                go_simp
                refine hK1 _ ?_
                clear hK1 K1
                refine wpPre_e rfl rfl (fun K1 hK1 => ?_)
                apply Exists.intro
                refine And.intro (fun wx hx => ?_) ?_
                · go_simp
                  try rfl
                go_simp
                refine hK1 _ ?_
                clear hK1 K1
                refine wpPre_e rfl rfl (fun K1 hK1 => ?_)
                apply Exists.intro
                refine And.intro (fun wx hx => ?_) ?_
                · have e0 := (HMv.out wx (hx.resolve_left (by simp))).r0
                  go_simp
                  try rfl
                go_simp
                refine hK1 _ ?_
                clear hK1 K1
                refine wpPre_e rfl rfl (fun K1 hK1 => ?_)
                apply Exists.intro
                refine And.intro (fun wx hx => ?_) ?_
                · go_simp
                  try rfl
                go_simp
                refine hK1 _ ?_
                clear hK1 K1
                refine wpPre_e rfl rfl (fun K1 hK1 => ?_)
                apply Exists.intro
                refine And.intro (fun wx hx => ?_) ?_
                · go_simp
                  try rfl
                go_simp
                refine hK1 _ ?_
                clear hK1 K1
                refine wpPre_e rfl rfl (fun K1 hK1 => ?_)
                apply Exists.intro
                refine And.intro (fun wx hx => ?_) ?_
                · go_simp
                  try rfl
                go_simp
                refine hK1 _ ?_
                clear hK1 K1
                refine wpPre_e rfl rfl (fun K1 hK1 => ?_)
                apply Exists.intro
                refine And.intro (fun wx hx => ?_) ?_
                · have e0 := (HMv.out wx (hx.resolve_left (by simp))).a2
                  go_simp
                  try rfl
                go_simp
                refine hK1 _ ?_
                clear hK1 K1
                refine wpPre_e rfl rfl (fun K1 hK1 => ?_)
                apply Exists.intro
                refine And.intro (fun wx hx => ?_) ?_
                · go_simp
                  try rfl
                go_simp
                refine hK1 _ ?_
                clear hK1 K1
                refine wpPre_e rfl rfl (fun K1 hK1 => ?_)
                apply Exists.intro
                refine And.intro (fun wx hx => ?_) ?_
                · go_simp
                  try rfl
                go_simp
                refine hK1 _ ?_
                clear hK1 K1
                refine wpPre_e rfl rfl (fun K1 hK1 => ?_)
                apply Exists.intro
                refine And.intro (fun wx hx => ?_) ?_
                · go_simp
                  try rfl
                go_simp
                refine hK1 _ ?_
                clear hK1 K1
                refine wpPre_e rfl rfl (fun K1 hK1 => ?_)
                apply Exists.intro
                refine And.intro (fun wx hx => ?_) ?_
                · have e0 := HDt.out wx (hx.resolve_left (by simp))
                  go_simp
                  try rfl
                go_simp
                refine hK1 _ ?_
                clear hK1 K1
                refine wpPre_nil ?_
                refine wpTr_e rfl (fun K1 hK1 => ?_)
                go_simp
                have HBa : Hid (But fk.blk wr (wr.alloc (.cells #[.int .u8 zb] 5)).drew) := ((But.refl _ _).alloc _).drew
                refine hK1 _ _ (fun _ => HBa.out) ?_
                clear hK1 K1
                refine wpPre_nil ?_
                refine wpTr_e rfl (fun K1 hK1 => ?_)
                refine step_app rfl (.tmp 103) (.tmp 108) 31 5 i0 _ 1 1 HKd.out rfl 0 (.slice fk.lp fk.lo.length fk.lc) fk.lo.length _ rfl HL2.out ⟨wr.heap.size, 0, none⟩ 1 1 [.int .u8 zb] rfl rfl HNw.out (fun u hu => by obtain rfl := List.mem_singleton.1 hu; rfl) (by have := HLe.out; omega) (by have := HLe.out; omega) (Nat.zero_le _) ?_
                intro v3 w3 ho hg hn
                obtain ⟨p3, c3, hv3⟩ := ownsRow_slice ho
                subst hv3
                have HO := hid ho
                have HG := hid hg
                have HN := hid hn
                clear ho hg hn
                have HB3 : Hid (But fk.lb wr w3) := (((But.refl fk.lb wr).alloc _).drew).grown HG.out fun k e _ => e
                have HA3 := hid (HMv.out w3 (HB3.out.mono fun _ _ e => .inr e))
                have e0 := HA3.out.a2
                have e1 := HA3.out.gf (i * 3 + 2)
                have e2 := HA3.out.gl
                go_simp
                refine hK1 _ _ (fun _ => HB3.out.mono fun _ _ e => .inr e) ?_
                clear hK1 K1
                refine wpPre_e rfl rfl (fun K1 hK1 => ?_)
                apply Exists.intro
                refine And.intro (fun wx hx => ?_) ?_
                · go_simp
                  try rfl
                go_simp
                refine hK1 _ ?_
                clear hK1 K1
                refine wpPre_e rfl rfl (fun K1 hK1 => ?_)
                apply Exists.intro
                refine And.intro (fun wx hx => ?_) ?_
                · go_simp
                  try rfl
                go_simp
                refine hK1 _ ?_
                clear hK1 K1
                refine wpPre_nil ?_
                refine wpTr_e rfl (fun K1 hK1 => ?_)
                go_simp
                refine hK1 _ _ (fun h => by cases h) ?_
                clear hK1 K1
                refine wpPre_nil ?_
                refine wpTr_done ?_
                obtain ⟨f1, hf1⟩ : ∃ f1 : RF, f1 = ⟨fk.name, fk.sp, fk.sc, fk.su, p3, c3, fk.lo ++ [zb]⟩ := ⟨_, rfl⟩
                have HE : Hid (RkI (w3.setCell ⟨g, i * 3 + 2, none⟩ (.slice p3 (fk.lo.length + 1) c3)) (fun k => C k ∨ w.heap.size ≤ k) rb { R4 with fs := R4.fs.set i f1 } ∧ But C w (w3.setCell ⟨g, i * 3 + 2, none⟩ (.slice p3 (fk.lo.length + 1) c3))) := by
                  have hln : (fk.lo ++ [zb]).length = fk.lo.length + 1 := by simp
                  have h := HIk.out.putX (f' := f1) HIs.out HAb.out (by rw [hf1]) (by rw [hf1]) (by rw [hf1]) (by rw [hf1]) HB3.out ?_ ?_ ?_ ?_
                  · rw [hf1] at h
                    simp only [hln] at h
                    have e1 : ({ Rk with fs := Rk.fs.set i ⟨fk.name, fk.sp, fk.sc, fk.su, p3, c3, fk.lo ++ [zb]⟩ } : RK) = { R4 with fs := R4.fs.set i f1 } := by
                      rw [HRk.out, hf1]
                      simp
                    rw [e1] at h
                    refine ⟨h.1.mono fun k hk _ => ?_, HBw.out.cc h.2⟩
                    rcases hk with hk | hk
                    · exact hk
                    · exact .inr (Nat.le_trans HBw.out.size hk)
                  · rw [hf1]
                    show OwnBy 0 w3 (.slice p3 (fk.lo ++ [zb]).length c3) (fk.lo ++ [zb])
                    rw [hln]
                    exact OwnBy.app (ys := [zb]) HF.out.l HO.out
                  · intro k2 hk2
                    have hk3 : (Value.slice p3 (fk.lo.length + 1) c3).ownBlock = some k2 := by
                      have : (Value.slice f1.lp f1.lo.length f1.lc).ownBlock = some k2 := hk2
                      rw [hf1] at this
                      simp only [hln] at this
                      exact this
                    rcases HN.out with h1 | h1
                    · exact .inl (h1.symm.trans hk3)
                    · have := h1 k2 hk3
                      exact .inr (by have h2 : wr.heap.size ≤ (wr.alloc (.cells #[.int .u8 zb] 5)).drew.heap.size := (((Below.refl wr.heap.size wr).alloc (Nat.le_refl _) _).drew).size
                                     omega)
                  · rw [hf1]
                    show fk.su.length + (fk.lo ++ [zb]).length ≤ 65536
                    rw [hln]
                    exact HLe.out
                  · rw [hf1]
                    intro z hz
                    have hz' : z ∈ fk.su ++ (fk.lo ++ [zb]) := hz
                    rw [← List.append_assoc] at hz'
                    rcases List.mem_append.1 hz' with h1 | h1
                    · exact HF.out.by_ z h1
                    · rw [List.mem_singleton.1 h1]
                      have := HBt.out
                      omega
                have HF1 : Hid (f1.name = s ∧ f1.su = f0.su ∧ f1.lo = f0.lo ++ zs.take (k + 1)) := by
                  refine ⟨by rw [hf1]; exact HNm.out, by rw [hf1]; exact HSu.out, ?_⟩
                  rw [hf1]
                  show fk.lo ++ [zb] = _
                  rw [HLo.out, List.append_assoc, HZb.out]
                  congr 1
                  rw [List.take_add_one, List.getElem?_eq_getElem (show k < zs.length by omega)]
                  simp [List.getD_eq_getElem?_getD, List.getElem?_eq_getElem (show k < zs.length by omega)]
                clear hf1 e0 e1 e2
                go_wp2
                go_roundw
                case rel => exact ⟨k + 1, f1, by omega, by go_num, HF1.out.1, HF1.out.2.1, HF1.out.2.2, HE.out.1, HE.out.2⟩
                case measure => simp [intOf]; omega
              · have hlt' : ¬ (k : Int) < (m : Int) := by omega
                obtain rfl : k = m := by omega
                have HAk : Hid (RC { R4.ak with ks := updK s (s, f0.su ++ (f0.lo ++ zs.take k), (f0.su.length : Int)) (R4.fs.map RF.key) } C rb w wr) := by
                  refine ⟨⟨Rk, ?_, HIk.out⟩, HBw.out⟩
                  have e1 : Rk.fs.map RF.key = updK s fk.key (R4.fs.map RF.key) := by rw [HRk.out]; exact set_key HIk4.out.nd HI4.out
                  have e2 : fk.key = (s, f0.su ++ (f0.lo ++ zs.take k), (f0.su.length : Int)) := by
                    unfold RF.key
                    rw [HNm.out, HSu.out, HLo.out]
                  unfold RK.ak
                  rw [e1, e2, HRk.out]
                have HFl2 : Hid (∀ wx, RkI wx (fun k => C k ∨ w.heap.size ≤ k) rb Rk → Calls Tryz.prog 31 #[.pointer (some ⟨rb, 0, none⟩)] wx fun e w' => e = .returned (.tuple #[]) ∧ RigR Rk.fallen (fun k => C k ∨ w.heap.size ≤ k) rb wx w') := fun wx hx => rfall_any Rk wx _ rb hx
                go_wp2_with fail
                refine (HFl2.out wr HIk.out).mono ?_
                rintro e w7 ⟨rfl, hF7⟩
                have HF7 : Hid (RC { R4.fallen.ak with ks := updK s (s, f0.su ++ (f0.lo ++ zs.take k), (f0.su.length : Int)) (R4.fs.map RF.key) } C rb w w7) := by
                  obtain ⟨⟨R9, h1, _⟩, _⟩ := HAk.out
                  refine ⟨⟨Rk.fallen, ?_, hF7.1⟩, HBw.out.cc (hF7.2.mono fun k _ e => by have e' : k = rb := e; subst e'; exact HIk.out.cb)⟩
                  have e1 : Rk.fs.map RF.key = updK s fk.key (R4.fs.map RF.key) := by rw [HRk.out]; exact set_key HIk4.out.nd HI4.out
                  have e2 : fk.key = (s, f0.su ++ (f0.lo ++ zs.take k), (f0.su.length : Int)) := by
                    unfold RF.key
                    rw [HNm.out, HSu.out, HLo.out]
                  unfold RK.ak RK.fallen
                  simp only [e1, e2]
                  rw [HRk.out]
                clear hF7
                go_wp2
                refine bodyPost_ret (v := .int .i64 100) (by simp [results, Tryz.results13, go_sem]) rfl ?_
                exact HEND.out _ _ (by first | rfl | simp) HF7.out
    · have HIs0 := hid hi
      have HIsR : Hid (R.is s i f0) := ⟨by rw [← HFs.out]; exact hi.1, hi.2⟩
      obtain ⟨g0, hp0, _, _, hil0, _, hF0, hAt0⟩ := HIk1.out.getAt hi
      have hil0' : (i : Int) < (R1.fs.length : Int) := by omega
      have hi00 : ¬ (i : Int) < 0 := by omega
      have hi01 : (0 : Int) ≤ (i : Int) := by omega
      have hle0 := hF0.le
      have hwr1 : IntKind.i64.wrap ((f0.su.length : Int) + (f0.lo.length : Int)) = (f0.su.length : Int) + (f0.lo.length : Int) := by rw [IntKind.wrap_i64]; omega
      have hwr2 : IntKind.i64.wrap ((f0.su.length : Int) + (f0.lo.length : Int) + (zs.length : Int)) = (f0.su.length : Int) + (f0.lo.length : Int) + (zs.length : Int) := by rw [IntKind.wrap_i64]; omega
      have HWr := hid (And.intro hwr1 hwr2)
      clear hwr1 hwr2
      have hw1 : -9223372036854775808 ≤ (f0.su.length : Int) + (f0.lo.length : Int) ∧ (f0.su.length : Int) + (f0.lo.length : Int) ≤ 9223372036854775807 := by omega
      have hw2 : -9223372036854775808 ≤ (f0.su.length : Int) + (f0.lo.length : Int) + (zs.length : Int) ∧ (f0.su.length : Int) + (f0.lo.length : Int) + (zs.length : Int) ≤ 9223372036854775807 := by omega
      obtain ⟨_, _, a0, a1, a2, gf, gl⟩ := hAt0
      rw [hp0] at r0
      clear hi HF hF0 hp0 a0 gf
      by_cases hfu : f0.su.length + f0.lo.length + zs.length ≤ 65536
      · have hfu' : ¬ (65536 : Int) < (f0.su.length : Int) + (f0.lo.length : Int) + (zs.length : Int) := by omega
        go_upto_region 7 with fail
        refine wp_region_calmE 30 (fun wx => Below w2.heap.size w2 wx) [(0, true), (1, true), (2, true), (3, true), (4, true), (5, true), (6, false), (7, true), (8, true), (9, true), (10, false), (11, true), (12, true), (13, true), (14, true), (15, false), (16, true), (17, true), (18, true), (19, false), (20, true), (21, true), (22, true), (23, true), (24, true), (25, true), (26, true)] .done (by kernel_rfl) (by kernel_rfl) (Below.refl _ _).drew ?_
        refine wpPre_e rfl rfl (fun K1 hK1 => ?_)
        apply Exists.intro
        refine And.intro (fun wx hx => ?_) ?_
        · go_simp
          try rfl
        go_simp
        refine hK1 _ ?_
        clear hK1 K1
        refine wpPre_e rfl rfl (fun K1 hK1 => ?_)
        apply Exists.intro
        refine And.intro (fun wx hx => ?_) ?_
        · go_simp
          try rfl
        go_simp
        refine hK1 _ ?_
        clear hK1 K1
        refine wpPre_e rfl rfl (fun K1 hK1 => ?_)
        apply Exists.intro
        refine And.intro (fun wx hx => ?_) ?_
        · go_simp
          try rfl
        go_simp
        refine hK1 _ ?_
        clear hK1 K1
        refine wpPre_i rfl (fun K1 hK1 => ?_)
        rw [if_pos (by go_simp)]
        apply Exists.intro
        refine And.intro (fun wx hx => ?_) ?_
        · go_simp
          try rfl
        go_simp
        refine hK1 _ ?_
        clear hK1 K1
        refine wpPre_i rfl (fun K1 hK1 => ?_)
        rw [if_pos (by go_simp)]
        apply Exists.intro
        refine And.intro (fun wx hx => ?_) ?_
        · go_simp
          try rfl
        go_simp
        refine hK1 _ ?_
        clear hK1 K1
        refine wpPre_i rfl (fun K1 hK1 => ?_)
        rw [if_pos (by go_simp)]
        apply Exists.intro
        refine And.intro (fun wx hx => ?_) ?_
        · go_simp
          try rfl
        go_simp
        refine hK1 _ ?_
        clear hK1 K1
        refine wpPre_i rfl (fun K1 hK1 => ?_)
        rw [if_pos (by go_simp)]
        apply Exists.intro
        refine And.intro (fun wx hx => ?_) ?_
        · have e0 := below_fact hx rfl r0
          go_simp
          try rfl
        go_simp
        refine hK1 _ ?_
        clear hK1 K1
        refine wpPre_i rfl (fun K1 hK1 => ?_)
        rw [if_pos (by go_simp)]
        apply Exists.intro
        refine And.intro (fun wx hx => ?_) ?_
        · go_simp
          try rfl
        go_simp
        refine hK1 _ ?_
        clear hK1 K1
        refine wpPre_i rfl (fun K1 hK1 => ?_)
        rw [if_pos (by go_simp)]
        apply Exists.intro
        refine And.intro (fun wx hx => ?_) ?_
        · go_simp
          try rfl
        go_simp
        refine hK1 _ ?_
        clear hK1 K1
        refine wpPre_i rfl (fun K1 hK1 => ?_)
        rw [if_pos (by go_simp)]
        apply Exists.intro
        refine And.intro (fun wx hx => ?_) ?_
        · go_simp
          try rfl
        go_simp
        refine hK1 _ ?_
        clear hK1 K1
        refine wpPre_i rfl (fun K1 hK1 => ?_)
        rw [if_pos (by go_simp)]
        apply Exists.intro
        refine And.intro (fun wx hx => ?_) ?_
        · have e0 := below_fact hx rfl a1
          go_simp
          try rfl
        go_simp
        refine hK1 _ ?_
        clear hK1 K1
        refine wpPre_i rfl (fun K1 hK1 => ?_)
        rw [if_pos (by go_simp)]
        apply Exists.intro
        refine And.intro (fun wx hx => ?_) ?_
        · go_simp
          try rfl
        go_simp
        refine hK1 _ ?_
        clear hK1 K1
        refine wpPre_i rfl (fun K1 hK1 => ?_)
        rw [if_pos (by go_simp)]
        apply Exists.intro
        refine And.intro (fun wx hx => ?_) ?_
        · go_simp
          try rfl
        go_simp
        refine hK1 _ ?_
        clear hK1 K1
        refine wpPre_i rfl (fun K1 hK1 => ?_)
        rw [if_pos (by go_simp)]
        apply Exists.intro
        refine And.intro (fun wx hx => ?_) ?_
        · go_simp
          try rfl
        go_simp
        refine hK1 _ ?_
        clear hK1 K1
        refine wpPre_i rfl (fun K1 hK1 => ?_)
        rw [if_pos (by go_simp)]
        apply Exists.intro
        refine And.intro (fun wx hx => ?_) ?_
        · go_simp
          try rfl
        go_simp
        refine hK1 _ ?_
        clear hK1 K1
        refine wpPre_i rfl (fun K1 hK1 => ?_)
        rw [if_pos (by go_simp)]
        apply Exists.intro
        refine And.intro (fun wx hx => ?_) ?_
        · have e0 := below_fact hx rfl r0
          go_simp
          try rfl
        go_simp
        refine hK1 _ ?_
        clear hK1 K1
        refine wpPre_i rfl (fun K1 hK1 => ?_)
        rw [if_pos (by go_simp)]
        apply Exists.intro
        refine And.intro (fun wx hx => ?_) ?_
        · go_simp
          try rfl
        go_simp
        refine hK1 _ ?_
        clear hK1 K1
        refine wpPre_i rfl (fun K1 hK1 => ?_)
        rw [if_pos (by go_simp)]
        apply Exists.intro
        refine And.intro (fun wx hx => ?_) ?_
        · go_simp
          try rfl
        go_simp
        refine hK1 _ ?_
        clear hK1 K1
        refine wpPre_i rfl (fun K1 hK1 => ?_)
        rw [if_pos (by go_simp)]
        apply Exists.intro
        refine And.intro (fun wx hx => ?_) ?_
        · go_simp
          try rfl
        go_simp
        refine hK1 _ ?_
        clear hK1 K1
        refine wpPre_i rfl (fun K1 hK1 => ?_)
        rw [if_pos (by go_simp)]
        apply Exists.intro
        refine And.intro (fun wx hx => ?_) ?_
        · have e0 := below_fact hx rfl a2
          go_simp
          try rfl
        go_simp
        refine hK1 _ ?_
        clear hK1 K1
        refine wpPre_i rfl (fun K1 hK1 => ?_)
        rw [if_pos (by go_simp)]
        apply Exists.intro
        refine And.intro (fun wx hx => ?_) ?_
        · go_simp
          try rfl
        go_simp
        refine hK1 _ ?_
        clear hK1 K1
        refine wpPre_i rfl (fun K1 hK1 => ?_)
        rw [if_pos (by go_simp)]
        apply Exists.intro
        refine And.intro (fun wx hx => ?_) ?_
        · go_simp
          try rfl
        go_simp
        refine hK1 _ ?_
        clear hK1 K1
        refine wpPre_i rfl (fun K1 hK1 => ?_)
        rw [if_pos (by go_simp)]
        apply Exists.intro
        refine And.intro (fun wx hx => ?_) ?_
        · go_simp
          try rfl
        go_simp
        refine hK1 _ ?_
        clear hK1 K1
        refine wpPre_i rfl (fun K1 hK1 => ?_)
        rw [if_pos (by go_simp)]
        apply Exists.intro
        refine And.intro (fun wx hx => ?_) ?_
        · go_simp
          try rfl
        go_simp
        refine hK1 _ ?_
        clear hK1 K1
        refine wpPre_i rfl (fun K1 hK1 => ?_)
        rw [if_pos (by go_simp)]
        apply Exists.intro
        refine And.intro (fun wx hx => ?_) ?_
        · go_simp
          try rfl
        go_simp
        refine hK1 _ ?_
        clear hK1 K1
        refine wpPre_i rfl (fun K1 hK1 => ?_)
        rw [if_pos (by go_simp)]
        apply Exists.intro
        refine And.intro (fun wx hx => ?_) ?_
        · go_simp
          try rfl
        go_simp
        refine hK1 _ ?_
        clear hK1 K1
        refine wpPre_e rfl rfl (fun K1 hK1 => ?_)
        apply Exists.intro
        refine And.intro (fun wx hx => ?_) ?_
        · go_simp
          try rfl
        go_simp
        refine hK1 _ ?_
        clear hK1 K1
        refine wpPre_nil ?_
        refine wpTr_done ?_
        rw [HWr.out.1, HWr.out.2, show decide ((65536 : Int) < (f0.su.length : Int) + (f0.lo.length : Int) + (zs.length : Int)) = false from decide_eq_false (by omega)]
        clear r0 rl a1 a2 gl
        obtain ⟨W4, hW4⟩ : ∃ V, V = w2.drew := ⟨_, rfl⟩
        rw [← hW4]
        have HI1 : Hid (RkI W4 C rb R1) := by show RkI _ _ _ _; rw [hW4]; exact HIk1.out.drew
        have HBW4 : Hid (But C w W4) := by show But _ _ _; rw [hW4]; exact HBw2.out.drew
        clear hW4
        have HP := hid (rpays_any R1 ((zs.length : Int) + 1) W4 C rb HI1.out (by omega) (by omega))
        have r2 := HI1.out.bx.cell 2
        have r2l := HI1.out.bx.lt
        simp at r2
        go_wp2_with fail
        refine HP.out.mono ?_
        rintro e W5 ⟨rfl, hP⟩
        have HBW5 : Hid (But C w W5) := HBW4.out.trans (hP.2.mono fun k _ e => by have e' : k = rb := e; subst e'; exact hP.1.cb)
        clear r2 r2l HP
        obtain ⟨R3, hR3⟩ : ∃ R3, R3 = pyR R1 ((zs.length : Int) + 1) := ⟨_, rfl⟩
        have HF3 : Hid (R3.fs = R1.fs) := by show R3.fs = R1.fs; rw [hR3]; exact (pyR_fs R1 _).1
        have HIk3 : Hid (RkI W5 C rb R3) := by show RkI _ _ _ _; rw [hR3]; exact hP.1
        have HR3 := hid hR3
        clear hR3 hP
        cases hpy : pyB R1 ((zs.length : Int) + 1) with
        | true =>
          have HPy := hid hpy
          clear hpy
          have hi0 : ¬ (i : Int) < 0 := by omega
          obtain ⟨R4, hR4⟩ : ∃ R4 : RK, R4 = R3 := ⟨_, rfl⟩
          have HR4 := hid hR4
          have HI4 : Hid (R4.is s i f0) := ⟨by rw [hR4, HF3.out]; exact HIs0.out.1, HIs0.out.2⟩
          have HIk4 : Hid (RkI W5 (fun k => C k ∨ w.heap.size ≤ k) rb R4) := by rw [hR4]; exact HIk3.out.mono fun k hk _ => .inl hk
          have HBW := HBW5
          have HLe4 : Hid (f0.su.length + f0.lo.length + zs.length ≤ 65536) := hfu
          clear hR4
          have HEND : Hid (∀ (e : Ending) (w' : World), e = .returned (.int .i64 0) → RC { R4.ak with ks := updK s (s, f0.su ++ (f0.lo ++ zs.take zs.length), (f0.su.length : Int)) (R4.fs.map RF.key) } C rb w w' → ApQ R s zs C rb w e w') := by
            intro e w' he hrc
            have hq0 : ahE R s true = 0 := HQe.out.symm
            have hR1 : ahR R s true = R1 := HRe.out.symm
            have hpy' : pyB (ahR R s true) ((zs.length : Int) + 1) = true := by rw [hR1]; exact HPy.out
            have a1 : apE (ahR R s true) zs.length = 0 := by unfold apE; rw [hpy']; simp
            have a2 : apR (ahR R s true) zs.length = R3 := by unfold apR; rw [hpy', hR1]; simp; exact HR3.out.symm
            have a3 : apN (ahR R s true) zs.length = zs.length := by unfold apN; rw [hpy', hR1]; simp
            refine .inr (.inr (.inr (.inr ⟨hq0, i, f0, HIsR.out, HLe4.out, by rw [a1]; exact he, ?_⟩)))
            rw [a2, a3]
            rw [HR4.out, HF3.out, HFs.out, ← List.append_assoc] at hrc
            exact hrc
          obtain ⟨g, hpg, habg, hrg, hil, hnl, _, _⟩ := HIk4.out.getAt HI4.out
          have HPg := hid hpg
          have HAbg := hid habg
          have hil' : (i : Int) < (R4.fs.length : Int) := by omega
          clear hpg habg
          go_wp2_with fail
          go_loopw [12] (fun x wr => ∃ (k : Nat) (fk : RF), k ≤ zs.length ∧ x = .int .i64 (k : Int) ∧ fk.name = s ∧ fk.su = f0.su ∧ fk.lo = f0.lo ++ zs.take k ∧ RkI wr (fun k => C k ∨ w.heap.size ≤ k) rb { R4 with fs := R4.fs.set i fk } ∧ But C w wr) (fun x _ => zs.length - (intOf x).toNat)
          case atStart => exact ⟨0, f0, Nat.zero_le _, rfl, HI4.out.2, rfl, by simp, by rw [set_get_self HI4.out.1]; exact HIk4.out, HBW.out⟩
          case round =>
            obtain ⟨k, fk, hk, rfl, hnm, hsu, hlo, hIk, hbw⟩ := hrel
            have HNm := hid hnm
            have HSu := hid hsu
            have HLo := hid hlo
            have HIk := hid hIk
            have HBw := hid hbw
            clear hnm hsu hlo hIk hbw
            obtain ⟨Rk, hRk⟩ : ∃ Rk : RK, Rk = { R4 with fs := R4.fs.set i fk } := ⟨_, rfl⟩
            rw [← hRk] at HIk
            have HRk := hid hRk
            have hfl : Rk.fs.length = R4.fs.length := by rw [hRk]; exact List.length_set
            have HIs : Hid (Rk.is s i fk) := by
              refine ⟨?_, HNm.out⟩
              rw [hRk]
              show (R4.fs.set i fk)[i]? = some fk
              rw [List.getElem?_set_self hil]
            have hcR : Rk.c = R4.c := by rw [hRk]
            have habk : Rk.ab g := by
              have h := HAbg.out
              unfold RK.ab at h ⊢
              rw [hfl, hRk]
              exact h
            have HAb := hid habk
            have HFl := hid hfl
            clear hRk habk hcR hfl
            by_cases hlt : k < zs.length
            · have hlt' : (k : Int) < (zs.length : Int) := by omega
              obtain ⟨g2, _, hab2, _, hil2, _, hF, hAt⟩ := HIk.out.getAt HIs.out
              obtain rfl : g = g2 := Option.some.inj (HAb.out.symm.trans hab2)
              have HF := hid hF
              have HAt := hid hAt
              have hil2' : (i : Int) < (Rk.fs.length : Int) := by omega
              have HMv : Hid (∀ wx, But fk.blk wr wx → At wx Rk rb g i fk) := fun wx hx => HIk.out.moveAt HIs.out HAb.out HAt.out hx
              have hmz : zs.length ≤ zs.length := Nat.le_refl _
              have HLe : Hid (fk.su.length + (fk.lo.length + 1) ≤ 65536) := by
                have h1 := HLe4.out
                have h2 : (zs.take k).length = k := by simp; omega
                show fk.su.length + (fk.lo.length + 1) ≤ 65536
                rw [HSu.out, HLo.out, List.length_append, h2]
                omega
              have hkz : (k : Int) < (zs.length : Int) := by omega
              have HDr : Hid (Byts wr S p zs.length c (fun j => zs.getD j 0)) := HDat.out.kept HBw.out.size fun b hb hl => HBw.out.block b hl (HSC.out b hb)
              obtain ⟨bb, o, hpp, hSb, hbb, hat⟩ := HDr.out.at_ (by omega)
              have hbt := HDr.out.fit k (by omega)
              obtain ⟨zb, hzb⟩ : ∃ zb, zb = zs.getD k 0 := ⟨_, rfl⟩
              have HBt : Hid (0 ≤ zb ∧ zb < 256) := by show 0 ≤ zb ∧ zb < 256; rw [hzb]; exact hbt
              have HZb := hid hzb
              subst hpp
              have HDt : Hid (∀ wx, But fk.blk wr wx → wx.cell? ⟨bb, o + k, none⟩ = some (.int .u8 zb)) := fun wx hx => by
                rw [cell_kept (hx.block bb hbb fun e => by
                  rcases (HIk.out.each fk (List.mem_of_getElem? HIs.out.1)).cs bb e with h | h
                  · exact HSC.out bb hSb h
                  · have := HSl.out bb hSb; omega)]
                rw [hzb]
                exact hat k (by omega)
              have HL2 : Hid ((wr.alloc (.cells #[.int .u8 zb] 5)).drew.ownsRow 0 5 1 (.slice fk.lp fk.lo.length fk.lc) fk.lo.length (fk.lo.map (Value.int .u8))) := HF.out.l.below (((Below.refl _ _).alloc (Nat.le_refl _) _).drew)
              have HNw : Hid (∀ j u', [Value.int .u8 zb][j]? = some u' → (wr.alloc (.cells #[.int .u8 zb] 5)).drew.cell? ((⟨wr.heap.size, 0, none⟩ : Addr).add j) = some u') := fun j u' hu => by
                have hbn : Box (wr.alloc (.cells #[.int .u8 zb] 5)).drew wr.heap.size #[.int .u8 zb] 5 := Box.new wr _ _
                rw [Go.WideShapes.add_plain, hbn.cell]
                rw [show 0 + j = j by omega]
                simpa using hu
              clear hF hAt hat hbt hab2 hzb
              go_upto_region 20 with fail
              refine wp_region_calmE 30 (fun wx => But fk.blk wr wx) [(0, true), (1, true), (2, true), (3, false), (4, true), (5, true), (6, true), (7, true), (8, false), (9, true), (10, true), (11, true), (12, false), (13, true), (14, true), (15, true), (16, false)] (.one 17 true [] (.one 18 true [(19, true), (20, true)] (.one 21 false [] .done))) (by kernel_rfl) (by kernel_rfl) (But.refl _ _).drew ?_
              refine wpPre_e rfl rfl (fun K1 hK1 => ?_)
              apply Exists.intro
              refine And.intro (fun wx hx => ?_) ?_
              · go_simp
                try rfl
              go_simp
              refine hK1 _ ?_
              clear hK1 K1
              refine wpPre_e rfl rfl (fun K1 hK1 => ?_)
              apply Exists.intro
              refine And.intro (fun wx hx => ?_) ?_
              · go_simp
                try rfl
              go_simp
              refine hK1 _ ?_
              clear hK1 K1
              refine wpPre_e rfl rfl (fun K1 hK1 => ?_)
              apply Exists.intro
              refine And.intro (fun wx hx => ?_) ?_
              · go_simp
                try rfl
              go_simp
              refine hK1 _ ?_
              clear hK1 K1
              refine wpPre_e rfl rfl (fun K1 hK1 => ?_)
              apply Exists.intro
              refine And.intro (fun wx hx => ?_) ?_
              · have e0 := (HMv.out wx (hx.resolve_left (by simp))).r0
                go_simp
                try rfl
              go_simp
              refine hK1 _ ?_
              clear hK1 K1
              refine wpPre_e rfl rfl (fun K1 hK1 => ?_)
              apply Exists.intro
              refine And.intro (fun wx hx => ?_) ?_
              · go_simp
                try rfl
              go_simp
              refine hK1 _ ?_
              clear hK1 K1
              refine wpPre_e rfl rfl (fun K1 hK1 => ?_)
              apply Exists.intro
              refine And.intro (fun wx hx => ?_) ?_
              · go_simp
                try rfl
              go_simp
              refine hK1 _ ?_
              clear hK1 K1
              refine wpPre_e rfl rfl (fun K1 hK1 => ?_)
              apply Exists.intro
              refine And.intro (fun wx hx => ?_) ?_
              · go_simp
                try rfl
              go_simp
              refine hK1 _ ?_
              clear hK1 K1
              refine wpPre_e rfl rfl (fun K1 hK1 => ?_)
              apply Exists.intro
              refine And.intro (fun wx hx => ?_) ?_
              · go_simp
                try rfl
              go_simp
              refine hK1 _ ?_
              clear hK1 K1
              refine wpPre_e rfl rfl (fun K1 hK1 => ?_)
              apply Exists.intro
              refine And.intro (fun wx hx => ?_) ?_
              · have e0 := (HMv.out wx (hx.resolve_left (by simp))).r0
                go_simp
                try rfl
              go_simp
              refine hK1 _ ?_
              clear hK1 K1
              refine wpPre_e rfl rfl (fun K1 hK1 => ?_)
              apply Exists.intro
              refine And.intro (fun wx hx => ?_) ?_
              · go_simp
                try rfl
              go_simp
              refine hK1 _ ?_
              clear hK1 K1
              refine wpPre_e rfl rfl (fun K1 hK1 => ?_)
              apply Exists.intro
              refine And.intro (fun wx hx => ?_) ?_
              · go_simp
                try rfl
              go_simp
              refine hK1 _ ?_
              clear hK1 K1
              refine wpPre_e rfl rfl (fun K1 hK1 => ?_)
              apply Exists.intro
              refine And.intro (fun wx hx => ?_) ?_
              · go_simp
                try rfl
              go_simp
              refine hK1 _ ?_
              clear hK1 K1
              refine wpPre_e rfl rfl (fun K1 hK1 => ?_)
              apply Exists.intro
              refine And.intro (fun wx hx => ?_) ?_
              · have e0 := (HMv.out wx (hx.resolve_left (by simp))).a2
                go_simp
                try rfl
              go_simp
              refine hK1 _ ?_
              clear hK1 K1
              refine wpPre_e rfl rfl (fun K1 hK1 => ?_)
              apply Exists.intro
              refine And.intro (fun wx hx => ?_) ?_
              · go_simp
                try rfl
              go_simp
              refine hK1 _ ?_
              clear hK1 K1
              refine wpPre_e rfl rfl (fun K1 hK1 => ?_)
              apply Exists.intro
              refine And.intro (fun wx hx => ?_) ?_
              · go_simp
                try rfl
              go_simp
              refine hK1 _ ?_
              clear hK1 K1
              refine wpPre_e rfl rfl (fun K1 hK1 => ?_)
              apply Exists.intro
              refine And.intro (fun wx hx => ?_) ?_
              · go_simp
                try rfl
              go_simp
              refine hK1 _ ?_
              clear hK1 K1
              refine wpPre_e rfl rfl (fun K1 hK1 => ?_)
              apply Exists.intro
              refine And.intro (fun wx hx => ?_) ?_
              · have e0 := HDt.out wx (hx.resolve_left (by simp))
                go_simp
                try rfl
              go_simp
              refine hK1 _ ?_
              clear hK1 K1
              refine wpPre_nil ?_
              refine wpTr_e rfl (fun K1 hK1 => ?_)
              go_simp
              have HBa : Hid (But fk.blk wr (wr.alloc (.cells #[.int .u8 zb] 5)).drew) := ((But.refl _ _).alloc _).drew
              refine hK1 _ _ (fun _ => HBa.out) ?_
              clear hK1 K1
              refine wpPre_nil ?_
              refine wpTr_e rfl (fun K1 hK1 => ?_)
              refine step_app rfl (.tmp 103) (.tmp 108) 31 5 i0 _ 1 1 HKd.out rfl 0 (.slice fk.lp fk.lo.length fk.lc) fk.lo.length _ rfl HL2.out ⟨wr.heap.size, 0, none⟩ 1 1 [.int .u8 zb] rfl rfl HNw.out (fun u hu => by obtain rfl := List.mem_singleton.1 hu; rfl) (by have := HLe.out; omega) (by have := HLe.out; omega) (Nat.zero_le _) ?_
              intro v3 w3 ho hg hn
              obtain ⟨p3, c3, hv3⟩ := ownsRow_slice ho
              subst hv3
              have HO := hid ho
              have HG := hid hg
              have HN := hid hn
              clear ho hg hn
              have HB3 : Hid (But fk.lb wr w3) := (((But.refl fk.lb wr).alloc _).drew).grown HG.out fun k e _ => e
              have HA3 := hid (HMv.out w3 (HB3.out.mono fun _ _ e => .inr e))
              have e0 := HA3.out.a2
              have e1 := HA3.out.gf (i * 3 + 2)
              have e2 := HA3.out.gl
              go_simp
              refine hK1 _ _ (fun _ => HB3.out.mono fun _ _ e => .inr e) ?_
              clear hK1 K1
              refine wpPre_e rfl rfl (fun K1 hK1 => ?_)
              apply Exists.intro
              refine And.intro (fun wx hx => ?_) ?_
              · go_simp
                try rfl
              go_simp
              refine hK1 _ ?_
              clear hK1 K1
              refine wpPre_e rfl rfl (fun K1 hK1 => ?_)
              apply Exists.intro
              refine And.intro (fun wx hx => ?_) ?_
              · go_simp
                try rfl
              go_simp
              refine hK1 _ ?_
              clear hK1 K1
              refine wpPre_nil ?_
              refine wpTr_e rfl (fun K1 hK1 => ?_)
              go_simp
              refine hK1 _ _ (fun h => by cases h) ?_
              clear hK1 K1
              refine wpPre_nil ?_
              refine wpTr_done ?_
              obtain ⟨f1, hf1⟩ : ∃ f1 : RF, f1 = ⟨fk.name, fk.sp, fk.sc, fk.su, p3, c3, fk.lo ++ [zb]⟩ := ⟨_, rfl⟩
              have HE : Hid (RkI (w3.setCell ⟨g, i * 3 + 2, none⟩ (.slice p3 (fk.lo.length + 1) c3)) (fun k => C k ∨ w.heap.size ≤ k) rb { R4 with fs := R4.fs.set i f1 } ∧ But C w (w3.setCell ⟨g, i * 3 + 2, none⟩ (.slice p3 (fk.lo.length + 1) c3))) := by
                have hln : (fk.lo ++ [zb]).length = fk.lo.length + 1 := by simp
                have h := HIk.out.putX (f' := f1) HIs.out HAb.out (by rw [hf1]) (by rw [hf1]) (by rw [hf1]) (by rw [hf1]) HB3.out ?_ ?_ ?_ ?_
                · rw [hf1] at h
                  simp only [hln] at h
                  have e1 : ({ Rk with fs := Rk.fs.set i ⟨fk.name, fk.sp, fk.sc, fk.su, p3, c3, fk.lo ++ [zb]⟩ } : RK) = { R4 with fs := R4.fs.set i f1 } := by
                    rw [HRk.out, hf1]
                    simp
                  rw [e1] at h
                  refine ⟨h.1.mono fun k hk _ => ?_, HBw.out.cc h.2⟩
                  rcases hk with hk | hk
                  · exact hk
                  · exact .inr (Nat.le_trans HBw.out.size hk)
                · rw [hf1]
                  show OwnBy 0 w3 (.slice p3 (fk.lo ++ [zb]).length c3) (fk.lo ++ [zb])
                  rw [hln]
                  exact OwnBy.app (ys := [zb]) HF.out.l HO.out
                · intro k2 hk2
                  have hk3 : (Value.slice p3 (fk.lo.length + 1) c3).ownBlock = some k2 := by
                    have : (Value.slice f1.lp f1.lo.length f1.lc).ownBlock = some k2 := hk2
                    rw [hf1] at this
                    simp only [hln] at this
                    exact this
                  rcases HN.out with h1 | h1
                  · exact .inl (h1.symm.trans hk3)
                  · have := h1 k2 hk3
                    exact .inr (by have h2 : wr.heap.size ≤ (wr.alloc (.cells #[.int .u8 zb] 5)).drew.heap.size := (((Below.refl wr.heap.size wr).alloc (Nat.le_refl _) _).drew).size
                                   omega)
                · rw [hf1]
                  show fk.su.length + (fk.lo ++ [zb]).length ≤ 65536
                  rw [hln]
                  exact HLe.out
                · rw [hf1]
                  intro z hz
                  have hz' : z ∈ fk.su ++ (fk.lo ++ [zb]) := hz
                  rw [← List.append_assoc] at hz'
                  rcases List.mem_append.1 hz' with h1 | h1
                  · exact HF.out.by_ z h1
                  · rw [List.mem_singleton.1 h1]
                    have := HBt.out
                    omega
              have HF1 : Hid (f1.name = s ∧ f1.su = f0.su ∧ f1.lo = f0.lo ++ zs.take (k + 1)) := by
                refine ⟨by rw [hf1]; exact HNm.out, by rw [hf1]; exact HSu.out, ?_⟩
                rw [hf1]
                show fk.lo ++ [zb] = _
                rw [HLo.out, List.append_assoc, HZb.out]
                congr 1
                rw [List.take_add_one, List.getElem?_eq_getElem (show k < zs.length by omega)]
                simp [List.getD_eq_getElem?_getD, List.getElem?_eq_getElem (show k < zs.length by omega)]
              clear hf1 e0 e1 e2
              go_wp2
              go_roundw
              case rel => exact ⟨k + 1, f1, by omega, by go_num, HF1.out.1, HF1.out.2.1, HF1.out.2.2, HE.out.1, HE.out.2⟩
              case measure => simp [intOf]; omega
            · have hlt' : ¬ (k : Int) < (zs.length : Int) := by omega
              obtain rfl : k = zs.length := by omega
              have HAk : Hid (RC { R4.ak with ks := updK s (s, f0.su ++ (f0.lo ++ zs.take zs.length), (f0.su.length : Int)) (R4.fs.map RF.key) } C rb w wr) := by
                refine ⟨⟨Rk, ?_, HIk.out⟩, HBw.out⟩
                have e1 : Rk.fs.map RF.key = updK s fk.key (R4.fs.map RF.key) := by rw [HRk.out]; exact set_key HIk4.out.nd HI4.out
                have e2 : fk.key = (s, f0.su ++ (f0.lo ++ zs.take zs.length), (f0.su.length : Int)) := by
                  unfold RF.key
                  rw [HNm.out, HSu.out, HLo.out]
                unfold RK.ak
                rw [e1, e2, HRk.out]
              go_wp2
              refine bodyPost_ret (v := .int .i64 0) (by simp [results, Tryz.results13, go_sem]) rfl ?_
              exact HEND.out _ _ (by first | rfl | simp) HAk.out
        | false =>
          have HPy := hid hpy
          have HPyR : Hid (R3 = R1) := by
            show R3 = R1
            rw [HR3.out]
            simp only [pyB, Bool.or_eq_false_iff, decide_eq_false_iff_not] at hpy
            exact if_neg (by omega)
          obtain ⟨m, hm⟩ : ∃ m, m = R1.left.toNat := ⟨_, rfl⟩
          have hpl : 0 ≤ R1.left ∧ R1.left < (zs.length : Int) + 1 := by
            simp only [pyB, Bool.or_eq_false_iff, decide_eq_false_iff_not] at hpy
            omega
          have hml : R1.left = (m : Int) := by omega
          have HMz : Hid (m ≤ zs.length) := by show m ≤ zs.length; omega
          have HM := hid hm
          rw [hml]
          clear hpy hm hml hpl
          have hi0 : ¬ (i : Int) < 0 := by omega
          obtain ⟨R4, hR4⟩ : ∃ R4 : RK, R4 = R3 := ⟨_, rfl⟩
          have HR4 := hid hR4
          have HI4 : Hid (R4.is s i f0) := ⟨by rw [hR4, HF3.out]; exact HIs0.out.1, HIs0.out.2⟩
          have HIk4 : Hid (RkI W5 (fun k => C k ∨ w.heap.size ≤ k) rb R4) := by rw [hR4]; exact HIk3.out.mono fun k hk _ => .inl hk
          have HBW := HBW5
          have HLe4 : Hid (f0.su.length + f0.lo.length + zs.length ≤ 65536) := hfu
          clear hR4
          have HEND : Hid (∀ (e : Ending) (w' : World), e = .returned (.int .i64 100) → RC { R4.fallen.ak with ks := updK s (s, f0.su ++ (f0.lo ++ zs.take m), (f0.su.length : Int)) (R4.fs.map RF.key) } C rb w w' → ApQ R s zs C rb w e w') := by
            intro e w' he hrc
            have hq0 : ahE R s true = 0 := HQe.out.symm
            have hR1 : ahR R s true = R1 := HRe.out.symm
            have hpy' : pyB (ahR R s true) ((zs.length : Int) + 1) = false := by rw [hR1]; exact HPy.out
            have a1 : apE (ahR R s true) zs.length = 100 := by unfold apE; rw [hpy']; simp
            have a2 : apR (ahR R s true) zs.length = R3.fallen := by unfold apR; rw [hpy', hR1]; simp; rw [HPyR.out]
            have a3 : apN (ahR R s true) zs.length = m := by unfold apN; rw [hpy', hR1]; simp; exact HM.out.symm
            refine .inr (.inr (.inr (.inr ⟨hq0, i, f0, HIsR.out, HLe4.out, by rw [a1]; exact he, ?_⟩)))
            rw [a2, a3]
            rw [HR4.out, HF3.out, HFs.out, ← List.append_assoc] at hrc
            exact hrc
          obtain ⟨g, hpg, habg, hrg, hil, hnl, _, _⟩ := HIk4.out.getAt HI4.out
          have HPg := hid hpg
          have HAbg := hid habg
          have hil' : (i : Int) < (R4.fs.length : Int) := by omega
          clear hpg habg
          go_wp2_with fail
          go_loopw [12] (fun x wr => ∃ (k : Nat) (fk : RF), k ≤ m ∧ x = .int .i64 (k : Int) ∧ fk.name = s ∧ fk.su = f0.su ∧ fk.lo = f0.lo ++ zs.take k ∧ RkI wr (fun k => C k ∨ w.heap.size ≤ k) rb { R4 with fs := R4.fs.set i fk } ∧ But C w wr) (fun x _ => m - (intOf x).toNat)
          case atStart => exact ⟨0, f0, Nat.zero_le _, rfl, HI4.out.2, rfl, by simp, by rw [set_get_self HI4.out.1]; exact HIk4.out, HBW.out⟩
          case round =>
            obtain ⟨k, fk, hk, rfl, hnm, hsu, hlo, hIk, hbw⟩ := hrel
            have HNm := hid hnm
            have HSu := hid hsu
            have HLo := hid hlo
            have HIk := hid hIk
            have HBw := hid hbw
            clear hnm hsu hlo hIk hbw
            obtain ⟨Rk, hRk⟩ : ∃ Rk : RK, Rk = { R4 with fs := R4.fs.set i fk } := ⟨_, rfl⟩
            rw [← hRk] at HIk
            have HRk := hid hRk
            have hfl : Rk.fs.length = R4.fs.length := by rw [hRk]; exact List.length_set
            have HIs : Hid (Rk.is s i fk) := by
              refine ⟨?_, HNm.out⟩
              rw [hRk]
              show (R4.fs.set i fk)[i]? = some fk
              rw [List.getElem?_set_self hil]
            have hcR : Rk.c = R4.c := by rw [hRk]
            have habk : Rk.ab g := by
              have h := HAbg.out
              unfold RK.ab at h ⊢
              rw [hfl, hRk]
              exact h
            have HAb := hid habk
            have HFl := hid hfl
            clear hRk habk hcR hfl
            by_cases hlt : k < m
            · have hlt' : (k : Int) < (m : Int) := by omega
              obtain ⟨g2, _, hab2, _, hil2, _, hF, hAt⟩ := HIk.out.getAt HIs.out
              obtain rfl : g = g2 := Option.some.inj (HAb.out.symm.trans hab2)
              have HF := hid hF
              have HAt := hid hAt
              have hil2' : (i : Int) < (Rk.fs.length : Int) := by omega
              have HMv : Hid (∀ wx, But fk.blk wr wx → At wx Rk rb g i fk) := fun wx hx => HIk.out.moveAt HIs.out HAb.out HAt.out hx
              have hmz : m ≤ zs.length := HMz.out
              have HLe : Hid (fk.su.length + (fk.lo.length + 1) ≤ 65536) := by
                have h1 := HLe4.out
                have h2 : (zs.take k).length = k := by simp; omega
                show fk.su.length + (fk.lo.length + 1) ≤ 65536
                rw [HSu.out, HLo.out, List.length_append, h2]
                omega
              have hkz : (k : Int) < (zs.length : Int) := by omega
              have HDr : Hid (Byts wr S p zs.length c (fun j => zs.getD j 0)) := HDat.out.kept HBw.out.size fun b hb hl => HBw.out.block b hl (HSC.out b hb)
              obtain ⟨bb, o, hpp, hSb, hbb, hat⟩ := HDr.out.at_ (by omega)
              have hbt := HDr.out.fit k (by omega)
              obtain ⟨zb, hzb⟩ : ∃ zb, zb = zs.getD k 0 := ⟨_, rfl⟩
              have HBt : Hid (0 ≤ zb ∧ zb < 256) := by show 0 ≤ zb ∧ zb < 256; rw [hzb]; exact hbt
              have HZb := hid hzb
              subst hpp
              have HDt : Hid (∀ wx, But fk.blk wr wx → wx.cell? ⟨bb, o + k, none⟩ = some (.int .u8 zb)) := fun wx hx => by
                rw [cell_kept (hx.block bb hbb fun e => by
                  rcases (HIk.out.each fk (List.mem_of_getElem? HIs.out.1)).cs bb e with h | h
                  · exact HSC.out bb hSb h
                  · have := HSl.out bb hSb; omega)]
                rw [hzb]
                exact hat k (by omega)
              have HL2 : Hid ((wr.alloc (.cells #[.int .u8 zb] 5)).drew.ownsRow 0 5 1 (.slice fk.lp fk.lo.length fk.lc) fk.lo.length (fk.lo.map (Value.int .u8))) := HF.out.l.below (((Below.refl _ _).alloc (Nat.le_refl _) _).drew)
              have HNw : Hid (∀ j u', [Value.int .u8 zb][j]? = some u' → (wr.alloc (.cells #[.int .u8 zb] 5)).drew.cell? ((⟨wr.heap.size, 0, none⟩ : Addr).add j) = some u') := fun j u' hu => by
                have hbn : Box (wr.alloc (.cells #[.int .u8 zb] 5)).drew wr.heap.size #[.int .u8 zb] 5 := Box.new wr _ _
                rw [Go.WideShapes.add_plain, hbn.cell]
                rw [show 0 + j = j by omega]
                simpa using hu
              clear hF hAt hat hbt hab2 hzb
              go_upto_region 20 with fail
              refine wp_region_calmE 30 (fun wx => But fk.blk wr wx) [(0, true), (1, true), (2, true), (3, false), (4, true), (5, true), (6, true), (7, true), (8, false), (9, true), (10, true), (11, true), (12, false), (13, true), (14, true), (15, true), (16, false)] (.one 17 true [] (.one 18 true [(19, true), (20, true)] (.one 21 false [] .done))) (by kernel_rfl) (by kernel_rfl) (But.refl _ _).drew ?_
              refine wpPre_e rfl rfl (fun K1 hK1 => ?_)
              apply Exists.intro
              refine And.intro (fun wx hx => ?_) ?_
              · go_simp
                try rfl
              go_simp
              refine hK1 _ ?_
              clear hK1 K1
              refine wpPre_e rfl rfl (fun K1 hK1 => ?_)
              apply Exists.intro
              refine And.intro (fun wx hx => ?_) ?_
              · go_simp
                try rfl
              go_simp
              refine hK1 _ ?_
              clear hK1 K1
              refine wpPre_e rfl rfl (fun K1 hK1 => ?_)
              apply Exists.intro
              refine And.intro (fun wx hx => ?_) ?_
              · go_simp
                try rfl
              go_simp
              refine hK1 _ ?_
              clear hK1 K1
              refine wpPre_e rfl rfl (fun K1 hK1 => ?_)
              apply Exists.intro
              refine And.intro (fun wx hx => ?_) ?_
              · have e0 := (HMv.out wx (hx.resolve_left (by simp))).r0
                go_simp
                try rfl
              go_simp
              refine hK1 _ ?_
              clear hK1 K1
              refine wpPre_e rfl rfl (fun K1 hK1 => ?_)
              apply Exists.intro
              refine And.intro (fun wx hx => ?_) ?_
              · go_simp
                try rfl
              go_simp
              refine hK1 _ ?_
              clear hK1 K1
              refine wpPre_e rfl rfl (fun K1 hK1 => ?_)
              apply Exists.intro
              refine And.intro (fun wx hx => ?_) ?_
              · go_simp
                try rfl
              go_simp
              refine hK1 _ ?_
              clear hK1 K1
              refine wpPre_e rfl rfl (fun K1 hK1 => ?_)
              apply Exists.intro
              refine And.intro (fun wx hx => ?_) ?_
              · go_simp
                try rfl
              go_simp
              refine hK1 _ ?_
              clear hK1 K1
              refine wpPre_e rfl rfl (fun K1 hK1 => ?_)
              apply Exists.intro
              refine And.intro (fun wx hx => ?_) ?_
              · go_simp
                try rfl
              go_simp
              refine hK1 _ ?_
              clear hK1 K1
              refine wpPre_e rfl rfl (fun K1 hK1 => ?_)
              apply Exists.intro
              refine And.intro (fun wx hx => ?_) ?_
              · have e0 := (HMv.out wx (hx.resolve_left (by simp))).r0
                go_simp
                try rfl
              go_simp
              refine hK1 _ ?_
              clear hK1 K1
              refine wpPre_e rfl rfl (fun K1 hK1 => ?_)
              apply Exists.intro
              refine And.intro (fun wx hx => ?_) ?_
              · go_simp
                try rfl
              go_simp
              refine hK1 _ ?_
              clear hK1 K1
              refine wpPre_e rfl rfl (fun K1 hK1 => ?_)
              apply Exists.intro
              refine And.intro (fun wx hx => ?_) ?_
              · go_simp
                try rfl
              go_simp
              refine hK1 _ ?_
              clear hK1 K1
              refine wpPre_e rfl rfl (fun K1 hK1 => ?_)
              apply Exists.intro
              refine And.intro (fun wx hx => ?_) ?_
              · go_simp
                try rfl
              go_simp
              refine hK1 _ ?_
              clear hK1 K1
              refine wpPre_e rfl rfl (fun K1 hK1 => ?_)
              apply Exists.intro
              refine And.intro (fun wx hx => ?_) ?_
              · have e0 := (HMv.out wx (hx.resolve_left (by simp))).a2
                go_simp
                try rfl
              go_simp
              refine hK1 _ ?_
              clear hK1 K1
              refine wpPre_e rfl rfl (fun K1 hK1 => ?_)
              apply Exists.intro
              refine And.intro (fun wx hx => ?_) ?_
              · go_simp
                try rfl
              go_simp
              refine hK1 _ ?_
              clear hK1 K1
              refine wpPre_e rfl rfl (fun K1 hK1 => ?_)
              apply Exists.intro
              refine And.intro (fun wx hx => ?_) ?_
              · go_simp
                try rfl
              go_simp
              refine hK1 _ ?_
              clear hK1 K1
              refine wpPre_e rfl rfl (fun K1 hK1 => ?_)
              apply Exists.intro
              refine And.intro (fun wx hx => ?_) ?_
              · go_simp
                try rfl
              go_simp
              refine hK1 _ ?_
              clear hK1 K1
              refine wpPre_e rfl rfl (fun K1 hK1 => ?_)
              apply Exists.intro
              refine And.intro (fun wx hx => ?_) ?_
              · have e0 := HDt.out wx (hx.resolve_left (by simp))
                go_simp
                try rfl
              go_simp
              refine hK1 _ ?_
              clear hK1 K1
              refine wpPre_nil ?_
              refine wpTr_e rfl (fun K1 hK1 => ?_)
              go_simp
              have HBa : Hid (But fk.blk wr (wr.alloc (.cells #[.int .u8 zb] 5)).drew) := ((But.refl _ _).alloc _).drew
              refine hK1 _ _ (fun _ => HBa.out) ?_
              clear hK1 K1
              refine wpPre_nil ?_
              refine wpTr_e rfl (fun K1 hK1 => ?_)
              refine step_app rfl (.tmp 103) (.tmp 108) 31 5 i0 _ 1 1 HKd.out rfl 0 (.slice fk.lp fk.lo.length fk.lc) fk.lo.length _ rfl HL2.out ⟨wr.heap.size, 0, none⟩ 1 1 [.int .u8 zb] rfl rfl HNw.out (fun u hu => by obtain rfl := List.mem_singleton.1 hu; rfl) (by have := HLe.out; omega) (by have := HLe.out; omega) (Nat.zero_le _) ?_
              intro v3 w3 ho hg hn
              obtain ⟨p3, c3, hv3⟩ := ownsRow_slice ho
              subst hv3
              have HO := hid ho
              have HG := hid hg
              have HN := hid hn
              clear ho hg hn
              have HB3 : Hid (But fk.lb wr w3) := (((But.refl fk.lb wr).alloc _).drew).grown HG.out fun k e _ => e
              have HA3 := hid (HMv.out w3 (HB3.out.mono fun _ _ e => .inr e))
              have e0 := HA3.out.a2
              have e1 := HA3.out.gf (i * 3 + 2)
              have e2 := HA3.out.gl
              go_simp
              refine hK1 _ _ (fun _ => HB3.out.mono fun _ _ e => .inr e) ?_
              clear hK1 K1
              refine wpPre_e rfl rfl (fun K1 hK1 => ?_)
              apply Exists.intro
              refine And.intro (fun wx hx => ?_) ?_
              · go_simp
                try rfl
              go_simp
              refine hK1 _ ?_
              clear hK1 K1
              refine wpPre_e rfl rfl (fun K1 hK1 => ?_)
              apply Exists.intro
              refine And.intro (fun wx hx => ?_) ?_
              · go_simp
                try rfl
              go_simp
              refine hK1 _ ?_
              clear hK1 K1
              refine wpPre_nil ?_
              refine wpTr_e rfl (fun K1 hK1 => ?_)
              go_simp
              refine hK1 _ _ (fun h => by cases h) ?_
              clear hK1 K1
              refine wpPre_nil ?_
              refine wpTr_done ?_
              obtain ⟨f1, hf1⟩ : ∃ f1 : RF, f1 = ⟨fk.name, fk.sp, fk.sc, fk.su, p3, c3, fk.lo ++ [zb]⟩ := ⟨_, rfl⟩
              have HE : Hid (RkI (w3.setCell ⟨g, i * 3 + 2, none⟩ (.slice p3 (fk.lo.length + 1) c3)) (fun k => C k ∨ w.heap.size ≤ k) rb { R4 with fs := R4.fs.set i f1 } ∧ But C w (w3.setCell ⟨g, i * 3 + 2, none⟩ (.slice p3 (fk.lo.length + 1) c3))) := by
                have hln : (fk.lo ++ [zb]).length = fk.lo.length + 1 := by simp
                have h := HIk.out.putX (f' := f1) HIs.out HAb.out (by rw [hf1]) (by rw [hf1]) (by rw [hf1]) (by rw [hf1]) HB3.out ?_ ?_ ?_ ?_
                · rw [hf1] at h
                  simp only [hln] at h
                  have e1 : ({ Rk with fs := Rk.fs.set i ⟨fk.name, fk.sp, fk.sc, fk.su, p3, c3, fk.lo ++ [zb]⟩ } : RK) = { R4 with fs := R4.fs.set i f1 } := by
                    rw [HRk.out, hf1]
                    simp
                  rw [e1] at h
                  refine ⟨h.1.mono fun k hk _ => ?_, HBw.out.cc h.2⟩
                  rcases hk with hk | hk
                  · exact hk
                  · exact .inr (Nat.le_trans HBw.out.size hk)
                · rw [hf1]
                  show OwnBy 0 w3 (.slice p3 (fk.lo ++ [zb]).length c3) (fk.lo ++ [zb])
                  rw [hln]
                  exact OwnBy.app (ys := [zb]) HF.out.l HO.out
                · intro k2 hk2
                  have hk3 : (Value.slice p3 (fk.lo.length + 1) c3).ownBlock = some k2 := by
                    have : (Value.slice f1.lp f1.lo.length f1.lc).ownBlock = some k2 := hk2
                    rw [hf1] at this
                    simp only [hln] at this
                    exact this
                  rcases HN.out with h1 | h1
                  · exact .inl (h1.symm.trans hk3)
                  · have := h1 k2 hk3
                    exact .inr (by have h2 : wr.heap.size ≤ (wr.alloc (.cells #[.int .u8 zb] 5)).drew.heap.size := (((Below.refl wr.heap.size wr).alloc (Nat.le_refl _) _).drew).size
                                   omega)
                · rw [hf1]
                  show fk.su.length + (fk.lo ++ [zb]).length ≤ 65536
                  rw [hln]
                  exact HLe.out
                · rw [hf1]
                  intro z hz
                  have hz' : z ∈ fk.su ++ (fk.lo ++ [zb]) := hz
                  rw [← List.append_assoc] at hz'
                  rcases List.mem_append.1 hz' with h1 | h1
                  · exact HF.out.by_ z h1
                  · rw [List.mem_singleton.1 h1]
                    have := HBt.out
                    omega
              have HF1 : Hid (f1.name = s ∧ f1.su = f0.su ∧ f1.lo = f0.lo ++ zs.take (k + 1)) := by
                refine ⟨by rw [hf1]; exact HNm.out, by rw [hf1]; exact HSu.out, ?_⟩
                rw [hf1]
                show fk.lo ++ [zb] = _
                rw [HLo.out, List.append_assoc, HZb.out]
                congr 1
                rw [List.take_add_one, List.getElem?_eq_getElem (show k < zs.length by omega)]
                simp [List.getD_eq_getElem?_getD, List.getElem?_eq_getElem (show k < zs.length by omega)]
              clear hf1 e0 e1 e2
              go_wp2
              go_roundw
              case rel => exact ⟨k + 1, f1, by omega, by go_num, HF1.out.1, HF1.out.2.1, HF1.out.2.2, HE.out.1, HE.out.2⟩
              case measure => simp [intOf]; omega
            · have hlt' : ¬ (k : Int) < (m : Int) := by omega
              obtain rfl : k = m := by omega
              have HAk : Hid (RC { R4.ak with ks := updK s (s, f0.su ++ (f0.lo ++ zs.take k), (f0.su.length : Int)) (R4.fs.map RF.key) } C rb w wr) := by
                refine ⟨⟨Rk, ?_, HIk.out⟩, HBw.out⟩
                have e1 : Rk.fs.map RF.key = updK s fk.key (R4.fs.map RF.key) := by rw [HRk.out]; exact set_key HIk4.out.nd HI4.out
                have e2 : fk.key = (s, f0.su ++ (f0.lo ++ zs.take k), (f0.su.length : Int)) := by
                  unfold RF.key
                  rw [HNm.out, HSu.out, HLo.out]
                unfold RK.ak
                rw [e1, e2, HRk.out]
              have HFl2 : Hid (∀ wx, RkI wx (fun k => C k ∨ w.heap.size ≤ k) rb Rk → Calls Tryz.prog 31 #[.pointer (some ⟨rb, 0, none⟩)] wx fun e w' => e = .returned (.tuple #[]) ∧ RigR Rk.fallen (fun k => C k ∨ w.heap.size ≤ k) rb wx w') := fun wx hx => rfall_any Rk wx _ rb hx
              go_wp2_with fail
              refine (HFl2.out wr HIk.out).mono ?_
              rintro e w7 ⟨rfl, hF7⟩
              have HF7 : Hid (RC { R4.fallen.ak with ks := updK s (s, f0.su ++ (f0.lo ++ zs.take k), (f0.su.length : Int)) (R4.fs.map RF.key) } C rb w w7) := by
                obtain ⟨⟨R9, h1, _⟩, _⟩ := HAk.out
                refine ⟨⟨Rk.fallen, ?_, hF7.1⟩, HBw.out.cc (hF7.2.mono fun k _ e => by have e' : k = rb := e; subst e'; exact HIk.out.cb)⟩
                have e1 : Rk.fs.map RF.key = updK s fk.key (R4.fs.map RF.key) := by rw [HRk.out]; exact set_key HIk4.out.nd HI4.out
                have e2 : fk.key = (s, f0.su ++ (f0.lo ++ zs.take k), (f0.su.length : Int)) := by
                  unfold RF.key
                  rw [HNm.out, HSu.out, HLo.out]
                unfold RK.ak RK.fallen
                simp only [e1, e2]
                rw [HRk.out]
              clear hF7
              go_wp2
              refine bodyPost_ret (v := .int .i64 100) (by simp [results, Tryz.results13, go_sem]) rfl ?_
              exact HEND.out _ _ (by first | rfl | simp) HF7.out
      · have hfu' : (65536 : Int) < (f0.su.length : Int) + (f0.lo.length : Int) + (zs.length : Int) := by omega
        go_upto_region 7 with fail
        refine wp_region_calmE 30 (fun wx => Below w2.heap.size w2 wx) [(0, true), (1, true), (2, true), (3, true), (4, true), (5, true), (6, false), (7, true), (8, true), (9, true), (10, false), (11, true), (12, true), (13, true), (14, true), (15, false), (16, true), (17, true), (18, true), (19, false), (20, true), (21, true), (22, true), (23, true), (24, true), (25, true), (26, true)] .done (by kernel_rfl) (by kernel_rfl) (Below.refl _ _).drew ?_
        refine wpPre_e rfl rfl (fun K1 hK1 => ?_)
        apply Exists.intro
        refine And.intro (fun wx hx => ?_) ?_
        · go_simp
          try rfl
        go_simp
        refine hK1 _ ?_
        clear hK1 K1
        refine wpPre_e rfl rfl (fun K1 hK1 => ?_)
        apply Exists.intro
        refine And.intro (fun wx hx => ?_) ?_
        · go_simp
          try rfl
        go_simp
        refine hK1 _ ?_
        clear hK1 K1
        refine wpPre_e rfl rfl (fun K1 hK1 => ?_)
        apply Exists.intro
        refine And.intro (fun wx hx => ?_) ?_
        · go_simp
          try rfl
        go_simp
        refine hK1 _ ?_
        clear hK1 K1
        refine wpPre_i rfl (fun K1 hK1 => ?_)
        rw [if_pos (by go_simp)]
        apply Exists.intro
        refine And.intro (fun wx hx => ?_) ?_
        · go_simp
          try rfl
        go_simp
        refine hK1 _ ?_
        clear hK1 K1
        refine wpPre_i rfl (fun K1 hK1 => ?_)
        rw [if_pos (by go_simp)]
        apply Exists.intro
        refine And.intro (fun wx hx => ?_) ?_
        · go_simp
          try rfl
        go_simp
        refine hK1 _ ?_
        clear hK1 K1
        refine wpPre_i rfl (fun K1 hK1 => ?_)
        rw [if_pos (by go_simp)]
        apply Exists.intro
        refine And.intro (fun wx hx => ?_) ?_
        · go_simp
          try rfl
        go_simp
        refine hK1 _ ?_
        clear hK1 K1
        refine wpPre_i rfl (fun K1 hK1 => ?_)
        rw [if_pos (by go_simp)]
        apply Exists.intro
        refine And.intro (fun wx hx => ?_) ?_
        · have e0 := below_fact hx rfl r0
          go_simp
          try rfl
        go_simp
        refine hK1 _ ?_
        clear hK1 K1
        refine wpPre_i rfl (fun K1 hK1 => ?_)
        rw [if_pos (by go_simp)]
        apply Exists.intro
        refine And.intro (fun wx hx => ?_) ?_
        · go_simp
          try rfl
        go_simp
        refine hK1 _ ?_
        clear hK1 K1
        refine wpPre_i rfl (fun K1 hK1 => ?_)
        rw [if_pos (by go_simp)]
        apply Exists.intro
        refine And.intro (fun wx hx => ?_) ?_
        · go_simp
          try rfl
        go_simp
        refine hK1 _ ?_
        clear hK1 K1
        refine wpPre_i rfl (fun K1 hK1 => ?_)
        rw [if_pos (by go_simp)]
        apply Exists.intro
        refine And.intro (fun wx hx => ?_) ?_
        · go_simp
          try rfl
        go_simp
        refine hK1 _ ?_
        clear hK1 K1
        refine wpPre_i rfl (fun K1 hK1 => ?_)
        rw [if_pos (by go_simp)]
        apply Exists.intro
        refine And.intro (fun wx hx => ?_) ?_
        · have e0 := below_fact hx rfl a1
          go_simp
          try rfl
        go_simp
        refine hK1 _ ?_
        clear hK1 K1
        refine wpPre_i rfl (fun K1 hK1 => ?_)
        rw [if_pos (by go_simp)]
        apply Exists.intro
        refine And.intro (fun wx hx => ?_) ?_
        · go_simp
          try rfl
        go_simp
        refine hK1 _ ?_
        clear hK1 K1
        refine wpPre_i rfl (fun K1 hK1 => ?_)
        rw [if_pos (by go_simp)]
        apply Exists.intro
        refine And.intro (fun wx hx => ?_) ?_
        · go_simp
          try rfl
        go_simp
        refine hK1 _ ?_
        clear hK1 K1
        refine wpPre_i rfl (fun K1 hK1 => ?_)
        rw [if_pos (by go_simp)]
        apply Exists.intro
        refine And.intro (fun wx hx => ?_) ?_
        · go_simp
          try rfl
        go_simp
        refine hK1 _ ?_
        clear hK1 K1
        refine wpPre_i rfl (fun K1 hK1 => ?_)
        rw [if_pos (by go_simp)]
        apply Exists.intro
        refine And.intro (fun wx hx => ?_) ?_
        · go_simp
          try rfl
        go_simp
        refine hK1 _ ?_
        clear hK1 K1
        refine wpPre_i rfl (fun K1 hK1 => ?_)
        rw [if_pos (by go_simp)]
        apply Exists.intro
        refine And.intro (fun wx hx => ?_) ?_
        · have e0 := below_fact hx rfl r0
          go_simp
          try rfl
        go_simp
        refine hK1 _ ?_
        clear hK1 K1
        refine wpPre_i rfl (fun K1 hK1 => ?_)
        rw [if_pos (by go_simp)]
        apply Exists.intro
        refine And.intro (fun wx hx => ?_) ?_
        · go_simp
          try rfl
        go_simp
        refine hK1 _ ?_
        clear hK1 K1
        refine wpPre_i rfl (fun K1 hK1 => ?_)
        rw [if_pos (by go_simp)]
        apply Exists.intro
        refine And.intro (fun wx hx => ?_) ?_
        · go_simp
          try rfl
        go_simp
        refine hK1 _ ?_
        clear hK1 K1
        refine wpPre_i rfl (fun K1 hK1 => ?_)
        rw [if_pos (by go_simp)]
        apply Exists.intro
        refine And.intro (fun wx hx => ?_) ?_
        · go_simp
          try rfl
        go_simp
        refine hK1 _ ?_
        clear hK1 K1
        refine wpPre_i rfl (fun K1 hK1 => ?_)
        rw [if_pos (by go_simp)]
        apply Exists.intro
        refine And.intro (fun wx hx => ?_) ?_
        · have e0 := below_fact hx rfl a2
          go_simp
          try rfl
        go_simp
        refine hK1 _ ?_
        clear hK1 K1
        refine wpPre_i rfl (fun K1 hK1 => ?_)
        rw [if_pos (by go_simp)]
        apply Exists.intro
        refine And.intro (fun wx hx => ?_) ?_
        · go_simp
          try rfl
        go_simp
        refine hK1 _ ?_
        clear hK1 K1
        refine wpPre_i rfl (fun K1 hK1 => ?_)
        rw [if_pos (by go_simp)]
        apply Exists.intro
        refine And.intro (fun wx hx => ?_) ?_
        · go_simp
          try rfl
        go_simp
        refine hK1 _ ?_
        clear hK1 K1
        refine wpPre_i rfl (fun K1 hK1 => ?_)
        rw [if_pos (by go_simp)]
        apply Exists.intro
        refine And.intro (fun wx hx => ?_) ?_
        · go_simp
          try rfl
        go_simp
        refine hK1 _ ?_
        clear hK1 K1
        refine wpPre_i rfl (fun K1 hK1 => ?_)
        rw [if_pos (by go_simp)]
        apply Exists.intro
        refine And.intro (fun wx hx => ?_) ?_
        · go_simp
          try rfl
        go_simp
        refine hK1 _ ?_
        clear hK1 K1
        refine wpPre_i rfl (fun K1 hK1 => ?_)
        rw [if_pos (by go_simp)]
        apply Exists.intro
        refine And.intro (fun wx hx => ?_) ?_
        · go_simp
          try rfl
        go_simp
        refine hK1 _ ?_
        clear hK1 K1
        refine wpPre_i rfl (fun K1 hK1 => ?_)
        rw [if_pos (by go_simp)]
        apply Exists.intro
        refine And.intro (fun wx hx => ?_) ?_
        · go_simp
          try rfl
        go_simp
        refine hK1 _ ?_
        clear hK1 K1
        refine wpPre_e rfl rfl (fun K1 hK1 => ?_)
        apply Exists.intro
        refine And.intro (fun wx hx => ?_) ?_
        · go_simp
          try rfl
        go_simp
        refine hK1 _ ?_
        clear hK1 K1
        refine wpPre_nil ?_
        refine wpTr_done ?_
        rw [HWr.out.1, HWr.out.2, show decide ((65536 : Int) < (f0.su.length : Int) + (f0.lo.length : Int) + (zs.length : Int)) = true from decide_eq_true (by omega)]
        have HRCd : Hid (RC (ahR R s true).ak C rb w w2.drew) := HRC.out.below (Below.refl _ _).drew
        go_wp2
        exact bodyPost_ret (v := .int .i64 104) (by simp [results, Tryz.results13, go_sem]) rfl (.inr (.inr (.inl ⟨HQe.out.symm, ⟨i, f0, HIsR.out, by omega⟩, rfl, HRCd.out⟩)))
end Go.Proofs.YtebiidfdokhpaabGreatDoor
