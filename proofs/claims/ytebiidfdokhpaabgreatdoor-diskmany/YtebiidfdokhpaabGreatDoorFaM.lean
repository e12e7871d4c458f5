import Derived.Test.YtebiidfdokhpaabGreatDoorEfK
import Derived.Test.YtebiidfdokhpaabGreatDoorFaL
namespace Go.Proofs.YtebiidfdokhpaabGreatDoor
open Go.RowKit
set_option maxRecDepth 8000
theorem RkI.bytes {w w2 : World} {C : Nat → Prop} {rb : Nat} {R : RK} {s : ByteArray} {i : Nat} {f f' : RF} (h : RkI w C rb R) (hi : R.is s i f) (hn : f'.name = f.name) (hc : f'.cells = f.cells) (hb2 : But f.blk w w2)
    (hs : OwnBy 0 w2 (.slice f'.sp f'.su.length f'.sc) f'.su) (hl : OwnBy 0 w2 (.slice f'.lp f'.lo.length f'.lc) f'.lo) (hnew : ∀ k, f'.blk k → f.blk k ∨ w.heap.size ≤ k)
    (hle : f'.su.length + f'.lo.length ≤ 65536) (hby : ∀ z ∈ f'.su ++ f'.lo, 0 ≤ z ∧ z ≤ 255) :
    RC { R.ak with ks := updK s f'.key (R.fs.map RF.key) } C rb w w2 := by
  have hF := h.each f (List.mem_of_getElem? hi.1)
  simp only [RF.cells, List.cons.injEq, and_true] at hc
  refine h.put hi hn hb2 (But.refl _ _) hs hl hnew ?_ hle hby ?_
  · intro k h1 h2
    unfold RF.sb at h1
    unfold RF.lb at h2
    rw [hc.2.1] at h1
    rw [hc.2.2] at h2
    exact hF.ne k h1 h2
  · rw [flatR_set R.fs i f f' hi.1 hn, hc.2.1, hc.2.2]
    have e1 : (R.fs.flatMap RF.cells).set (i * 3 + 1) (.slice f.sp f.su.length f.sc) = R.fs.flatMap RF.cells := set_get_self (by rw [flatR_get R.fs i 1 f hi.1 (by omega)]; rfl)
    have e2 : (R.fs.flatMap RF.cells).set (i * 3 + 2) (.slice f.lp f.lo.length f.lc) = R.fs.flatMap RF.cells := set_get_self (by rw [flatR_get R.fs i 2 f hi.1 (by omega)]; rfl)
    rw [e1, e2]
    exact h.row2 hi hb2
def SpR (R : RK) (s : ByteArray) (bit : Int) (C : Nat → Prop) (rb : Nat) (w : World) (e : Ending) (w' : World) : Prop :=
  (R.no s ∧ e = .returned (.bool false) ∧ RC R.ak C rb w w') ∨ ∃ i f, R.is s i f ∧ ((¬ (0 ≤ bit ∧ bit / 8 < ((f.su ++ f.lo).length : Int)) ∧ e = .returned (.bool false) ∧ RC R.ak C rb w w') ∨
    (0 ≤ bit ∧ bit / 8 < ((f.su ++ f.lo).length : Int) ∧ e = .returned (.bool true) ∧ RC { R.ak with ks := updK s (s, (f.su ++ f.lo).set (bit / 8).toNat (spx ((f.su ++ f.lo).getD (bit / 8).toNat 0) (bit % 8).toNat), (f.su.length : Int)) (R.fs.map RF.key) } C rb w w'))
set_option maxHeartbeats 8000000 in
theorem rspoil_any (R : RK) (s : ByteArray) (bit : Int) (w2 : World) (C : Nat → Prop) (rb : Nat) (hR : RkI w2 C rb R) (hb1 : bit ≤ 9223372036854775807) (hb0 : -9223372036854775808 ≤ bit) :
    Calls Tryz.prog 56 #[.pointer (some ⟨rb, 0, none⟩), .string s, .int .i64 bit] w2 fun e w' => SpR R s bit C rb w2 e w' := by
  have HIk := hid hR
  have HFd := hid (rfindK_any R s w2 C rb hR)
  have HRC : Hid (RC R.ak C rb w2 w2) := ⟨⟨R, rfl, hR.mono fun _ hk _ => .inl hk⟩, But.refl _ _⟩
  clear hR
  go_enter Tryz.func56, Tryz.ntmps56
  go_wp2_with fail
  refine HFd.out.mono ?_
  rintro e w3 ⟨hw3, hf⟩
  obtain rfl := hw3.symm
  rcases hf with ⟨hno, rfl⟩ | ⟨i, f, hi, rfl⟩
  · have HNo := hid hno
    clear hno HFd
    go_wp2
    exact bodyPost_ret (v := .bool false) (by simp [results, Tryz.results56, go_sem]) rfl (.inl ⟨HNo.out, rfl, HRC.out⟩)
  · have HIs := hid hi
    obtain ⟨g, hp, hab, hrg, hil, hnl, hF, hAt⟩ := HIk.out.getAt hi
    have HF := hid hF
    have HAt := hid hAt
    have hi0 : ¬ (i : Int) < 0 := by omega
    have hil' : (i : Int) < (R.fs.length : Int) := by omega
    have hle := HF.out.le
    obtain ⟨r0, rl, a0, a1, a2, gf, gl⟩ := HAt.out
    clear hi HFd hp hab hF hAt gf a0
    by_cases h0 : bit < 0
    · go_wp2
      exact bodyPost_ret (v := .bool false) (by simp [results, Tryz.results56, go_sem]) rfl (.inr ⟨i, f, HIs.out, .inl ⟨by omega, rfl, HRC.out⟩⟩)
    · obtain ⟨at_, hi_⟩ : ∃ i : Nat, bit / 8 = (i : Int) := ⟨(bit / 8).toNat, by omega⟩
      obtain ⟨rr, hrr⟩ : ∃ rr : Nat, bit % 8 = (rr : Int) := ⟨(bit % 8).toNat, by omega⟩
      have hq : bit.tdiv 8 = (at_ : Int) := (Int.tdiv_eq_ediv_of_nonneg (by omega)).trans hi_
      have hqr : bit.tmod 8 = (rr : Int) := (Int.tmod_eq_emod_of_nonneg (by omega)).trans hrr
      have hwi : IntKind.i64.wrap (at_ : Int) = (at_ : Int) := by rw [IntKind.wrap_i64]; omega
      have hwr : IntKind.i64.wrap (rr : Int) = (rr : Int) := by rw [IntKind.wrap_i64]; omega
      have hat8 : (at_ : Int) ≤ 9223372036854775807 := by omega
      have hrb : (rr : Int) < 8 := by omega
      have HHi := hid (And.intro hi_ hrr)
      by_cases hA : at_ < f.su.length
      · have hA' : (at_ : Int) < (f.su.length : Int) := by omega
        clear hi_ hrr
        have hr8 : rr < 8 := by omega
        obtain ⟨gs, o, hpz, _, hgl, hat⟩ := (own_byts HF.out.s (S := fun _ => True) (fun _ _ => trivial) (fun y hy => HF.out.by_ y (List.mem_append_left _ hy)) (by omega)).at_ (by omega)
        have zc := hat at_ (by omega)
        obtain ⟨z, hz⟩ : ∃ z, z = f.su.getD at_ 0 := ⟨_, rfl⟩
        rw [← hz] at zc
        obtain ⟨ho, hog, hfz, hput⟩ := own_put HF.out.s hpz
        subst ho
        rw [Nat.zero_add] at zc
        rw [hpz] at a1
        have zfz := hfz at_
        have HOg := hid hog
        have HPt := hid (hput at_ (spx z rr))
        have HZ := hid hz
        clear hat hpz hog hfz hput hz hgl
        go_upto_region 8 with fail
        refine wp_region_calmE 30 (fun wx => Below w2.heap.size w2 wx) [(0, true), (1, true), (2, true), (3, false), (4, true), (5, true), (6, true), (7, false), (8, true), (9, true), (10, true), (11, true), (12, false), (13, true), (14, true), (15, true), (16, false), (17, true), (18, true), (19, false), (20, true), (21, true), (22, true)] (.one 23 false [] .done) (by kernel_rfl) (by kernel_rfl) (Below.refl _ _).drew ?_
        refine wpPre_e rfl rfl (fun K1 hK1 => ?_)
        apply Exists.intro
        refine And.intro (fun wx hx => ?_) ?_
        · go_simp
          try rfl
        go_simp
        refine hK1 _ ?_
        clear hK1 K1
        refine wpPre_e rfl rfl (fun K1 hK1 => ?_)
        apply Exists.intro
        refine And.intro (fun wx hx => ?_) ?_
        · go_simp
          try rfl
        go_simp
        refine hK1 _ ?_
        clear hK1 K1
        refine wpPre_e rfl rfl (fun K1 hK1 => ?_)
        apply Exists.intro
        refine And.intro (fun wx hx => ?_) ?_
        · go_simp
          try rfl
        go_simp
        refine hK1 _ ?_
        clear hK1 K1
        refine wpPre_e rfl rfl (fun K1 hK1 => ?_)
        apply Exists.intro
        refine And.intro (fun wx hx => ?_) ?_
        · have e0 := below_fact hx rfl r0
          go_simp
          try rfl
        go_simp
        refine hK1 _ ?_
        clear hK1 K1
        refine wpPre_e rfl rfl (fun K1 hK1 => ?_)
        apply Exists.intro
        refine And.intro (fun wx hx => ?_) ?_
        · go_simp
          try rfl
        go_simp
        refine hK1 _ ?_
        clear hK1 K1
        refine wpPre_e rfl rfl (fun K1 hK1 => ?_)
        apply Exists.intro
        refine And.intro (fun wx hx => ?_) ?_
        · go_simp
          try rfl
        go_simp
        refine hK1 _ ?_
        clear hK1 K1
        refine wpPre_e rfl rfl (fun K1 hK1 => ?_)
        apply Exists.intro
        refine And.intro (fun wx hx => ?_) ?_
        · go_simp
          try rfl
        go_simp
        refine hK1 _ ?_
        clear hK1 K1
        refine wpPre_e rfl rfl (fun K1 hK1 => ?_)
        apply Exists.intro
        refine And.intro (fun wx hx => ?_) ?_
        · have e0 := below_fact hx rfl a1
          go_simp
          try rfl
        go_simp
        refine hK1 _ ?_
        clear hK1 K1
        refine wpPre_e rfl rfl (fun K1 hK1 => ?_)
        apply Exists.intro
        refine And.intro (fun wx hx => ?_) ?_
        · go_simp
          try rfl
        go_simp
        refine hK1 _ ?_
        clear hK1 K1
        refine wpPre_e rfl rfl (fun K1 hK1 => ?_)
        apply Exists.intro
        refine And.intro (fun wx hx => ?_) ?_
        · go_simp
          try rfl
        go_simp
        refine hK1 _ ?_
        clear hK1 K1
        refine wpPre_e rfl rfl (fun K1 hK1 => ?_)
        apply Exists.intro
        refine And.intro (fun wx hx => ?_) ?_
        · go_simp
          try rfl
        go_simp
        refine hK1 _ ?_
        clear hK1 K1
        refine wpPre_e rfl rfl (fun K1 hK1 => ?_)
        apply Exists.intro
        refine And.intro (fun wx hx => ?_) ?_
        · go_simp
          try rfl
        go_simp
        refine hK1 _ ?_
        clear hK1 K1
        refine wpPre_e rfl rfl (fun K1 hK1 => ?_)
        apply Exists.intro
        refine And.intro (fun wx hx => ?_) ?_
        · have e0 := below_fact hx rfl r0
          go_simp
          try rfl
        go_simp
        refine hK1 _ ?_
        clear hK1 K1
        refine wpPre_e rfl rfl (fun K1 hK1 => ?_)
        apply Exists.intro
        refine And.intro (fun wx hx => ?_) ?_
        · go_simp
          try rfl
        go_simp
        refine hK1 _ ?_
        clear hK1 K1
        refine wpPre_e rfl rfl (fun K1 hK1 => ?_)
        apply Exists.intro
        refine And.intro (fun wx hx => ?_) ?_
        · go_simp
          try rfl
        go_simp
        refine hK1 _ ?_
        clear hK1 K1
        refine wpPre_e rfl rfl (fun K1 hK1 => ?_)
        apply Exists.intro
        refine And.intro (fun wx hx => ?_) ?_
        · go_simp
          try rfl
        go_simp
        refine hK1 _ ?_
        clear hK1 K1
        refine wpPre_e rfl rfl (fun K1 hK1 => ?_)
        apply Exists.intro
        refine And.intro (fun wx hx => ?_) ?_
        · have e0 := below_fact hx rfl a1
          go_simp
          try rfl
        go_simp
        refine hK1 _ ?_
        clear hK1 K1
        refine wpPre_e rfl rfl (fun K1 hK1 => ?_)
        apply Exists.intro
        refine And.intro (fun wx hx => ?_) ?_
        · go_simp
          try rfl
        go_simp
        refine hK1 _ ?_
        clear hK1 K1
        refine wpPre_e rfl rfl (fun K1 hK1 => ?_)
        apply Exists.intro
        refine And.intro (fun wx hx => ?_) ?_
        · go_simp
          try rfl
        go_simp
        refine hK1 _ ?_
        clear hK1 K1
        refine wpPre_e rfl rfl (fun K1 hK1 => ?_)
        apply Exists.intro
        refine And.intro (fun wx hx => ?_) ?_
        · have e0 := below_fact hx rfl zc
          go_simp
          try rfl
        go_simp
        refine hK1 _ ?_
        clear hK1 K1
        refine wpPre_e rfl rfl (fun K1 hK1 => ?_)
        apply Exists.intro
        refine And.intro (fun wx hx => ?_) ?_
        · go_simp
          try rfl
        go_simp
        refine hK1 _ ?_
        clear hK1 K1
        refine wpPre_e rfl rfl (fun K1 hK1 => ?_)
        apply Exists.intro
        refine And.intro (fun wx hx => ?_) ?_
        · go_simp
          try rfl
        go_simp
        refine hK1 _ ?_
        clear hK1 K1
        refine wpPre_e rfl rfl (fun K1 hK1 => ?_)
        apply Exists.intro
        refine And.intro (fun wx hx => ?_) ?_
        · go_simp
          try rfl
        go_simp
        refine hK1 _ ?_
        clear hK1 K1
        refine wpPre_nil ?_
        refine wpTr_e rfl (fun K1 hK1 => ?_)
        have s2 : w2.drew.frozen? ⟨gs, at_, none⟩ = false := zfz
        go_simp
        refine hK1 _ _ (fun h => by cases h) ?_
        clear s2
        clear hK1 K1
        refine wpPre_nil ?_
        refine wpTr_done ?_
        go_wp2
        have hbt : But f.blk w2 (w2.setCell ⟨gs, at_, none⟩ (.int .u8 (spx z rr))).drew := ((But.refl _ _).setCell (p := ⟨gs, at_, none⟩) (fun _ => .inl HOg.out) _).drew
        have hlen : (f.su.set at_ (spx z rr)).length = f.su.length := List.length_set
        refine bodyPost_ret (v := .bool true) (by simp [results, Tryz.results56, go_sem]) rfl (.inr ⟨i, f, HIs.out, .inr ⟨by omega, by rw [List.length_append]; have := HHi.out.1; omega, rfl, ?_⟩⟩)
        have hk : ({ f with su := f.su.set at_ (spx z rr) } : RF).key = (s, (f.su ++ f.lo).set (bit / 8).toNat (spx ((f.su ++ f.lo).getD (bit / 8).toNat 0) (bit % 8).toNat), (f.su.length : Int)) := by
          have e1 : (bit / 8).toNat = at_ := by have := HHi.out.1; omega
          have e2 : (bit % 8).toNat = rr := by have := HHi.out.2; omega
          rw [e1, e2]
          show (f.name, f.su.set at_ (spx z rr) ++ f.lo, ((f.su.set at_ (spx z rr)).length : Int)) = _
          rw [HIs.out.2, List.set_append_left _ _ (by omega), List.length_set, HZ.out]
          simp only [List.getD_eq_getElem?_getD]
          rw [List.getElem?_append_left (by omega)]
        have hE := HIk.out.bytes (f' := { f with su := f.su.set at_ (spx z rr) }) HIs.out rfl (by unfold RF.cells; simp only [List.length_set]) hbt ?_ ?_ ?_ ?_ ?_
        · rw [hk] at hE
          exact hE
        · exact HPt.out
        · exact ownsRow_keep HF.out.l fun k hk hl => by have hne : k ≠ gs := (fun e => HF.out.ne gs HOg.out (by rw [← e]; exact hk)); exact (Below.heap_setCell _ _ _ _ hne)
        · intro k hk
          rcases hk with hk | hk
          · exact .inl (.inl (by have h : (Value.slice f.sp (f.su.set at_ (spx z rr)).length f.sc).ownBlock = some k := hk; rw [hlen] at h; exact h))
          · exact .inl (.inr (by exact hk))
        · show (f.su.set at_ (spx z rr)).length + f.lo.length ≤ 65536
          omega
        · intro y hy
          have hy2 : y ∈ f.su.set at_ (spx z rr) ++ f.lo := hy
          rcases List.mem_append.1 hy2 with h | h
          · rcases List.mem_or_eq_of_mem_set h with h | h
            · exact HF.out.by_ y (List.mem_append_left _ h)
            · rw [h]; exact spx_bd z rr
          · exact HF.out.by_ y (List.mem_append_right _ h)
      · have hA' : ¬ (at_ : Int) < (f.su.length : Int) := by omega
        obtain ⟨i2, hi2⟩ : ∃ i2 : Nat, i2 = at_ - f.su.length := ⟨_, rfl⟩
        have hsub : (at_ : Int) - (f.su.length : Int) = (i2 : Int) := by omega
        have hws : IntKind.i64.wrap ((at_ : Int) - (f.su.length : Int)) = (i2 : Int) := by rw [IntKind.wrap_i64]; omega
        have hwi2 : IntKind.i64.wrap (i2 : Int) = (i2 : Int) := by rw [IntKind.wrap_i64]; omega
        have HI2 := hid hi2
        clear hi2
        by_cases hB : i2 < f.lo.length
        · have hB' : (i2 : Int) < (f.lo.length : Int) := by omega
          clear hi_ hrr
          have hr8 : rr < 8 := by omega
          obtain ⟨gs, o, hpz, _, hgl, hat⟩ := (own_byts HF.out.l (S := fun _ => True) (fun _ _ => trivial) (fun y hy => HF.out.by_ y (List.mem_append_right _ hy)) (by omega)).at_ (by omega)
          have zc := hat i2 (by omega)
          obtain ⟨z, hz⟩ : ∃ z, z = f.lo.getD i2 0 := ⟨_, rfl⟩
          rw [← hz] at zc
          obtain ⟨ho, hog, hfz, hput⟩ := own_put HF.out.l hpz
          subst ho
          rw [Nat.zero_add] at zc
          rw [hpz] at a2
          have zfz := hfz i2
          have HOg := hid hog
          have HPt := hid (hput i2 (spx z rr))
          have HZ := hid hz
          clear hat hpz hog hfz hput hz hgl
          go_upto_region 11 with fail
          refine wp_region_calmE 30 (fun wx => Below w2.heap.size w2 wx) [(0, true), (1, true), (2, true), (3, false), (4, true), (5, true), (6, true), (7, false), (8, true), (9, true), (10, true), (11, true), (12, true), (13, true), (14, false), (15, true), (16, true), (17, true), (18, false), (19, true), (20, true), (21, true), (22, true), (23, false), (24, true), (25, true), (26, true)] (.one 27 false [] .done) (by kernel_rfl) (by kernel_rfl) (Below.refl _ _).drew ?_
          refine wpPre_e rfl rfl (fun K1 hK1 => ?_)
          apply Exists.intro
          refine And.intro (fun wx hx => ?_) ?_
          · go_simp
            try rfl
          go_simp
          refine hK1 _ ?_
          clear hK1 K1
          refine wpPre_e rfl rfl (fun K1 hK1 => ?_)
          apply Exists.intro
          refine And.intro (fun wx hx => ?_) ?_
          · go_simp
            try rfl
          go_simp
          refine hK1 _ ?_
          clear hK1 K1
          refine wpPre_e rfl rfl (fun K1 hK1 => ?_)
          apply Exists.intro
          refine And.intro (fun wx hx => ?_) ?_
          · go_simp
            try rfl
          go_simp
          refine hK1 _ ?_
          clear hK1 K1
          refine wpPre_e rfl rfl (fun K1 hK1 => ?_)
          apply Exists.intro
          refine And.intro (fun wx hx => ?_) ?_
          · have e0 := below_fact hx rfl r0
            go_simp
            try rfl
          go_simp
          refine hK1 _ ?_
          clear hK1 K1
          refine wpPre_e rfl rfl (fun K1 hK1 => ?_)
          apply Exists.intro
          refine And.intro (fun wx hx => ?_) ?_
          · go_simp
            try rfl
          go_simp
          refine hK1 _ ?_
          clear hK1 K1
          refine wpPre_e rfl rfl (fun K1 hK1 => ?_)
          apply Exists.intro
          refine And.intro (fun wx hx => ?_) ?_
          · go_simp
            try rfl
          go_simp
          refine hK1 _ ?_
          clear hK1 K1
          refine wpPre_e rfl rfl (fun K1 hK1 => ?_)
          apply Exists.intro
          refine And.intro (fun wx hx => ?_) ?_
          · go_simp
            try rfl
          go_simp
          refine hK1 _ ?_
          clear hK1 K1
          refine wpPre_e rfl rfl (fun K1 hK1 => ?_)
          apply Exists.intro
          refine And.intro (fun wx hx => ?_) ?_
          · have e0 := below_fact hx rfl a2
            go_simp
            try rfl
          go_simp
          refine hK1 _ ?_
          clear hK1 K1
          refine wpPre_e rfl rfl (fun K1 hK1 => ?_)
          apply Exists.intro
          refine And.intro (fun wx hx => ?_) ?_
          · go_simp
            try rfl
          go_simp
          refine hK1 _ ?_
          clear hK1 K1
          refine wpPre_e rfl rfl (fun K1 hK1 => ?_)
          apply Exists.intro
          refine And.intro (fun wx hx => ?_) ?_
          · go_simp
            try rfl
          go_simp
          refine hK1 _ ?_
          clear hK1 K1
          refine wpPre_e rfl rfl (fun K1 hK1 => ?_)
          apply Exists.intro
          refine And.intro (fun wx hx => ?_) ?_
          · go_simp
            try rfl
          go_simp
          refine hK1 _ ?_
          clear hK1 K1
          refine wpPre_e rfl rfl (fun K1 hK1 => ?_)
          apply Exists.intro
          refine And.intro (fun wx hx => ?_) ?_
          · go_simp
            try rfl
          go_simp
          refine hK1 _ ?_
          clear hK1 K1
          refine wpPre_e rfl rfl (fun K1 hK1 => ?_)
          apply Exists.intro
          refine And.intro (fun wx hx => ?_) ?_
          · go_simp
            try rfl
          go_simp
          refine hK1 _ ?_
          clear hK1 K1
          refine wpPre_e rfl rfl (fun K1 hK1 => ?_)
          apply Exists.intro
          refine And.intro (fun wx hx => ?_) ?_
          · go_simp
            try rfl
          go_simp
          refine hK1 _ ?_
          clear hK1 K1
          refine wpPre_e rfl rfl (fun K1 hK1 => ?_)
          apply Exists.intro
          refine And.intro (fun wx hx => ?_) ?_
          · have e0 := below_fact hx rfl r0
            go_simp
            try rfl
          go_simp
          refine hK1 _ ?_
          clear hK1 K1
          refine wpPre_e rfl rfl (fun K1 hK1 => ?_)
          apply Exists.intro
          refine And.intro (fun wx hx => ?_) ?_
          · go_simp
            try rfl
          go_simp
          refine hK1 _ ?_
          clear hK1 K1
          refine wpPre_e rfl rfl (fun K1 hK1 => ?_)
          apply Exists.intro
          refine And.intro (fun wx hx => ?_) ?_
          · go_simp
            try rfl
          go_simp
          refine hK1 _ ?_
          clear hK1 K1
          refine wpPre_e rfl rfl (fun K1 hK1 => ?_)
          apply Exists.intro
          refine And.intro (fun wx hx => ?_) ?_
          · go_simp
            try rfl
          go_simp
          refine hK1 _ ?_
          clear hK1 K1
          refine wpPre_e rfl rfl (fun K1 hK1 => ?_)
          apply Exists.intro
          refine And.intro (fun wx hx => ?_) ?_
          · have e0 := below_fact hx rfl a2
            go_simp
            try rfl
          go_simp
          refine hK1 _ ?_
          clear hK1 K1
          refine wpPre_e rfl rfl (fun K1 hK1 => ?_)
          apply Exists.intro
          refine And.intro (fun wx hx => ?_) ?_
          · go_simp
            try rfl
          go_simp
          refine hK1 _ ?_
          clear hK1 K1
          refine wpPre_e rfl rfl (fun K1 hK1 => ?_)
          apply Exists.intro
          refine And.intro (fun wx hx => ?_) ?_
          · go_simp
            try rfl
          go_simp
          refine hK1 _ ?_
          clear hK1 K1
          refine wpPre_e rfl rfl (fun K1 hK1 => ?_)
          apply Exists.intro
          refine And.intro (fun wx hx => ?_) ?_
          · go_simp
            try rfl
          go_simp
          refine hK1 _ ?_
          clear hK1 K1
          refine wpPre_e rfl rfl (fun K1 hK1 => ?_)
          apply Exists.intro
          refine And.intro (fun wx hx => ?_) ?_
          · go_simp
            try rfl
          go_simp
          refine hK1 _ ?_
          clear hK1 K1
          refine wpPre_e rfl rfl (fun K1 hK1 => ?_)
          apply Exists.intro
          refine And.intro (fun wx hx => ?_) ?_
          · have e0 := below_fact hx rfl zc
            go_simp
            try rfl
          go_simp
          refine hK1 _ ?_
          clear hK1 K1
          refine wpPre_e rfl rfl (fun K1 hK1 => ?_)
          apply Exists.intro
          refine And.intro (fun wx hx => ?_) ?_
          · go_simp
            try rfl
          go_simp
          refine hK1 _ ?_
          clear hK1 K1
          refine wpPre_e rfl rfl (fun K1 hK1 => ?_)
          apply Exists.intro
          refine And.intro (fun wx hx => ?_) ?_
          · go_simp
            try rfl
          go_simp
          refine hK1 _ ?_
          clear hK1 K1
          refine wpPre_e rfl rfl (fun K1 hK1 => ?_)
          apply Exists.intro
          refine And.intro (fun wx hx => ?_) ?_
          · go_simp
            try rfl
          go_simp
          refine hK1 _ ?_
          clear hK1 K1
          refine wpPre_nil ?_
          refine wpTr_e rfl (fun K1 hK1 => ?_)
          have s2 : w2.drew.frozen? ⟨gs, i2, none⟩ = false := zfz
          go_simp
          refine hK1 _ _ (fun h => by cases h) ?_
          clear s2
          clear hK1 K1
          refine wpPre_nil ?_
          refine wpTr_done ?_
          go_wp2
          have hbt : But f.blk w2 (w2.setCell ⟨gs, i2, none⟩ (.int .u8 (spx z rr))).drew := ((But.refl _ _).setCell (p := ⟨gs, i2, none⟩) (fun _ => .inr HOg.out) _).drew
          have hlen : (f.lo.set i2 (spx z rr)).length = f.lo.length := List.length_set
          refine bodyPost_ret (v := .bool true) (by simp [results, Tryz.results56, go_sem]) rfl (.inr ⟨i, f, HIs.out, .inr ⟨by omega, by rw [List.length_append]; have := HHi.out.1; have := HI2.out; omega, rfl, ?_⟩⟩)
          have hk : ({ f with lo := f.lo.set i2 (spx z rr) } : RF).key = (s, (f.su ++ f.lo).set (bit / 8).toNat (spx ((f.su ++ f.lo).getD (bit / 8).toNat 0) (bit % 8).toNat), (f.su.length : Int)) := by
            have e1 : (bit / 8).toNat = at_ := by have := HHi.out.1; omega
            have e2 : (bit % 8).toNat = rr := by have := HHi.out.2; omega
            rw [e1, e2]
            show (f.name, f.su ++ f.lo.set i2 (spx z rr), (f.su.length : Int)) = _
            rw [HIs.out.2, List.set_append_right _ _ (by have := HI2.out; omega), HZ.out]
            simp only [List.getD_eq_getElem?_getD]
            rw [List.getElem?_append_right (by have := HI2.out; omega), ← HI2.out]
          have hE := HIk.out.bytes (f' := { f with lo := f.lo.set i2 (spx z rr) }) HIs.out rfl (by unfold RF.cells; simp only [List.length_set]) hbt ?_ ?_ ?_ ?_ ?_
          · rw [hk] at hE
            exact hE
          · exact ownsRow_keep HF.out.s fun k hk hl => by have hne : k ≠ gs := (fun e => HF.out.ne k hk (by rw [e]; exact HOg.out)); exact (Below.heap_setCell _ _ _ _ hne)
          · exact HPt.out
          · intro k hk
            rcases hk with hk | hk
            · exact .inl (.inl (by exact hk))
            · exact .inl (.inr (by have h : (Value.slice f.lp (f.lo.set i2 (spx z rr)).length f.lc).ownBlock = some k := hk; rw [hlen] at h; exact h))
          · show f.su.length + (f.lo.set i2 (spx z rr)).length ≤ 65536
            omega
          · intro y hy
            have hy2 : y ∈ f.su ++ f.lo.set i2 (spx z rr) := hy
            rcases List.mem_append.1 hy2 with h | h
            · exact HF.out.by_ y (List.mem_append_left _ h)
            · rcases List.mem_or_eq_of_mem_set h with h | h
              · exact HF.out.by_ y (List.mem_append_right _ h)
              · rw [h]; exact spx_bd z rr
        · have hB' : ¬ (i2 : Int) < (f.lo.length : Int) := by omega
          go_wp2
          exact bodyPost_ret (v := .bool false) (by simp [results, Tryz.results56, go_sem]) rfl (.inr ⟨i, f, HIs.out, .inl ⟨by rw [List.length_append]; have := HHi.out.1; have := HI2.out; omega, rfl, HRC.out⟩⟩)
end Go.Proofs.YtebiidfdokhpaabGreatDoor
