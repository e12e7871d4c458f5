import Derived.Test.YtikfpoabaaiegaaGrK
import Derived.Test.YtikfpoabaaiegaaPack18
import Derived.Test.YtikfpoabaaiegaaPack28
import Derived.WalkMore
namespace Go.Proofs.Ytikfpoabaaiegaa
open Go.RowKit
set_option maxRecDepth 8000
structure WS (w0 : World) (rb : Nat) (bv : Value) (B : List Int) (p0 : Nat) (wr : World) (g : Bg) (p : Nat) : Prop where
  gm : GMv w0 rb wr bv (p : Int) 0 g
  le : p ≤ B.length
  few : Few_ g p
  ge : p0 ≤ p
def WE (w0 : World) (rb : Nat) (bv : Value) (wr : World) (e : Nat) : Prop := ∃ pa g, GMv w0 rb wr bv pa (e : Int) g
def WkP (s : RS Bg) (w0 : World) (rb : Nat) (bv : Value) (B : List Int) (p : Nat) (x : Ending) (w' : World) : Prop :=
  x = .returned (.tuple #[]) ∧ StP s B p (fun g p' w' => WS w0 rb bv B p w' g p') (fun k w' => WE w0 rb bv w' k) w'
theorem GMv.kept {w0 : World} {rb : Nat} {w w2 : World} {bv : Value} {pa ea : Int} {g : Bg} (h : GMv w0 rb w bv pa ea g) (hb : Below w.heap.size w w2) : GMv w0 rb w2 bv pa ea g := by
  obtain ⟨a, b, c, V', h, hv⟩ := h
  exact ⟨a, b, c, V', h.kept hb, hv⟩
theorem WS.kept {w0 : World} {rb : Nat} {w w2 : World} {bv : Value} {B : List Int} {p0 p : Nat} {g : Bg} (h : WS w0 rb bv B p0 w g p) (hb : Below w.heap.size w w2) : WS w0 rb bv B p0 w2 g p := ⟨h.gm.kept hb, h.le, h.few, h.ge⟩
theorem GMv.cell2 {w0 : World} {rb : Nat} {w : World} {bv : Value} {pa ea : Int} {g : Bg} (h : GMv w0 rb w bv pa ea g) : w.cell? ⟨rb, 2, none⟩ = some (.int .i64 ea) := by
  obtain ⟨a, b, c, V', h, hv⟩ := h
  have := h.box.cell 2
  simpa using this
theorem refWalk_err {w0 : World} {rb : Nat} {w : World} {bv : Value} (f : ByteArray) {e : Nat} (he : e ≠ 0) (h : WE w0 rb bv w e) : Calls Try.prog 70 #[.pointer (some ⟨rb, 0, none⟩), .string f] w fun x w' => x = .returned (.tuple #[]) ∧ w' = w := by
  obtain ⟨pa, g, h⟩ := h
  have d2 := h.cell2
  have he' : ((e : Int) == 0) = false := by simpa using he
  clear h he
  go_enter Try.func70, Try.ntmps70
  go_wp2_with fail
  go_loopw [4] (fun x wr => x = .int .i64 0 ∧ wr = w) (fun _ _ => 0)
  case atStart => exact ⟨rfl, rfl⟩
  case round =>
    obtain ⟨rfl, hw⟩ := hrel
    subst wr
    by_cases hlt : (0 : Int) < (f.size : Int)
    · go_wp2
      exact bodyPost_end (results_none rfl _ _ _) rfl ⟨rfl, rfl⟩
    · go_wp2
      exact bodyPost_end (results_none rfl _ _ _) rfl ⟨rfl, rfl⟩
theorem txL_part (f : ByteArray) (p m : Nat) : txL (f.extract (p + 2) (p + m)) = (((txL f).drop p).take m).drop 2 := by
  have e : (f.extract (p + 2) (p + m)).data.toList = (f.data.toList.take (p + m)).drop (p + 2) := by
    rw [ByteArray.data_extract, Array.toList_extract, List.extract_eq_take_drop, List.drop_take]
  unfold txL
  rw [e]
  simp only [List.map_drop, List.map_take]
  rw [List.take_drop, List.drop_drop]
def InB (w0 : World) (rb : Nat) (bv : Value) (B : List Int) (p1 : Nat) (s : Nat → RS Bg) (Z : Except Nat (Bg × List Int)) (wr : World) (j : Nat) : Prop :=
  (∃ gj pj, WS w0 rb bv B p1 wr gj pj ∧ s j (B.drop p1) = .ok (gj, B.drop pj)) ∨ (∃ e, e ≠ 0 ∧ WE w0 rb bv wr e ∧ Z = .error e)
theorem txL_tail {s : ByteArray} : txL (s.extract 1 s.size) = (txL s).drop 1 := by
  unfold txL
  rw [ByteArray.data_extract]
  simp
  exact List.take_of_length_le (by simp only [List.length_tail, List.length_map, Array.length_toList]; exact Nat.le_refl _)
def InC (w0 : World) (rb : Nat) (bv : Value) (B : List Int) (p1 : Nat) (one : Bg → RS Bg) (g1 : Bg) (Z : Except Nat (Bg × List Int)) (wr : World) (j l : Nat) : Prop :=
  (∃ gj pj kj, WS w0 rb bv B p1 wr gj pj ∧ riseR one j g1 (B.drop p1) = .ok ((gj, kj), B.drop pj) ∧ (j = 0 → kj = none) ∧ (0 < j → ∃ key, kj = some key ∧ gj.K[l]? = some key)) ∨ (∃ e, e ≠ 0 ∧ WE w0 rb bv wr e ∧ Z = .error e)
def OutR (w0 : World) (rb : Nat) (bv : Value) (B : List Int) (p0 F : Nat) (f : ByteArray) (Z : Except Nat (Bg × List Int)) (wr : World) (i : Nat) : Prop :=
  (∃ Fi gi pi, Fi ≤ F ∧ WS w0 rb bv B p0 wr gi pi ∧ (0 < pi ∨ ((txL f).drop i).headD 0 ≠ 118) ∧ walkR Fi ((txL f).drop i) gi (B.drop pi) = Z) ∨ (∃ e, e ≠ 0 ∧ WE w0 rb bv wr e ∧ Z = .error e)
set_option maxHeartbeats 16000000 in
theorem refWalk_any {w0 : World} {rb : Nat} {bp : Option Addr} {bc : Nat} {S : Nat → Prop} {B : List Int} (hB : GB w0 rb S bp bc B) : ∀ (F : Nat) (f : ByteArray), f.size ≤ 1000 → ∀ (w : World) (g : Bg) (p : Nat), GMv w0 rb w (.slice bp B.length bc) (p : Int) 0 g → p ≤ B.length → Few_ g p → (0 < p ∨ (txL f).headD 0 ≠ 118) → walkR F (txL f) g (B.drop p) ≠ .error 999 →
    Calls Try.prog 70 #[.pointer (some ⟨rb, 0, none⟩), .string f] w fun x w' => WkP (walkR F (txL f) g) w0 rb (.slice bp B.length bc) B p x w' := by
  intro F
  induction F using Nat.strongRecOn with
  | ind F ih =>
  intro f hf w g p h hp hfew h0 hne
  have hlen := hB.len
  have HBB := hid hB
  have IH := hid ih
  generalize hZ : walkR F (txL f) g (B.drop p) = Z at hne
  have HZ := hid hZ
  have HNe := hid hne
  have HO : Hid (OutR w0 rb (.slice bp B.length bc) B p F f Z w 0) := .inl ⟨F, g, p, Nat.le_refl _, ⟨h, hp, hfew, Nat.le_refl _⟩, h0, hZ⟩
  clear h hp hfew h0 hne hZ ih hB
  go_enter Try.func70, Try.ntmps70
  go_wp2_with fail
  go_loopw [4] (fun x wr => ∃ i : Nat, i ≤ f.size ∧ x = .int .i64 (i : Int) ∧ OutR w0 rb (.slice bp B.length bc) B p F f Z wr i) (fun x _ => f.size - (intOf x).toNat)
  case atStart => exact ⟨0, Nat.zero_le _, rfl, HO.out⟩
  case round =>
    obtain ⟨i, hi, rfl, hrel⟩ := hrel
    clear HO
    rcases hrel with ⟨Fi, gi, pi, hFi, hws, h118, hwz⟩ | ⟨e, he0, hwe, hze⟩
    · have HW := hid hws
      have d2 := hws.gm.cell2
      clear hws
      by_cases hlt : i < f.size
      · have hlt' : (i : Int) < (f.size : Int) := by omega
        have htx := txL_drop hlt
        obtain ⟨c, hc⟩ : ∃ c, (f[i]'hlt).toNat = c := ⟨_, rfl⟩
        rw [hc] at htx
        have hg : ((f[i]'hlt).toNat : Int) = (c : Int) := by rw [hc]
        have hcl : c < 256 := by rw [← hc]; exact txL_lt hlt
        rw [htx] at hwz h118
        simp only [List.headD_cons] at h118
        clear hc
        cases Fi with
        | zero => exact absurd hwz.symm HNe.out
        | succ Fi =>
        by_cases h91 : c = 91 ∨ c = 60
        · obtain ⟨m, hm, hm2, hlet, h60, heq⟩ := walkR_list h91 (by rw [hwz]; exact HNe.out)
          rw [heq] at hwz
          have hmt : mS 0 ((txL f).drop i) = some m := by rw [htx]; exact hm
          have hml : i + m < f.size := by
            have := mS_bound _ _ _ hmt
            rw [List.length_drop, txL_len] at this
            omega
          have hl1 : i + 1 < f.size := by omega
          have htx1 := txL_drop hl1
          obtain ⟨c1, hc1⟩ : ∃ c1, (f[i + 1]'hl1).toNat = c1 := ⟨_, rfl⟩
          have hh : ((txL f).drop (i + 1)).headD 0 = c1 := by rw [htx1, hc1]; rfl
          rw [hh] at hlet hwz
          have hg1 : ((f[i + 1]'hl1).toNat : Int) = (c1 : Int) := by rw [hc1]
          have hcl1 : c1 < 256 := by rw [← hc1]; exact txL_lt hl1
          have hi1 : (i : Int) + 1 < (f.size : Int) := by omega
          have hti : ((i : Int) + 1).toNat = i + 1 := by omega
          rw [← htx] at hwz
          have HMt := hid (refMatch_any f i m (by omega) hf hmt)
          have HWZ := hid hwz
          have HLet := hid hlet
          have H60 := hid h60
          clear hwz heq hm hmt htx htx1 hc1 hh hlet h118 h60
          rcases h91 with h91 | h91
          · simp only [if_pos h91, ← txL_part f i m, List.drop_drop] at HWZ
            clear H60
            have k91 : ((c : Int) != 91) = false := by simp; omega
            have k91e : ((c : Int) == 91) = true := by simp; omega
            go_wp2_with fail
            refine (HMt.out _).mono ?_
            rintro x w2 ⟨rfl, hbm⟩
            have HW2 := hid (HW.out.kept hbm)
            have HP := hid (refPiece_any HBB.out HW2.out.gm HW2.out.le HW2.out.few c1 hcl1 (.inr HLet.out.2.2.1))
            clear hbm HMt HW d2
            go_wp2_with fail
            refine HP.out.mono ?_
            rintro x w3 ⟨rfl, hst⟩
            clear HP
            cases hQ : pieceR c1 gi (B.drop pi) with
            | error k =>
              obtain ⟨hk0, pa, g2, hG⟩ := hst.2 k hQ
              have d2 := hG.cell2
              have hk' : ((k : Int) != 0) = true := by simpa using hk0
              have HE : Hid (k ≠ 0 ∧ WE w0 rb (.slice bp B.length bc) w3 k ∧ Z = .error k) := ⟨hk0, ⟨pa, g2, hG⟩, by rw [← HWZ.out, bind_bad hQ]⟩
              clear hst hQ hG hk0
              go_wp2
              refine bodyPost_ret (v := .tuple #[]) (results_none rfl _ _ _) rfl ?_
              refine ⟨rfl, fun y R hy => (by rw [HZ.out, HE.out.2.2] at hy; cases hy), fun e he => (by rw [HZ.out, HE.out.2.2] at he; cases he; exact ⟨HE.out.1, HE.out.2.1⟩)⟩
            | ok z =>
              obtain ⟨g1, R⟩ := z
              obtain ⟨p1, hp1, hR, hlt1, hG⟩ := hst.1 g1 R hQ
              obtain ⟨n, hge, hln, hnb⟩ := piece_last HLet.out hQ
              have d2 := hG.cell2
              have hw3 := HWZ.out
              rw [bind_get hQ, hR, hln] at hw3
              have HW3 : Hid (WS w0 rb (.slice bp B.length bc) B p w3 g1 p1) := ⟨hG, hp1, piece_few hQ HW2.out.few hlt1, by have := HW2.out.ge; omega⟩
              have hp1p : 0 < p1 := by omega
              have hlN := HW3.out.few.N
              obtain ⟨a, b, cc, V', hM, hv⟩ := hG
              rw [hge] at hM hlN
              simp only [List.length_append, List.length_cons, List.length_nil, Nat.zero_add] at hlN
              obtain ⟨ga, cap, hav⟩ := own_some hM.oN (by simp)
              have hcN := hM.oN.cells (g := ga) (by rw [hav]; rfl) gi.N.length (.int .i64 (n : Int)) (by simp [intC])
              rw [Go.WideShapes.add_plain, Nat.zero_add] at hcN
              have x3 := hM.box.cell 3
              rw [hav] at x3
              simp at x3
              have hw3s := hM.box.lt
              have hsb : IntKind.i64.wrap ((gi.N.length : Int) + 1 - 1) = (gi.N.length : Int) := by rw [IntKind.wrap_i64]; omega
              have hsb2 : IntKind.i64.wrap (gi.N.length : Int) = (gi.N.length : Int) := by rw [IntKind.wrap_i64]; omega
              have hix : (gi.N.length : Int) < (gi.N.length : Int) + 1 := by omega
              clear hst hQ hR hM hv hav HWZ HW2 hlt1 hln
              go_wp2_with fail
              refine wp_region_calmD 30 (fun wx => Below w3.heap.size w3 wx) [(0, true), (1, true), (2, true), (3, true), (4, false), (5, true), (6, true), (7, true), (8, true), (9, false), (10, true), (11, true), (12, true), (13, false), (14, true)] [] (by kernel_rfl) (by kernel_rfl) (Below.refl _ _).drew ?_
              refine wpPre_e rfl rfl (fun K1 hK1 => ?_)
              apply Exists.intro
              refine And.intro (fun wx hx => ?_) ?_
              · go_simp
                try rfl
              go_simp
              refine hK1 _ ?_
              clear hK1 K1
              refine wpPre_e rfl rfl (fun K1 hK1 => ?_)
              apply Exists.intro
              refine And.intro (fun wx hx => ?_) ?_
              · go_simp
                try rfl
              go_simp
              refine hK1 _ ?_
              clear hK1 K1
              refine wpPre_e rfl rfl (fun K1 hK1 => ?_)
              apply Exists.intro
              refine And.intro (fun wx hx => ?_) ?_
              · go_simp
                try rfl
              go_simp
              refine hK1 _ ?_
              clear hK1 K1
              refine wpPre_e rfl rfl (fun K1 hK1 => ?_)
              apply Exists.intro
              refine And.intro (fun wx hx => ?_) ?_
              · go_simp
                try rfl
              go_simp
              refine hK1 _ ?_
              clear hK1 K1
              refine wpPre_e rfl rfl (fun K1 hK1 => ?_)
              apply Exists.intro
              refine And.intro (fun wx hx => ?_) ?_
              · have e0 := below_fact hx rfl x3
                have e1 := below_fact hx rfl hcN
                go_simp
                try rfl
              go_simp
              refine hK1 _ ?_
              clear hK1 K1
              refine wpPre_e rfl rfl (fun K1 hK1 => ?_)
              apply Exists.intro
              refine And.intro (fun wx hx => ?_) ?_
              · go_simp
                try rfl
              go_simp
              refine hK1 _ ?_
              clear hK1 K1
              refine wpPre_e rfl rfl (fun K1 hK1 => ?_)
              apply Exists.intro
              refine And.intro (fun wx hx => ?_) ?_
              · go_simp
                try rfl
              go_simp
              refine hK1 _ ?_
              clear hK1 K1
              refine wpPre_e rfl rfl (fun K1 hK1 => ?_)
              apply Exists.intro
              refine And.intro (fun wx hx => ?_) ?_
              · go_simp
                try rfl
              go_simp
              refine hK1 _ ?_
              clear hK1 K1
              refine wpPre_e rfl rfl (fun K1 hK1 => ?_)
              apply Exists.intro
              refine And.intro (fun wx hx => ?_) ?_
              · go_simp
                try rfl
              go_simp
              refine hK1 _ ?_
              clear hK1 K1
              refine wpPre_e rfl rfl (fun K1 hK1 => ?_)
              apply Exists.intro
              refine And.intro (fun wx hx => ?_) ?_
              · have e0 := below_fact hx rfl x3
                have e1 := below_fact hx rfl hcN
                go_simp
                try rfl
              go_simp
              refine hK1 _ ?_
              clear hK1 K1
              refine wpPre_e rfl rfl (fun K1 hK1 => ?_)
              apply Exists.intro
              refine And.intro (fun wx hx => ?_) ?_
              · go_simp
                try rfl
              go_simp
              refine hK1 _ ?_
              clear hK1 K1
              refine wpPre_e rfl rfl (fun K1 hK1 => ?_)
              apply Exists.intro
              refine And.intro (fun wx hx => ?_) ?_
              · go_simp
                try rfl
              go_simp
              refine hK1 _ ?_
              clear hK1 K1
              refine wpPre_e rfl rfl (fun K1 hK1 => ?_)
              apply Exists.intro
              refine And.intro (fun wx hx => ?_) ?_
              · go_simp
                try rfl
              go_simp
              refine hK1 _ ?_
              clear hK1 K1
              refine wpPre_e rfl rfl (fun K1 hK1 => ?_)
              apply Exists.intro
              refine And.intro (fun wx hx => ?_) ?_
              · have e0 := below_fact hx rfl x3
                have e1 := below_fact hx rfl hcN
                go_simp
                try rfl
              go_simp
              refine hK1 _ ?_
              clear hK1 K1
              refine wpPre_e rfl rfl (fun K1 hK1 => ?_)
              apply Exists.intro
              refine And.intro (fun wx hx => ?_) ?_
              · go_simp
                try rfl
              go_simp
              refine hK1 _ ?_
              clear hK1 K1
              refine wpPre_nil ?_
              refine wpStg_nil ?_
              have HW4 := hid (HW3.out.kept (w2 := w3.drew) (Below.refl _ _).drew)
              clear hsb hsb2 x3 hcN d2 HW3 hw3s
              obtain ⟨item, hitem⟩ : ∃ item, item = f.extract (i + 2) (i + m) := ⟨_, rfl⟩
              try rw [← hitem] at hw3
              have his : item.size = m - 2 := by rw [hitem, ByteArray.size_extract]; omega
              have HWZ := hid hw3
              have HIt := hid hitem
              clear hw3
              go_wp2_with fail
              rw [← HIt.out]
              clear hitem
              go_loopw [9] (fun x wr => ∃ j : Nat, j ≤ n ∧ x = .int .i64 (j : Int) ∧ InB w0 rb (.slice bp B.length bc) B p1 (fun j => repR (walkR Fi (txL item)) j g1) Z wr j) (fun x _ => n - (intOf x).toNat)
              case atStart => exact ⟨0, Nat.zero_le _, rfl, .inl ⟨g1, p1, ⟨HW4.out.gm, HW4.out.le, HW4.out.few, Nat.le_refl _⟩, rfl⟩⟩
              case round =>
                obtain ⟨j, hj, rfl, hrel⟩ := hrel
                have hpp1 := HW4.out.ge
                clear HW4
                rcases hrel with ⟨gj, pj, hwj, hrj⟩ | ⟨e, he0, hwe, hze⟩
                · have HJ := hid hwj
                  have d2 := hwj.gm.cell2
                  have hpj := hwj.ge
                  have HRj := hid hrj
                  clear hwj hrj
                  by_cases hjn : j < n
                  · have hjn' : (j : Int) < (n : Int) := by omega
                    have hne2 : walkR Fi (txL item) gj (B.drop pj) ≠ .error 999 := fun h9 => HNe.out (by
                      have h10 : repR (walkR Fi (txL item)) (j + 1) g1 (B.drop p1) = .error 999 := (bind_get HRj.out).trans h9
                      rw [← HWZ.out, bind_bad (repR_err h10 (by omega))])
                    have HI := hid (IH.out Fi (by omega) item (by omega) wr gj pj HJ.out.gm HJ.out.le HJ.out.few (.inl (by omega)) hne2)
                    clear hne2
                    go_wp2_with fail
                    refine HI.out.mono ?_
                    rintro x w6 ⟨rfl, hst⟩
                    clear HI
                    cases hQ2 : walkR Fi (txL item) gj (B.drop pj) with
                    | error k =>
                      obtain ⟨hk0, hwe⟩ := hst.2 k hQ2
                      have HF : Hid (InB w0 rb (.slice bp B.length bc) B p1 (fun j => repR (walkR Fi (txL item)) j g1) Z w6 (j + 1)) := .inr ⟨k, hk0, hwe, by
                        have h10 : repR (walkR Fi (txL item)) (j + 1) g1 (B.drop p1) = .error k := (bind_get HRj.out).trans hQ2
                        rw [← HWZ.out, bind_bad (repR_err h10 (by omega))]⟩
                      clear hst hQ2 hwe
                      go_wp2
                      go_roundw
                      case rel => exact ⟨j + 1, by omega, by go_num, HF.out⟩
                      case measure => simp [intOf]; omega
                    | ok z =>
                      obtain ⟨g2, R2⟩ := z
                      obtain ⟨p2, hp2, hR2, hws2⟩ := hst.1 g2 R2 hQ2
                      have HF : Hid (InB w0 rb (.slice bp B.length bc) B p1 (fun j => repR (walkR Fi (txL item)) j g1) Z w6 (j + 1)) := .inl ⟨g2, p2, ⟨hws2.gm, hws2.le, hws2.few, by have := hws2.ge; omega⟩, by
                        have h10 : repR (walkR Fi (txL item)) (j + 1) g1 (B.drop p1) = .ok (g2, R2) := (bind_get HRj.out).trans hQ2
                        rw [← hR2]; exact h10⟩
                      clear hst hQ2 hws2 hR2
                      go_wp2
                      go_roundw
                      case rel => exact ⟨j + 1, by omega, by go_num, HF.out⟩
                      case measure => simp [intOf]; omega
                  · obtain rfl : j = n := by omega
                    have hjn' : ¬ (j : Int) < (j : Int) := by omega
                    have HF : Hid (OutR w0 rb (.slice bp B.length bc) B p F f Z wr (i + m + 1)) := .inl ⟨Fi, gj, pj, by omega, ⟨HJ.out.gm, HJ.out.le, HJ.out.few, by omega⟩, .inl (by omega), by rw [← HWZ.out, bind_get HRj.out, Nat.add_assoc]⟩
                    clear HJ HRj
                    go_wp2
                    go_roundw
                    case rel => exact ⟨i + m + 1, by omega, by go_num, HF.out⟩
                    case measure => simp [intOf]; omega
                · obtain ⟨pa, ge, hge⟩ := hwe
                  have d2 := hge.cell2
                  have he' : ((e : Int) == 0) = false := by simpa using he0
                  have HF : Hid (OutR w0 rb (.slice bp B.length bc) B p F f Z wr (i + m + 1)) := .inr ⟨e, he0, ⟨pa, ge, hge⟩, hze⟩
                  clear hge he0 hze
                  by_cases hjn : (j : Int) < (n : Int)
                  · go_wp2
                    go_roundw
                    case rel => exact ⟨i + m + 1, by omega, by go_num, HF.out⟩
                    case measure => simp [intOf]; omega
                  · go_wp2
                    go_roundw
                    case rel => exact ⟨i + m + 1, by omega, by go_num, HF.out⟩
                    case measure => simp [intOf]; omega
          · simp only [if_neg (show ¬ c = 91 by omega), List.drop_drop] at HWZ
            have k91 : ((c : Int) != 91) = true := by simp; omega
            have k60 : ((c : Int) != 60) = false := by simp; omega
            have k91e : ((c : Int) == 91) = false := by simp; omega
            go_wp2_with fail
            refine (HMt.out _).mono ?_
            rintro x w2 ⟨rfl, hbm⟩
            have HW2 := hid (HW.out.kept hbm)
            have HP := hid (refPiece_any HBB.out HW2.out.gm HW2.out.le HW2.out.few c1 hcl1 (.inr HLet.out.2.2.1))
            clear hbm HMt HW d2
            go_wp2_with fail
            refine HP.out.mono ?_
            rintro x w3 ⟨rfl, hst⟩
            clear HP
            cases hQ : pieceR c1 gi (B.drop pi) with
            | error k =>
              obtain ⟨hk0, pa, g2, hG⟩ := hst.2 k hQ
              have d2 := hG.cell2
              have hk' : ((k : Int) != 0) = true := by simpa using hk0
              have HE : Hid (k ≠ 0 ∧ WE w0 rb (.slice bp B.length bc) w3 k ∧ Z = .error k) := ⟨hk0, ⟨pa, g2, hG⟩, by rw [← HWZ.out, bind_bad hQ]⟩
              clear hst hQ hG hk0
              go_wp2
              refine bodyPost_ret (v := .tuple #[]) (results_none rfl _ _ _) rfl ?_
              refine ⟨rfl, fun y R hy => (by rw [HZ.out, HE.out.2.2] at hy; cases hy), fun e he => (by rw [HZ.out, HE.out.2.2] at he; cases he; exact ⟨HE.out.1, HE.out.2.1⟩)⟩
            | ok z =>
              obtain ⟨g1, R⟩ := z
              obtain ⟨p1, hp1, hR, hlt1, hG⟩ := hst.1 g1 R hQ
              obtain ⟨n, hge, hln, hnb⟩ := piece_last HLet.out hQ
              have d2 := hG.cell2
              have hw3 := HWZ.out
              rw [bind_get hQ, hR, hln] at hw3
              have HW3 : Hid (WS w0 rb (.slice bp B.length bc) B p w3 g1 p1) := ⟨hG, hp1, piece_few hQ HW2.out.few hlt1, by have := HW2.out.ge; omega⟩
              have hp1p : 0 < p1 := by omega
              have hlN := HW3.out.few.N
              obtain ⟨a, b, cc, V', hM, hv⟩ := hG
              rw [hge] at hM hlN
              simp only [List.length_append, List.length_cons, List.length_nil, Nat.zero_add] at hlN
              obtain ⟨ga, cap, hav⟩ := own_some hM.oN (by simp)
              have hcN := hM.oN.cells (g := ga) (by rw [hav]; rfl) gi.N.length (.int .i64 (n : Int)) (by simp [intC])
              rw [Go.WideShapes.add_plain, Nat.zero_add] at hcN
              have x3 := hM.box.cell 3
              rw [hav] at x3
              simp at x3
              have hw3s := hM.box.lt
              have hsb : IntKind.i64.wrap ((gi.N.length : Int) + 1 - 1) = (gi.N.length : Int) := by rw [IntKind.wrap_i64]; omega
              have hsb2 : IntKind.i64.wrap (gi.N.length : Int) = (gi.N.length : Int) := by rw [IntKind.wrap_i64]; omega
              have hix : (gi.N.length : Int) < (gi.N.length : Int) + 1 := by omega
              clear hst hQ hR hM hv hav HWZ HW2 hlt1 hln
              go_wp2_with fail
              refine wp_region_calmD 30 (fun wx => Below w3.heap.size w3 wx) [(0, true), (1, true), (2, true), (3, true), (4, false), (5, true), (6, true), (7, true), (8, true), (9, false), (10, true), (11, true), (12, true), (13, false), (14, true)] [] (by kernel_rfl) (by kernel_rfl) (Below.refl _ _).drew ?_
              refine wpPre_e rfl rfl (fun K1 hK1 => ?_)
              apply Exists.intro
              refine And.intro (fun wx hx => ?_) ?_
              · go_simp
                try rfl
              go_simp
              refine hK1 _ ?_
              clear hK1 K1
              refine wpPre_e rfl rfl (fun K1 hK1 => ?_)
              apply Exists.intro
              refine And.intro (fun wx hx => ?_) ?_
              · go_simp
                try rfl
              go_simp
              refine hK1 _ ?_
              clear hK1 K1
              refine wpPre_e rfl rfl (fun K1 hK1 => ?_)
              apply Exists.intro
              refine And.intro (fun wx hx => ?_) ?_
              · go_simp
                try rfl
              go_simp
              refine hK1 _ ?_
              clear hK1 K1
              refine wpPre_e rfl rfl (fun K1 hK1 => ?_)
              apply Exists.intro
              refine And.intro (fun wx hx => ?_) ?_
              · go_simp
                try rfl
              go_simp
              refine hK1 _ ?_
              clear hK1 K1
              refine wpPre_e rfl rfl (fun K1 hK1 => ?_)
              apply Exists.intro
              refine And.intro (fun wx hx => ?_) ?_
              · have e0 := below_fact hx rfl x3
                have e1 := below_fact hx rfl hcN
                go_simp
                try rfl
              go_simp
              refine hK1 _ ?_
              clear hK1 K1
              refine wpPre_e rfl rfl (fun K1 hK1 => ?_)
              apply Exists.intro
              refine And.intro (fun wx hx => ?_) ?_
              · go_simp
                try rfl
              go_simp
              refine hK1 _ ?_
              clear hK1 K1
              refine wpPre_e rfl rfl (fun K1 hK1 => ?_)
              apply Exists.intro
              refine And.intro (fun wx hx => ?_) ?_
              · go_simp
                try rfl
              go_simp
              refine hK1 _ ?_
              clear hK1 K1
              refine wpPre_e rfl rfl (fun K1 hK1 => ?_)
              apply Exists.intro
              refine And.intro (fun wx hx => ?_) ?_
              · go_simp
                try rfl
              go_simp
              refine hK1 _ ?_
              clear hK1 K1
              refine wpPre_e rfl rfl (fun K1 hK1 => ?_)
              apply Exists.intro
              refine And.intro (fun wx hx => ?_) ?_
              · go_simp
                try rfl
              go_simp
              refine hK1 _ ?_
              clear hK1 K1
              refine wpPre_e rfl rfl (fun K1 hK1 => ?_)
              apply Exists.intro
              refine And.intro (fun wx hx => ?_) ?_
              · have e0 := below_fact hx rfl x3
                have e1 := below_fact hx rfl hcN
                go_simp
                try rfl
              go_simp
              refine hK1 _ ?_
              clear hK1 K1
              refine wpPre_e rfl rfl (fun K1 hK1 => ?_)
              apply Exists.intro
              refine And.intro (fun wx hx => ?_) ?_
              · go_simp
                try rfl
              go_simp
              refine hK1 _ ?_
              clear hK1 K1
              refine wpPre_e rfl rfl (fun K1 hK1 => ?_)
              apply Exists.intro
              refine And.intro (fun wx hx => ?_) ?_
              · go_simp
                try rfl
              go_simp
              refine hK1 _ ?_
              clear hK1 K1
              refine wpPre_e rfl rfl (fun K1 hK1 => ?_)
              apply Exists.intro
              refine And.intro (fun wx hx => ?_) ?_
              · go_simp
                try rfl
              go_simp
              refine hK1 _ ?_
              clear hK1 K1
              refine wpPre_e rfl rfl (fun K1 hK1 => ?_)
              apply Exists.intro
              refine And.intro (fun wx hx => ?_) ?_
              · have e0 := below_fact hx rfl x3
                have e1 := below_fact hx rfl hcN
                go_simp
                try rfl
              go_simp
              refine hK1 _ ?_
              clear hK1 K1
              refine wpPre_e rfl rfl (fun K1 hK1 => ?_)
              apply Exists.intro
              refine And.intro (fun wx hx => ?_) ?_
              · go_simp
                try rfl
              go_simp
              refine hK1 _ ?_
              clear hK1 K1
              refine wpPre_nil ?_
              refine wpStg_nil ?_
              have HW4 := hid (HW3.out.kept (w2 := w3.drew) (Below.refl _ _).drew)
              clear hsb hsb2 x3 hcN d2 HW3 hw3s
              obtain ⟨item, hitem⟩ : ∃ item, item = f.extract (i + 2) (i + m) := ⟨_, rfl⟩
              try rw [← hitem] at hw3
              have his : item.size = m - 2 := by rw [hitem, ByteArray.size_extract]; omega
              have HWZ := hid hw3
              have HIt := hid hitem
              clear hw3
              go_wp2_with fail
              rw [← HIt.out]
              clear hitem
              obtain ⟨it2, hit2⟩ : ∃ it2, it2 = item.extract 1 (m - 2) := ⟨_, rfl⟩
              have hit2s : it2.size ≤ 1000 := by rw [hit2, ByteArray.size_extract]; omega
              have hdr : (((txL f).drop i).take m).drop 3 = txL it2 := by
                rw [hit2, ← his, txL_tail, HIt.out, txL_part f i m, List.drop_drop]
              rw [hdr] at HWZ
              have HI2 := hid hit2
              have hF1 : 0 < Fi := (H60.out h91).1
              have his1 : 1 ≤ item.size := by have := (H60.out h91).2; omega
              clear hdr hit2
              go_loopw [8, 9] (fun y x wr => ∃ j l : Nat, j ≤ n ∧ x = .int .i64 (j : Int) ∧ y = .int .i64 (l : Int) ∧ InC w0 rb (.slice bp B.length bc) B p1 (walkR Fi (txL it2)) g1 Z wr j l) (fun _ x _ => n - (intOf x).toNat)
              case atStart => exact ⟨0, 0, Nat.zero_le _, rfl, rfl, .inl ⟨g1, p1, none, ⟨HW4.out.gm, HW4.out.le, HW4.out.few, Nat.le_refl _⟩, rfl, fun _ => rfl, fun h => absurd h (by omega)⟩⟩
              case round =>
                obtain ⟨j, l, hj, rfl, rfl, hrel⟩ := hrel
                have hpp1 := HW4.out.ge
                clear HW4
                rcases hrel with ⟨gj, pj, kj, hwj, hrj, hk0j, hk1j⟩ | ⟨e, he0, hwe, hze⟩
                · have HJ := hid hwj
                  have d2 := hwj.gm.cell2
                  have hpj := hwj.ge
                  have HRj := hid hrj
                  have HKj := hid (And.intro hk0j hk1j)
                  obtain ⟨a1, b1, c1', V1, hM1, hv1⟩ := hwj.gm
                  obtain ⟨pb, cb, hbs⟩ := ownsRow_slice hM1.oK
                  have x4 := hM1.box.cell 4
                  rw [hbs] at x4
                  simp at x4
                  have hwrs := hM1.box.lt
                  clear hwj hrj hM1 hv1 hbs hk0j hk1j
                  by_cases hjn : j < n
                  · have hjn' : (j : Int) < (n : Int) := by omega
                    have hne2 : walkR 1 (txL ⟨#[107]⟩) gj (B.drop pj) ≠ .error 999 := fun h9 => by
                      rw [walk_key] at h9
                      cases hk9 : keyS (B.drop pj) with
                      | error e9 => rw [bind_bad hk9] at h9; cases h9; rcases key_err hk9 with h | h | h <;> omega
                      | ok z9 => rw [bind_get hk9] at h9; cases h9
                    have HI := hid (IH.out 1 (by omega) ⟨#[107]⟩ (by decide) wr gj pj HJ.out.gm HJ.out.le HJ.out.few (.inl (by omega)) hne2)
                    clear hne2
                    go_wp2_with fail
                    refine HI.out.mono ?_
                    rintro x w6 ⟨rfl, hst⟩
                    rw [walk_key] at hst
                    clear HI d2 x4 hwrs
                    cases hk9 : keyS (B.drop pj) with
                    | error k =>
                      obtain ⟨hk0, hwe⟩ := hst.2 k (bind_bad hk9)
                      have HR2 : Hid (riseR (walkR Fi (txL it2)) (j + 1) g1 (B.drop p1) = .error k) := by
                        refine (bind_get HRj.out).trans (bind_bad ?_)
                        exact bind_bad hk9
                      obtain ⟨pa, ge, hge⟩ := hwe
                      have d2 := hge.cell2
                      have hke : ((k : Int) == 0) = false := by simpa using hk0
                      have HF : Hid (InC w0 rb (.slice bp B.length bc) B p1 (walkR Fi (txL it2)) g1 Z w6.drew (j + 1) gj.K.length) := .inr ⟨k, hk0, ⟨pa, ge, hge.kept (Below.refl _ _).drew⟩, by rw [← HWZ.out, bind_bad (bind_bad (riseR_err HR2.out (by omega)))]⟩
                      have HEr := hid (refWalk_err it2 hk0 (w := w6.drew) ⟨pa, ge, hge.kept (Below.refl _ _).drew⟩)
                      have hw6s : rb < w6.heap.size := by obtain ⟨_, _, _, _, h7, _⟩ := hge; exact h7.box.lt
                      clear hst hk9 hge hk0
                      go_wp2_with fail
                      refine wp_region_calmD 30 (fun wx => Below w6.heap.size w6 wx) [(0, true), (1, true), (2, true), (3, false), (4, true), (5, true), (6, true), (7, true), (8, true), (9, true), (10, true), (11, true), (12, true), (13, true), (14, false), (15, true), (16, true), (17, false), (18, true), (19, true), (20, true), (21, true), (22, false), (23, true), (24, true), (25, false), (26, true), (27, true)] [] (by kernel_rfl) (by kernel_rfl) (Below.refl _ _).drew ?_
                      refine wpPre_e rfl rfl (fun K1 hK1 => ?_)
                      apply Exists.intro
                      refine And.intro (fun wx hx => ?_) ?_
                      · go_simp
                        try rfl
                      go_simp
                      refine hK1 _ ?_
                      clear hK1 K1
                      refine wpPre_e rfl rfl (fun K1 hK1 => ?_)
                      apply Exists.intro
                      refine And.intro (fun wx hx => ?_) ?_
                      · go_simp
                        try rfl
                      go_simp
                      refine hK1 _ ?_
                      clear hK1 K1
                      refine wpPre_e rfl rfl (fun K1 hK1 => ?_)
                      apply Exists.intro
                      refine And.intro (fun wx hx => ?_) ?_
                      · go_simp
                        try rfl
                      go_simp
                      refine hK1 _ ?_
                      clear hK1 K1
                      refine wpPre_e rfl rfl (fun K1 hK1 => ?_)
                      apply Exists.intro
                      refine And.intro (fun wx hx => ?_) ?_
                      · have e0 := below_fact hx rfl d2
                        go_simp
                        try rfl
                      go_simp
                      refine hK1 _ ?_
                      clear hK1 K1
                      refine wpPre_e rfl rfl (fun K1 hK1 => ?_)
                      apply Exists.intro
                      refine And.intro (fun wx hx => ?_) ?_
                      · go_simp
                        try rfl
                      go_simp
                      refine hK1 _ ?_
                      clear hK1 K1
                      refine wpPre_e rfl rfl (fun K1 hK1 => ?_)
                      apply Exists.intro
                      refine And.intro (fun wx hx => ?_) ?_
                      · go_simp
                        try rfl
                      go_simp
                      refine hK1 _ ?_
                      clear hK1 K1
                      refine wpPre_i rfl (fun K1 hK1 => ?_)
                      rw [if_neg (by go_simp)]
                      go_simp
                      refine hK1 _ ?_
                      clear hK1 K1
                      refine wpPre_i rfl (fun K1 hK1 => ?_)
                      rw [if_neg (by go_simp)]
                      go_simp
                      refine hK1 _ ?_
                      clear hK1 K1
                      refine wpPre_e rfl rfl (fun K1 hK1 => ?_)
                      apply Exists.intro
                      refine And.intro (fun wx hx => ?_) ?_
                      · go_simp
                        try rfl
                      go_simp
                      refine hK1 _ ?_
                      clear hK1 K1
                      refine wpPre_e rfl rfl (fun K1 hK1 => ?_)
                      apply Exists.intro
                      refine And.intro (fun wx hx => ?_) ?_
                      · go_simp
                        try rfl
                      go_simp
                      refine hK1 _ ?_
                      clear hK1 K1
                      refine wpPre_i rfl (fun K1 hK1 => ?_)
                      rw [if_neg (by go_simp)]
                      go_simp
                      refine hK1 _ ?_
                      clear hK1 K1
                      refine wpPre_i rfl (fun K1 hK1 => ?_)
                      rw [if_neg (by go_simp)]
                      go_simp
                      refine hK1 _ ?_
                      clear hK1 K1
                      refine wpPre_i rfl (fun K1 hK1 => ?_)
                      rw [if_neg (by go_simp)]
                      go_simp
                      refine hK1 _ ?_
                      clear hK1 K1
                      refine wpPre_i rfl (fun K1 hK1 => ?_)
                      rw [if_neg (by go_simp)]
                      go_simp
                      refine hK1 _ ?_
                      clear hK1 K1
                      refine wpPre_i rfl (fun K1 hK1 => ?_)
                      rw [if_neg (by go_simp)]
                      go_simp
                      refine hK1 _ ?_
                      clear hK1 K1
                      refine wpPre_i rfl (fun K1 hK1 => ?_)
                      rw [if_neg (by go_simp)]
                      go_simp
                      refine hK1 _ ?_
                      clear hK1 K1
                      refine wpPre_i rfl (fun K1 hK1 => ?_)
                      rw [if_neg (by go_simp)]
                      go_simp
                      refine hK1 _ ?_
                      clear hK1 K1
                      refine wpPre_i rfl (fun K1 hK1 => ?_)
                      rw [if_neg (by go_simp)]
                      go_simp
                      refine hK1 _ ?_
                      clear hK1 K1
                      refine wpPre_i rfl (fun K1 hK1 => ?_)
                      rw [if_neg (by go_simp)]
                      go_simp
                      refine hK1 _ ?_
                      clear hK1 K1
                      refine wpPre_i rfl (fun K1 hK1 => ?_)
                      rw [if_neg (by go_simp)]
                      go_simp
                      refine hK1 _ ?_
                      clear hK1 K1
                      refine wpPre_i rfl (fun K1 hK1 => ?_)
                      rw [if_neg (by go_simp)]
                      go_simp
                      refine hK1 _ ?_
                      clear hK1 K1
                      refine wpPre_i rfl (fun K1 hK1 => ?_)
                      rw [if_neg (by go_simp)]
                      go_simp
                      refine hK1 _ ?_
                      clear hK1 K1
                      refine wpPre_i rfl (fun K1 hK1 => ?_)
                      rw [if_neg (by go_simp)]
                      go_simp
                      refine hK1 _ ?_
                      clear hK1 K1
                      refine wpPre_i rfl (fun K1 hK1 => ?_)
                      rw [if_neg (by go_simp)]
                      go_simp
                      refine hK1 _ ?_
                      clear hK1 K1
                      refine wpPre_i rfl (fun K1 hK1 => ?_)
                      rw [if_neg (by go_simp)]
                      go_simp
                      refine hK1 _ ?_
                      clear hK1 K1
                      refine wpPre_i rfl (fun K1 hK1 => ?_)
                      rw [if_neg (by go_simp)]
                      go_simp
                      refine hK1 _ ?_
                      clear hK1 K1
                      refine wpPre_i rfl (fun K1 hK1 => ?_)
                      rw [if_neg (by go_simp)]
                      go_simp
                      refine hK1 _ ?_
                      clear hK1 K1
                      refine wpPre_e rfl rfl (fun K1 hK1 => ?_)
                      apply Exists.intro
                      refine And.intro (fun wx hx => ?_) ?_
                      · go_simp
                        try rfl
                      go_simp
                      refine hK1 _ ?_
                      clear hK1 K1
                      refine wpPre_nil ?_
                      refine wpStg_nil ?_
                      go_wp2_with fail
                      rw [← HI2.out]
                      refine HEr.out.mono ?_
                      rintro x w7 ⟨rfl, hw7⟩
                      subst w7
                      go_wp2
                      go_roundw
                      case rel => exact ⟨j + 1, gj.K.length, by omega, by go_num, by go_num, HF.out⟩
                      case measure => simp [intOf]; omega
                    | ok z =>
                      obtain ⟨key, R⟩ := z
                      obtain ⟨p2, hp2, hR, hws6⟩ := hst.1 ⟨gj.N, gj.K ++ [key], gj.V⟩ R (by rw [bind_get hk9]; rfl)
                      have HW6 := hid hws6
                      have d2 := hws6.gm.cell2
                      have hp26 := hws6.ge
                      obtain ⟨a2, b2, c2, V2, hM2, hv2⟩ := hws6.gm
                      have hw6s := hM2.box.lt
                      obtain ⟨gk, capk, hbs⟩ := own_some hM2.oK (by simp)
                      have x4 := hM2.box.cell 4
                      rw [hbs] at x4
                      simp at x4
                      have HcK : Hid (∀ (q : Nat) (s : ByteArray), (gj.K ++ [key])[q]? = some s → w6.cell? ⟨gk, q, none⟩ = some (.string s)) := fun q s hq => by
                        have h8 := hM2.oK.cells (g := gk) (by rw [hbs]; rfl) q (.string s) (by simp only [strC, List.getElem?_map]; rw [hq]; rfl)
                        rw [Go.WideShapes.add_plain, Nat.zero_add] at h8
                        exact h8
                      have c1k := HcK.out gj.K.length key (by simp)
                      have hKl : gj.K.length ≤ 1000000 := by have := HJ.out.few.K; have := HJ.out.le; omega
                      have hM6 := HW6.out
                      clear hst hM2 hv2 hbs hws6
                      by_cases hj0 : 0 < j
                      · obtain ⟨prev, hkj, hlK⟩ := HKj.out.2 hj0
                        have hlk : l < gj.K.length := (List.getElem?_eq_some_iff.1 hlK).1
                        have c2k := HcK.out l prev (by rw [List.getElem?_append_left hlk]; exact hlK)
                        have hj0' : (0 : Int) < (j : Int) := by omega
                        have hi1 : (gj.K.length : Int) < (gj.K.length : Int) + 1 := by omega
                        have hi2 : (l : Int) < (gj.K.length : Int) + 1 := by omega
                        have hle := le_not_lt key.toList prev.toList
                        cases hb : Op.bytesLess prev.toList key.toList
                        · rw [hb] at hle
                          have hle' : (Op.bytesLess key.toList prev.toList || key.toList == prev.toList) = true := hle
                          have HR2 : Hid (riseR (walkR Fi (txL it2)) (j + 1) g1 (B.drop p1) = .error 42) := by
                            refine (bind_get HRj.out).trans (bind_bad ?_)
                            show riseS kj (B.drop pj) = _
                            rw [hkj]
                            unfold riseS
                            rw [bind_get hk9]
                            simp only
                            rw [if_neg (by rw [hb]; decide)]
                            rfl
                          obtain ⟨aE, bE, cE, VE, hME, hvE⟩ := hM6.gm
                          have HME := hid (hME.drew.setE 42)
                          have gE := hME.box.frozen 2
                          have HF : Hid (InC w0 rb (.slice bp B.length bc) B p1 (walkR Fi (txL it2)) g1 Z ((w6.setCell ⟨rb, 2, none⟩ (.int .i64 42)).drew) (j + 1) gj.K.length) := .inr ⟨42, by decide, ⟨_, _, _, _, _, _, (hME.setE 42).drew, hvE⟩, by rw [← HWZ.out, bind_bad (bind_bad (riseR_err HR2.out (by omega)))]⟩
                          have HEr := hid (refWalk_err it2 (e := 42) (by decide) (w := (w6.setCell ⟨rb, 2, none⟩ (.int .i64 42)).drew) ⟨_, _, _, _, _, _, (hME.setE 42).drew, hvE⟩)
                          clear hle hb hk9 hME hvE HcK hkj hlK hM6
                          go_wp2_with fail
                          refine wp_region_calmD 30 (fun wx => Below w6.heap.size w6 wx) [(0, true), (1, true), (2, true), (3, false), (4, true), (5, true), (6, true), (7, true), (8, true), (9, true), (10, true), (11, true), (12, true), (13, true), (14, false), (15, true), (16, true), (17, false), (18, true), (19, true), (20, true), (21, true), (22, false), (23, true), (24, true), (25, false), (26, true), (27, true)] [] (by kernel_rfl) (by kernel_rfl) (Below.refl _ _).drew ?_
                          refine wpPre_e rfl rfl (fun K1 hK1 => ?_)
                          apply Exists.intro
                          refine And.intro (fun wx hx => ?_) ?_
                          · go_simp
                            try rfl
                          go_simp
                          refine hK1 _ ?_
                          clear hK1 K1
                          refine wpPre_e rfl rfl (fun K1 hK1 => ?_)
                          apply Exists.intro
                          refine And.intro (fun wx hx => ?_) ?_
                          · go_simp
                            try rfl
                          go_simp
                          refine hK1 _ ?_
                          clear hK1 K1
                          refine wpPre_e rfl rfl (fun K1 hK1 => ?_)
                          apply Exists.intro
                          refine And.intro (fun wx hx => ?_) ?_
                          · go_simp
                            try rfl
                          go_simp
                          refine hK1 _ ?_
                          clear hK1 K1
                          refine wpPre_e rfl rfl (fun K1 hK1 => ?_)
                          apply Exists.intro
                          refine And.intro (fun wx hx => ?_) ?_
                          · have e0 := below_fact hx rfl d2
                            have e1 := below_fact hx rfl x4
                            have e2 := below_fact hx rfl c1k
                            have e3 := below_fact hx rfl c2k
                            go_simp
                            try rfl
                          go_simp
                          refine hK1 _ ?_
                          clear hK1 K1
                          refine wpPre_e rfl rfl (fun K1 hK1 => ?_)
                          apply Exists.intro
                          refine And.intro (fun wx hx => ?_) ?_
                          · go_simp
                            try rfl
                          go_simp
                          refine hK1 _ ?_
                          clear hK1 K1
                          refine wpPre_e rfl rfl (fun K1 hK1 => ?_)
                          apply Exists.intro
                          refine And.intro (fun wx hx => ?_) ?_
                          · go_simp
                            try rfl
                          go_simp
                          refine hK1 _ ?_
                          clear hK1 K1
                          refine wpPre_i rfl (fun K1 hK1 => ?_)
                          rw [if_pos (by go_simp)]
                          apply Exists.intro
                          refine And.intro (fun wx hx => ?_) ?_
                          · go_simp
                            try rfl
                          go_simp
                          refine hK1 _ ?_
                          clear hK1 K1
                          refine wpPre_i rfl (fun K1 hK1 => ?_)
                          rw [if_pos (by go_simp)]
                          apply Exists.intro
                          refine And.intro (fun wx hx => ?_) ?_
                          · go_simp
                            try rfl
                          go_simp
                          refine hK1 _ ?_
                          clear hK1 K1
                          refine wpPre_e rfl rfl (fun K1 hK1 => ?_)
                          apply Exists.intro
                          refine And.intro (fun wx hx => ?_) ?_
                          · go_simp
                            try rfl
                          go_simp
                          refine hK1 _ ?_
                          clear hK1 K1
                          refine wpPre_e rfl rfl (fun K1 hK1 => ?_)
                          apply Exists.intro
                          refine And.intro (fun wx hx => ?_) ?_
                          · go_simp
                            try rfl
                          go_simp
                          refine hK1 _ ?_
                          clear hK1 K1
                          refine wpPre_i rfl (fun K1 hK1 => ?_)
                          rw [if_pos (by go_simp)]
                          apply Exists.intro
                          refine And.intro (fun wx hx => ?_) ?_
                          · go_simp
                            try rfl
                          go_simp
                          refine hK1 _ ?_
                          clear hK1 K1
                          refine wpPre_i rfl (fun K1 hK1 => ?_)
                          rw [if_pos (by go_simp)]
                          apply Exists.intro
                          refine And.intro (fun wx hx => ?_) ?_
                          · go_simp
                            try rfl
                          go_simp
                          refine hK1 _ ?_
                          clear hK1 K1
                          refine wpPre_i rfl (fun K1 hK1 => ?_)
                          rw [if_pos (by go_simp)]
                          apply Exists.intro
                          refine And.intro (fun wx hx => ?_) ?_
                          · go_simp
                            try rfl
                          go_simp
                          refine hK1 _ ?_
                          clear hK1 K1
                          refine wpPre_i rfl (fun K1 hK1 => ?_)
                          rw [if_pos (by go_simp)]
                          apply Exists.intro
                          refine And.intro (fun wx hx => ?_) ?_
                          · go_simp
                            try rfl
                          go_simp
                          refine hK1 _ ?_
                          clear hK1 K1
                          refine wpPre_i rfl (fun K1 hK1 => ?_)
                          rw [if_pos (by go_simp)]
                          apply Exists.intro
                          refine And.intro (fun wx hx => ?_) ?_
                          · have e0 := below_fact hx rfl d2
                            have e1 := below_fact hx rfl x4
                            have e2 := below_fact hx rfl c1k
                            have e3 := below_fact hx rfl c2k
                            go_simp
                            try rfl
                          go_simp
                          refine hK1 _ ?_
                          clear hK1 K1
                          refine wpPre_i rfl (fun K1 hK1 => ?_)
                          rw [if_pos (by go_simp)]
                          apply Exists.intro
                          refine And.intro (fun wx hx => ?_) ?_
                          · go_simp
                            try rfl
                          go_simp
                          refine hK1 _ ?_
                          clear hK1 K1
                          refine wpPre_i rfl (fun K1 hK1 => ?_)
                          rw [if_pos (by go_simp)]
                          apply Exists.intro
                          refine And.intro (fun wx hx => ?_) ?_
                          · go_simp
                            try rfl
                          go_simp
                          refine hK1 _ ?_
                          clear hK1 K1
                          refine wpPre_i rfl (fun K1 hK1 => ?_)
                          rw [if_pos (by go_simp)]
                          apply Exists.intro
                          refine And.intro (fun wx hx => ?_) ?_
                          · have e0 := below_fact hx rfl d2
                            have e1 := below_fact hx rfl x4
                            have e2 := below_fact hx rfl c1k
                            have e3 := below_fact hx rfl c2k
                            go_simp
                            try rfl
                          go_simp
                          refine hK1 _ ?_
                          clear hK1 K1
                          refine wpPre_i rfl (fun K1 hK1 => ?_)
                          rw [if_pos (by go_simp)]
                          apply Exists.intro
                          refine And.intro (fun wx hx => ?_) ?_
                          · go_simp
                            try rfl
                          go_simp
                          refine hK1 _ ?_
                          clear hK1 K1
                          refine wpPre_i rfl (fun K1 hK1 => ?_)
                          rw [if_pos (by go_simp)]
                          apply Exists.intro
                          refine And.intro (fun wx hx => ?_) ?_
                          · go_simp
                            try rfl
                          go_simp
                          refine hK1 _ ?_
                          clear hK1 K1
                          refine wpPre_i rfl (fun K1 hK1 => ?_)
                          rw [if_pos (by go_simp)]
                          apply Exists.intro
                          refine And.intro (fun wx hx => ?_) ?_
                          · go_simp
                            try rfl
                          go_simp
                          refine hK1 _ ?_
                          clear hK1 K1
                          refine wpPre_i rfl (fun K1 hK1 => ?_)
                          rw [if_pos (by go_simp)]
                          apply Exists.intro
                          refine And.intro (fun wx hx => ?_) ?_
                          · go_simp
                            try rfl
                          go_simp
                          refine hK1 _ ?_
                          clear hK1 K1
                          refine wpPre_i rfl (fun K1 hK1 => ?_)
                          rw [if_pos (by go_simp)]
                          apply Exists.intro
                          refine And.intro (fun wx hx => ?_) ?_
                          · have e0 := below_fact hx rfl d2
                            have e1 := below_fact hx rfl x4
                            have e2 := below_fact hx rfl c1k
                            have e3 := below_fact hx rfl c2k
                            go_simp
                            try rfl
                          go_simp
                          refine hK1 _ ?_
                          clear hK1 K1
                          refine wpPre_i rfl (fun K1 hK1 => ?_)
                          rw [if_pos (by go_simp)]
                          apply Exists.intro
                          refine And.intro (fun wx hx => ?_) ?_
                          · go_simp
                            try rfl
                          go_simp
                          refine hK1 _ ?_
                          clear hK1 K1
                          refine wpPre_i rfl (fun K1 hK1 => ?_)
                          rw [if_pos (by go_simp)]
                          apply Exists.intro
                          refine And.intro (fun wx hx => ?_) ?_
                          · go_simp
                            try rfl
                          go_simp
                          refine hK1 _ ?_
                          clear hK1 K1
                          refine wpPre_i rfl (fun K1 hK1 => ?_)
                          rw [if_pos (by go_simp)]
                          apply Exists.intro
                          refine And.intro (fun wx hx => ?_) ?_
                          · have e0 := below_fact hx rfl d2
                            have e1 := below_fact hx rfl x4
                            have e2 := below_fact hx rfl c1k
                            have e3 := below_fact hx rfl c2k
                            go_simp
                            try rfl
                          go_simp
                          refine hK1 _ ?_
                          clear hK1 K1
                          refine wpPre_i rfl (fun K1 hK1 => ?_)
                          rw [if_pos (by go_simp)]
                          apply Exists.intro
                          refine And.intro (fun wx hx => ?_) ?_
                          · go_simp
                            try rfl
                          go_simp
                          refine hK1 _ ?_
                          clear hK1 K1
                          refine wpPre_e rfl rfl (fun K1 hK1 => ?_)
                          apply Exists.intro
                          refine And.intro (fun wx hx => ?_) ?_
                          · go_simp
                            try rfl
                          go_simp
                          refine hK1 _ ?_
                          clear hK1 K1
                          refine wpPre_nil ?_
                          refine wpStg_nil ?_
                          go_wp2_with fail
                          rw [← HI2.out]
                          refine HEr.out.mono ?_
                          rintro x w7 ⟨rfl, hw7⟩
                          subst w7
                          go_wp2
                          go_roundw
                          case rel => exact ⟨j + 1, gj.K.length, by omega, by go_num, by go_num, HF.out⟩
                          case measure => simp [intOf]; omega
                        · rw [hb] at hle
                          have hle' : (Op.bytesLess key.toList prev.toList || key.toList == prev.toList) = false := hle
                          have HRn : Hid (riseR (walkR Fi (txL it2)) (j + 1) g1 (B.drop p1) = bindS (walkR Fi (txL it2) ⟨gj.N, gj.K ++ [key], gj.V⟩) (fun g2 => retS (g2, some key)) (B.drop p2)) := by
                            refine (bind_get HRj.out).trans ?_
                            rw [← hR]
                            refine bind_get ?_
                            show riseS kj (B.drop pj) = _
                            rw [hkj]
                            unfold riseS
                            rw [bind_get hk9]
                            simp only
                            rw [if_pos hb]
                            rfl
                          clear hle hb hk9 HcK hkj hlK hM6
                          go_wp2_with fail
                          refine wp_region_calmD 30 (fun wx => Below w6.heap.size w6 wx) [(0, true), (1, true), (2, true), (3, false), (4, true), (5, true), (6, true), (7, true), (8, true), (9, true), (10, true), (11, true), (12, true), (13, true), (14, false), (15, true), (16, true), (17, false), (18, true), (19, true), (20, true), (21, true), (22, false), (23, true), (24, true), (25, false), (26, true), (27, true)] [] (by kernel_rfl) (by kernel_rfl) (Below.refl _ _).drew ?_
                          refine wpPre_e rfl rfl (fun K1 hK1 => ?_)
                          apply Exists.intro
                          refine And.intro (fun wx hx => ?_) ?_
                          · go_simp
                            try rfl
                          go_simp
                          refine hK1 _ ?_
                          clear hK1 K1
                          refine wpPre_e rfl rfl (fun K1 hK1 => ?_)
                          apply Exists.intro
                          refine And.intro (fun wx hx => ?_) ?_
                          · go_simp
                            try rfl
                          go_simp
                          refine hK1 _ ?_
                          clear hK1 K1
                          refine wpPre_e rfl rfl (fun K1 hK1 => ?_)
                          apply Exists.intro
                          refine And.intro (fun wx hx => ?_) ?_
                          · go_simp
                            try rfl
                          go_simp
                          refine hK1 _ ?_
                          clear hK1 K1
                          refine wpPre_e rfl rfl (fun K1 hK1 => ?_)
                          apply Exists.intro
                          refine And.intro (fun wx hx => ?_) ?_
                          · have e0 := below_fact hx rfl d2
                            have e1 := below_fact hx rfl x4
                            have e2 := below_fact hx rfl c1k
                            have e3 := below_fact hx rfl c2k
                            go_simp
                            try rfl
                          go_simp
                          refine hK1 _ ?_
                          clear hK1 K1
                          refine wpPre_e rfl rfl (fun K1 hK1 => ?_)
                          apply Exists.intro
                          refine And.intro (fun wx hx => ?_) ?_
                          · go_simp
                            try rfl
                          go_simp
                          refine hK1 _ ?_
                          clear hK1 K1
                          refine wpPre_e rfl rfl (fun K1 hK1 => ?_)
                          apply Exists.intro
                          refine And.intro (fun wx hx => ?_) ?_
                          · go_simp
                            try rfl
                          go_simp
                          refine hK1 _ ?_
                          clear hK1 K1
                          refine wpPre_i rfl (fun K1 hK1 => ?_)
                          rw [if_pos (by go_simp)]
                          apply Exists.intro
                          refine And.intro (fun wx hx => ?_) ?_
                          · go_simp
                            try rfl
                          go_simp
                          refine hK1 _ ?_
                          clear hK1 K1
                          refine wpPre_i rfl (fun K1 hK1 => ?_)
                          rw [if_pos (by go_simp)]
                          apply Exists.intro
                          refine And.intro (fun wx hx => ?_) ?_
                          · go_simp
                            try rfl
                          go_simp
                          refine hK1 _ ?_
                          clear hK1 K1
                          refine wpPre_e rfl rfl (fun K1 hK1 => ?_)
                          apply Exists.intro
                          refine And.intro (fun wx hx => ?_) ?_
                          · go_simp
                            try rfl
                          go_simp
                          refine hK1 _ ?_
                          clear hK1 K1
                          refine wpPre_e rfl rfl (fun K1 hK1 => ?_)
                          apply Exists.intro
                          refine And.intro (fun wx hx => ?_) ?_
                          · go_simp
                            try rfl
                          go_simp
                          refine hK1 _ ?_
                          clear hK1 K1
                          refine wpPre_i rfl (fun K1 hK1 => ?_)
                          rw [if_pos (by go_simp)]
                          apply Exists.intro
                          refine And.intro (fun wx hx => ?_) ?_
                          · go_simp
                            try rfl
                          go_simp
                          refine hK1 _ ?_
                          clear hK1 K1
                          refine wpPre_i rfl (fun K1 hK1 => ?_)
                          rw [if_pos (by go_simp)]
                          apply Exists.intro
                          refine And.intro (fun wx hx => ?_) ?_
                          · go_simp
                            try rfl
                          go_simp
                          refine hK1 _ ?_
                          clear hK1 K1
                          refine wpPre_i rfl (fun K1 hK1 => ?_)
                          rw [if_pos (by go_simp)]
                          apply Exists.intro
                          refine And.intro (fun wx hx => ?_) ?_
                          · go_simp
                            try rfl
                          go_simp
                          refine hK1 _ ?_
                          clear hK1 K1
                          refine wpPre_i rfl (fun K1 hK1 => ?_)
                          rw [if_pos (by go_simp)]
                          apply Exists.intro
                          refine And.intro (fun wx hx => ?_) ?_
                          · go_simp
                            try rfl
                          go_simp
                          refine hK1 _ ?_
                          clear hK1 K1
                          refine wpPre_i rfl (fun K1 hK1 => ?_)
                          rw [if_pos (by go_simp)]
                          apply Exists.intro
                          refine And.intro (fun wx hx => ?_) ?_
                          · have e0 := below_fact hx rfl d2
                            have e1 := below_fact hx rfl x4
                            have e2 := below_fact hx rfl c1k
                            have e3 := below_fact hx rfl c2k
                            go_simp
                            try rfl
                          go_simp
                          refine hK1 _ ?_
                          clear hK1 K1
                          refine wpPre_i rfl (fun K1 hK1 => ?_)
                          rw [if_pos (by go_simp)]
                          apply Exists.intro
                          refine And.intro (fun wx hx => ?_) ?_
                          · go_simp
                            try rfl
                          go_simp
                          refine hK1 _ ?_
                          clear hK1 K1
                          refine wpPre_i rfl (fun K1 hK1 => ?_)
                          rw [if_pos (by go_simp)]
                          apply Exists.intro
                          refine And.intro (fun wx hx => ?_) ?_
                          · go_simp
                            try rfl
                          go_simp
                          refine hK1 _ ?_
                          clear hK1 K1
                          refine wpPre_i rfl (fun K1 hK1 => ?_)
                          rw [if_pos (by go_simp)]
                          apply Exists.intro
                          refine And.intro (fun wx hx => ?_) ?_
                          · have e0 := below_fact hx rfl d2
                            have e1 := below_fact hx rfl x4
                            have e2 := below_fact hx rfl c1k
                            have e3 := below_fact hx rfl c2k
                            go_simp
                            try rfl
                          go_simp
                          refine hK1 _ ?_
                          clear hK1 K1
                          refine wpPre_i rfl (fun K1 hK1 => ?_)
                          rw [if_pos (by go_simp)]
                          apply Exists.intro
                          refine And.intro (fun wx hx => ?_) ?_
                          · go_simp
                            try rfl
                          go_simp
                          refine hK1 _ ?_
                          clear hK1 K1
                          refine wpPre_i rfl (fun K1 hK1 => ?_)
                          rw [if_pos (by go_simp)]
                          apply Exists.intro
                          refine And.intro (fun wx hx => ?_) ?_
                          · go_simp
                            try rfl
                          go_simp
                          refine hK1 _ ?_
                          clear hK1 K1
                          refine wpPre_i rfl (fun K1 hK1 => ?_)
                          rw [if_pos (by go_simp)]
                          apply Exists.intro
                          refine And.intro (fun wx hx => ?_) ?_
                          · go_simp
                            try rfl
                          go_simp
                          refine hK1 _ ?_
                          clear hK1 K1
                          refine wpPre_i rfl (fun K1 hK1 => ?_)
                          rw [if_pos (by go_simp)]
                          apply Exists.intro
                          refine And.intro (fun wx hx => ?_) ?_
                          · go_simp
                            try rfl
                          go_simp
                          refine hK1 _ ?_
                          clear hK1 K1
                          refine wpPre_i rfl (fun K1 hK1 => ?_)
                          rw [if_pos (by go_simp)]
                          apply Exists.intro
                          refine And.intro (fun wx hx => ?_) ?_
                          · have e0 := below_fact hx rfl d2
                            have e1 := below_fact hx rfl x4
                            have e2 := below_fact hx rfl c1k
                            have e3 := below_fact hx rfl c2k
                            go_simp
                            try rfl
                          go_simp
                          refine hK1 _ ?_
                          clear hK1 K1
                          refine wpPre_i rfl (fun K1 hK1 => ?_)
                          rw [if_pos (by go_simp)]
                          apply Exists.intro
                          refine And.intro (fun wx hx => ?_) ?_
                          · go_simp
                            try rfl
                          go_simp
                          refine hK1 _ ?_
                          clear hK1 K1
                          refine wpPre_i rfl (fun K1 hK1 => ?_)
                          rw [if_pos (by go_simp)]
                          apply Exists.intro
                          refine And.intro (fun wx hx => ?_) ?_
                          · go_simp
                            try rfl
                          go_simp
                          refine hK1 _ ?_
                          clear hK1 K1
                          refine wpPre_i rfl (fun K1 hK1 => ?_)
                          rw [if_pos (by go_simp)]
                          apply Exists.intro
                          refine And.intro (fun wx hx => ?_) ?_
                          · have e0 := below_fact hx rfl d2
                            have e1 := below_fact hx rfl x4
                            have e2 := below_fact hx rfl c1k
                            have e3 := below_fact hx rfl c2k
                            go_simp
                            try rfl
                          go_simp
                          refine hK1 _ ?_
                          clear hK1 K1
                          refine wpPre_i rfl (fun K1 hK1 => ?_)
                          rw [if_pos (by go_simp)]
                          apply Exists.intro
                          refine And.intro (fun wx hx => ?_) ?_
                          · go_simp
                            try rfl
                          go_simp
                          refine hK1 _ ?_
                          clear hK1 K1
                          refine wpPre_e rfl rfl (fun K1 hK1 => ?_)
                          apply Exists.intro
                          refine And.intro (fun wx hx => ?_) ?_
                          · go_simp
                            try rfl
                          go_simp
                          refine hK1 _ ?_
                          clear hK1 K1
                          refine wpPre_nil ?_
                          refine wpStg_nil ?_
                          have hne3 : walkR Fi (txL it2) ⟨gj.N, gj.K ++ [key], gj.V⟩ (B.drop p2) ≠ .error 999 := fun h9 => HNe.out (by
                            have h10 : riseR (walkR Fi (txL it2)) (j + 1) g1 (B.drop p1) = .error 999 := HRn.out.trans (bind_bad h9)
                            rw [← HWZ.out, bind_bad (bind_bad (riseR_err h10 (by omega)))])
                          have HI3 := hid (IH.out Fi (by omega) it2 hit2s w6.drew ⟨gj.N, gj.K ++ [key], gj.V⟩ p2 (HW6.out.gm.kept (Below.refl _ _).drew) HW6.out.le HW6.out.few (.inl (by omega)) hne3)
                          clear hne3
                          go_wp2_with fail
                          rw [← HI2.out]
                          refine HI3.out.mono ?_
                          rintro x w7 ⟨rfl, hst7⟩
                          clear HI3
                          cases hQ7 : walkR Fi (txL it2) ⟨gj.N, gj.K ++ [key], gj.V⟩ (B.drop p2) with
                          | error k =>
                            obtain ⟨hk0, hwe⟩ := hst7.2 k hQ7
                            have HF : Hid (InC w0 rb (.slice bp B.length bc) B p1 (walkR Fi (txL it2)) g1 Z w7 (j + 1) gj.K.length) := .inr ⟨k, hk0, hwe, by
                              have h10 : riseR (walkR Fi (txL it2)) (j + 1) g1 (B.drop p1) = .error k := HRn.out.trans (bind_bad hQ7)
                              rw [← HWZ.out, bind_bad (bind_bad (riseR_err h10 (by omega)))]⟩
                            clear hst7 hQ7 hwe
                            go_wp2
                            go_roundw
                            case rel => exact ⟨j + 1, gj.K.length, by omega, by go_num, by go_num, HF.out⟩
                            case measure => simp [intOf]; omega
                          | ok z7 =>
                            obtain ⟨g7, R7⟩ := z7
                            obtain ⟨p7, hp7, hR7, hws7⟩ := hst7.1 g7 R7 hQ7
                            have HF : Hid (InC w0 rb (.slice bp B.length bc) B p1 (walkR Fi (txL it2)) g1 Z w7 (j + 1) gj.K.length) := .inl ⟨g7, p7, some key, ⟨hws7.gm, hws7.le, hws7.few, by have := hws7.ge; omega⟩, by
                              have h10 : riseR (walkR Fi (txL it2)) (j + 1) g1 (B.drop p1) = .ok ((g7, some key), R7) := HRn.out.trans (bind_get hQ7)
                              rw [← hR7]; exact h10, fun h => absurd h (by omega), fun _ => ⟨key, rfl, by
                                obtain ⟨N8, K8, V8, e1, e2, e3⟩ := walk_ext _ _ _ _ _ _ hQ7
                                rw [e2]
                                simp⟩⟩
                            clear hst7 hQ7 hws7 hR7
                            go_wp2
                            go_roundw
                            case rel => exact ⟨j + 1, gj.K.length, by omega, by go_num, by go_num, HF.out⟩
                            case measure => simp [intOf]; omega
                      · have HRn : Hid (riseR (walkR Fi (txL it2)) (j + 1) g1 (B.drop p1) = bindS (walkR Fi (txL it2) ⟨gj.N, gj.K ++ [key], gj.V⟩) (fun g2 => retS (g2, some key)) (B.drop p2)) := by
                          refine (bind_get HRj.out).trans ?_
                          rw [← hR]
                          refine bind_get ?_
                          show riseS kj (B.drop pj) = _
                          rw [HKj.out.1 (by omega)]
                          unfold riseS
                          rw [bind_get hk9]
                          rfl
                        have hj0b : decide ((0 : Int) < (j : Int)) = false := by simp; omega
                        have hj0c : decide (0 < j) = false := by simp; omega
                        clear hk9 HcK hM6
                        go_wp2_with fail
                        refine wp_region_calmD 30 (fun wx => Below w6.heap.size w6 wx) [(0, true), (1, true), (2, true), (3, false), (4, true), (5, true), (6, true), (7, true), (8, true), (9, true), (10, true), (11, true), (12, true), (13, true), (14, false), (15, true), (16, true), (17, false), (18, true), (19, true), (20, true), (21, true), (22, false), (23, true), (24, true), (25, false), (26, true), (27, true)] [] (by kernel_rfl) (by kernel_rfl) (Below.refl _ _).drew ?_
                        refine wpPre_e rfl rfl (fun K1 hK1 => ?_)
                        apply Exists.intro
                        refine And.intro (fun wx hx => ?_) ?_
                        · go_simp
                          try rfl
                        go_simp
                        refine hK1 _ ?_
                        clear hK1 K1
                        refine wpPre_e rfl rfl (fun K1 hK1 => ?_)
                        apply Exists.intro
                        refine And.intro (fun wx hx => ?_) ?_
                        · go_simp
                          try rfl
                        go_simp
                        refine hK1 _ ?_
                        clear hK1 K1
                        refine wpPre_e rfl rfl (fun K1 hK1 => ?_)
                        apply Exists.intro
                        refine And.intro (fun wx hx => ?_) ?_
                        · go_simp
                          try rfl
                        go_simp
                        refine hK1 _ ?_
                        clear hK1 K1
                        refine wpPre_e rfl rfl (fun K1 hK1 => ?_)
                        apply Exists.intro
                        refine And.intro (fun wx hx => ?_) ?_
                        · have e0 := below_fact hx rfl d2
                          go_simp
                          try rfl
                        go_simp
                        refine hK1 _ ?_
                        clear hK1 K1
                        refine wpPre_e rfl rfl (fun K1 hK1 => ?_)
                        apply Exists.intro
                        refine And.intro (fun wx hx => ?_) ?_
                        · go_simp
                          try rfl
                        go_simp
                        refine hK1 _ ?_
                        clear hK1 K1
                        refine wpPre_e rfl rfl (fun K1 hK1 => ?_)
                        apply Exists.intro
                        refine And.intro (fun wx hx => ?_) ?_
                        · go_simp
                          try rfl
                        go_simp
                        refine hK1 _ ?_
                        clear hK1 K1
                        refine wpPre_i rfl (fun K1 hK1 => ?_)
                        rw [if_pos (by go_simp)]
                        apply Exists.intro
                        refine And.intro (fun wx hx => ?_) ?_
                        · go_simp
                          try rfl
                        go_simp
                        refine hK1 _ ?_
                        clear hK1 K1
                        refine wpPre_i rfl (fun K1 hK1 => ?_)
                        rw [if_pos (by go_simp)]
                        apply Exists.intro
                        refine And.intro (fun wx hx => ?_) ?_
                        · go_simp
                          try rfl
                        go_simp
                        refine hK1 _ ?_
                        clear hK1 K1
                        refine wpPre_e rfl rfl (fun K1 hK1 => ?_)
                        apply Exists.intro
                        refine And.intro (fun wx hx => ?_) ?_
                        · go_simp
                          try rfl
                        go_simp
                        refine hK1 _ ?_
                        clear hK1 K1
                        refine wpPre_e rfl rfl (fun K1 hK1 => ?_)
                        apply Exists.intro
                        refine And.intro (fun wx hx => ?_) ?_
                        · go_simp
                          try rfl
                        go_simp
                        refine hK1 _ ?_
                        clear hK1 K1
                        refine wpPre_i rfl (fun K1 hK1 => ?_)
                        rw [if_neg (by go_simp)]
                        go_simp
                        refine hK1 _ ?_
                        clear hK1 K1
                        refine wpPre_i rfl (fun K1 hK1 => ?_)
                        rw [if_neg (by go_simp)]
                        go_simp
                        refine hK1 _ ?_
                        clear hK1 K1
                        refine wpPre_i rfl (fun K1 hK1 => ?_)
                        rw [if_neg (by go_simp)]
                        go_simp
                        refine hK1 _ ?_
                        clear hK1 K1
                        refine wpPre_i rfl (fun K1 hK1 => ?_)
                        rw [if_neg (by go_simp)]
                        go_simp
                        refine hK1 _ ?_
                        clear hK1 K1
                        refine wpPre_i rfl (fun K1 hK1 => ?_)
                        rw [if_neg (by go_simp)]
                        go_simp
                        refine hK1 _ ?_
                        clear hK1 K1
                        refine wpPre_i rfl (fun K1 hK1 => ?_)
                        rw [if_neg (by go_simp)]
                        go_simp
                        refine hK1 _ ?_
                        clear hK1 K1
                        refine wpPre_i rfl (fun K1 hK1 => ?_)
                        rw [if_neg (by go_simp)]
                        go_simp
                        refine hK1 _ ?_
                        clear hK1 K1
                        refine wpPre_i rfl (fun K1 hK1 => ?_)
                        rw [if_neg (by go_simp)]
                        go_simp
                        refine hK1 _ ?_
                        clear hK1 K1
                        refine wpPre_i rfl (fun K1 hK1 => ?_)
                        rw [if_neg (by go_simp)]
                        go_simp
                        refine hK1 _ ?_
                        clear hK1 K1
                        refine wpPre_i rfl (fun K1 hK1 => ?_)
                        rw [if_neg (by go_simp)]
                        go_simp
                        refine hK1 _ ?_
                        clear hK1 K1
                        refine wpPre_i rfl (fun K1 hK1 => ?_)
                        rw [if_neg (by go_simp)]
                        go_simp
                        refine hK1 _ ?_
                        clear hK1 K1
                        refine wpPre_i rfl (fun K1 hK1 => ?_)
                        rw [if_neg (by go_simp)]
                        go_simp
                        refine hK1 _ ?_
                        clear hK1 K1
                        refine wpPre_i rfl (fun K1 hK1 => ?_)
                        rw [if_neg (by go_simp)]
                        go_simp
                        refine hK1 _ ?_
                        clear hK1 K1
                        refine wpPre_i rfl (fun K1 hK1 => ?_)
                        rw [if_neg (by go_simp)]
                        go_simp
                        refine hK1 _ ?_
                        clear hK1 K1
                        refine wpPre_i rfl (fun K1 hK1 => ?_)
                        rw [if_neg (by go_simp)]
                        go_simp
                        refine hK1 _ ?_
                        clear hK1 K1
                        refine wpPre_i rfl (fun K1 hK1 => ?_)
                        rw [if_neg (by go_simp)]
                        go_simp
                        refine hK1 _ ?_
                        clear hK1 K1
                        refine wpPre_i rfl (fun K1 hK1 => ?_)
                        rw [if_neg (by go_simp)]
                        go_simp
                        refine hK1 _ ?_
                        clear hK1 K1
                        refine wpPre_e rfl rfl (fun K1 hK1 => ?_)
                        apply Exists.intro
                        refine And.intro (fun wx hx => ?_) ?_
                        · go_simp
                          try rfl
                        go_simp
                        refine hK1 _ ?_
                        clear hK1 K1
                        refine wpPre_nil ?_
                        refine wpStg_nil ?_
                        have hne3 : walkR Fi (txL it2) ⟨gj.N, gj.K ++ [key], gj.V⟩ (B.drop p2) ≠ .error 999 := fun h9 => HNe.out (by
                          have h10 : riseR (walkR Fi (txL it2)) (j + 1) g1 (B.drop p1) = .error 999 := HRn.out.trans (bind_bad h9)
                          rw [← HWZ.out, bind_bad (bind_bad (riseR_err h10 (by omega)))])
                        have HI3 := hid (IH.out Fi (by omega) it2 hit2s w6.drew ⟨gj.N, gj.K ++ [key], gj.V⟩ p2 (HW6.out.gm.kept (Below.refl _ _).drew) HW6.out.le HW6.out.few (.inl (by omega)) hne3)
                        clear hne3
                        go_wp2_with fail
                        rw [← HI2.out]
                        refine HI3.out.mono ?_
                        rintro x w7 ⟨rfl, hst7⟩
                        clear HI3
                        cases hQ7 : walkR Fi (txL it2) ⟨gj.N, gj.K ++ [key], gj.V⟩ (B.drop p2) with
                        | error k =>
                          obtain ⟨hk0, hwe⟩ := hst7.2 k hQ7
                          have HF : Hid (InC w0 rb (.slice bp B.length bc) B p1 (walkR Fi (txL it2)) g1 Z w7 (j + 1) gj.K.length) := .inr ⟨k, hk0, hwe, by
                            have h10 : riseR (walkR Fi (txL it2)) (j + 1) g1 (B.drop p1) = .error k := HRn.out.trans (bind_bad hQ7)
                            rw [← HWZ.out, bind_bad (bind_bad (riseR_err h10 (by omega)))]⟩
                          clear hst7 hQ7 hwe
                          go_wp2
                          go_roundw
                          case rel => exact ⟨j + 1, gj.K.length, by omega, by go_num, by go_num, HF.out⟩
                          case measure => simp [intOf]; omega
                        | ok z7 =>
                          obtain ⟨g7, R7⟩ := z7
                          obtain ⟨p7, hp7, hR7, hws7⟩ := hst7.1 g7 R7 hQ7
                          have HF : Hid (InC w0 rb (.slice bp B.length bc) B p1 (walkR Fi (txL it2)) g1 Z w7 (j + 1) gj.K.length) := .inl ⟨g7, p7, some key, ⟨hws7.gm, hws7.le, hws7.few, by have := hws7.ge; omega⟩, by
                            have h10 : riseR (walkR Fi (txL it2)) (j + 1) g1 (B.drop p1) = .ok ((g7, some key), R7) := HRn.out.trans (bind_get hQ7)
                            rw [← hR7]; exact h10, fun h => absurd h (by omega), fun _ => ⟨key, rfl, by
                              obtain ⟨N8, K8, V8, e1, e2, e3⟩ := walk_ext _ _ _ _ _ _ hQ7
                              rw [e2]
                              simp⟩⟩
                          clear hst7 hQ7 hws7 hR7
                          go_wp2
                          go_roundw
                          case rel => exact ⟨j + 1, gj.K.length, by omega, by go_num, by go_num, HF.out⟩
                          case measure => simp [intOf]; omega
                  · obtain rfl : j = n := by omega
                    have hjn' : ¬ (j : Int) < (j : Int) := by omega
                    have HF : Hid (OutR w0 rb (.slice bp B.length bc) B p F f Z wr (i + m + 1)) := .inl ⟨Fi, gj, pj, by omega, ⟨HJ.out.gm, HJ.out.le, HJ.out.few, by omega⟩, .inl (by omega), by rw [← HWZ.out, bind_get (bind_get HRj.out), Nat.add_assoc]⟩
                    clear HJ HRj HKj
                    go_wp2
                    go_roundw
                    case rel => exact ⟨i + m + 1, by omega, by go_num, HF.out⟩
                    case measure => simp [intOf]; omega
                · obtain ⟨pa, ge, hge⟩ := hwe
                  have d2 := hge.cell2
                  have he' : ((e : Int) == 0) = false := by simpa using he0
                  have HF : Hid (OutR w0 rb (.slice bp B.length bc) B p F f Z wr (i + m + 1)) := .inr ⟨e, he0, ⟨pa, ge, hge⟩, hze⟩
                  clear hge he0 hze
                  by_cases hjn : (j : Int) < (n : Int)
                  · go_wp2
                    go_roundw
                    case rel => exact ⟨i + m + 1, by omega, by go_num, HF.out⟩
                    case measure => simp [intOf]; omega
                  · go_wp2
                    go_roundw
                    case rel => exact ⟨i + m + 1, by omega, by go_num, HF.out⟩
                    case measure => simp [intOf]; omega

        · have k91 : ((c : Int) != 91) = true := by simp; omega
          have k60 : ((c : Int) != 60) = true := by simp; omega
          rw [walkR_piece h91] at hwz
          have HWZ := hid hwz
          have HP := hid (refPiece_any HBB.out HW.out.gm HW.out.le HW.out.few c hcl h118)
          clear hwz h91 h118 htx
          go_wp2_with fail
          refine HP.out.mono ?_
          rintro x w2 ⟨rfl, hst⟩
          clear HP
          cases hQ : pieceR c gi (B.drop pi) with
          | error k =>
            obtain ⟨hk0, pa, g2, hG⟩ := hst.2 k hQ
            have HF : Hid (OutR w0 rb (.slice bp B.length bc) B p F f Z w2 (i + 1)) := .inr ⟨k, hk0, ⟨pa, g2, hG⟩, by rw [← HWZ.out, bind_bad hQ]⟩
            clear hst hQ hG
            go_wp2
            go_roundw
            case rel => exact ⟨i + 1, by omega, by go_num, HF.out⟩
            case measure => simp [intOf]; omega
          | ok z =>
            obtain ⟨g1, R⟩ := z
            obtain ⟨p1, hp1, hR, hlt1, hG⟩ := hst.1 g1 R hQ
            have HF : Hid (OutR w0 rb (.slice bp B.length bc) B p F f Z w2 (i + 1)) := .inl ⟨Fi, g1, p1, by omega, ⟨hG, hp1, piece_few hQ HW.out.few hlt1, by have := HW.out.ge; omega⟩, .inl (by omega), by rw [← HWZ.out, bind_get hQ, hR]⟩
            clear hst hQ hG hR
            go_wp2
            go_roundw
            case rel => exact ⟨i + 1, by omega, by go_num, HF.out⟩
            case measure => simp [intOf]; omega
      · obtain rfl : i = f.size := by omega
        have hlt' : ¬ (f.size : Int) < (f.size : Int) := by omega
        have HZk : Hid (Z = .ok (gi, B.drop pi)) := by
          unfold Hid
          rw [← hwz, List.drop_eq_nil_of_le (by rw [txL_len]; exact Nat.le_refl _), walkR_nil]
          rfl
        clear hwz h118
        go_wp2
        refine bodyPost_end (results_none rfl _ _ _) rfl ⟨rfl, fun y R hy => (by rw [HZ.out, HZk.out] at hy; cases hy; exact ⟨pi, HW.out.le, rfl, HW.out⟩), fun k hk => (by rw [HZ.out, HZk.out] at hk; cases hk)⟩
    · obtain ⟨pa, ge, hge⟩ := hwe
      have d2 := hge.cell2
      have he' : ((e : Int) == 0) = false := by simpa using he0
      have HE := hid (And.intro he0 (And.intro hge hze))
      clear hge he0 hze
      by_cases hlt : (i : Int) < (f.size : Int)
      · go_wp2
        refine bodyPost_end (results_none rfl _ _ _) rfl ⟨rfl, fun y R hy => (by rw [HZ.out, HE.out.2.2] at hy; cases hy), fun k hk => (by rw [HZ.out, HE.out.2.2] at hk; cases hk; exact ⟨HE.out.1, _, _, HE.out.2.1⟩)⟩
      · go_wp2
        refine bodyPost_end (results_none rfl _ _ _) rfl ⟨rfl, fun y R hy => (by rw [HZ.out, HE.out.2.2] at hy; cases hy), fun k hk => (by rw [HZ.out, HE.out.2.2] at hk; cases hk; exact ⟨HE.out.1, _, _, HE.out.2.1⟩)⟩
end Go.Proofs.Ytikfpoabaaiegaa
