import Derived.RegionDies
import Derived.Test.YtikfpoabaaiegaaPack3
import Derived.Test.YtikfpoabaaiegaaPack4
namespace Go.Proofs.Ytikfpoabaaiegaa
open Go.RowKit
set_option maxRecDepth 8000

theorem Byts.but {w w' : World} {S X : Nat → Prop} {p : Option Addr} {n c : Nat} {f : Nat → Int} (h : Byts w S p n c f) (hb : But X w w') (hx : ∀ b, S b → ¬ X b) : Byts w' S p n c f := h.kept hb.size fun b hS hl => hb.block b hl (hx b hS)
theorem conv_at {w : World} {ad : Addr} {c : Nat} {zs : List Int} (h : ∀ j u, (zs.map (Value.int .u8))[j]? = some u → w.cell? (ad.add j) = some u) : (convert 47 9 (.slice (some ad) zs.length c)).run Try.prog w = .ok (.string (strOf zs)) w := by
  rw [run_convert_bytes_string (P := Try.prog) w 47 9 5 _ _ _ Try.underlying47 Try.underlying5 Try.underlying9]
  have hl := run_loadCells_list (P := Try.prog) (w := w) ad (zs.map (Value.int .u8)) h
  rw [List.length_map] at hl
  exact run_bytesToString w ad zs.length c zs hl
theorem dpost_ok {w W2 Wf : World} {db : Nat} {p : Option Addr} {n c : Nat} {R : DR} {t u : VT} {a' q' : Nat} (hr : R = .ok (t, a', q')) (hal : VT.Alike t u) (hin : VT.In W2 (fun b => w.heap.size + 1 ≤ b) u) (hb : Box W2 db #[.slice p n c, .int .i64 (a' : Int), .int .i64 (q' : Int)] 239) (hk : But (fun y => y = db) w W2) (hf : But (fun y => y = w.heap.size) W2 Wf) (hdb : db < w.heap.size) : DPost w db p n c R (.returned u.val) Wf := by
  refine ⟨fun t2 a2 q2 h => ?_, fun e h => by rw [hr] at h; cases h⟩
  rw [hr] at h
  cases h
  refine ⟨u, rfl, hal, (hin.but hf fun b hb2 _ e => by omega).mono fun b hb2 _ => by omega, hb.but hf (by omega), ⟨hf.os.trans hk.os, hf.tape.trans hk.tape, hf.output.trans hk.output, Nat.le_trans hk.size hf.size, fun b hb2 hx => (hf.block b (Nat.lt_of_lt_of_le hb2 hk.size) (by omega)).trans (hk.block b hb2 hx)⟩⟩
theorem small_in (w : World) (S : Nat → Prop) (k i : Int) (s : ByteArray) (h1 : 0 ≤ k) (h2 : k ≤ 3) (h3 : -9223372036854775808 ≤ i) (h4 : i ≤ 9223372036854775807) (h5 : s.size ≤ 140737488355328) : VT.In w S (.mk k i s 0 none 0 (fun _ => .nil)) :=
  ⟨⟨by show _ ≤ k; omega, by show k ≤ _; omega, h3, h4, h5, Nat.le_refl 0, by show 0 ≤ 140737488355328; omega, Nat.zero_le _, fun _ => ⟨rfl, rfl⟩⟩, fun h => absurd h (by omega), fun j hj => absurd hj (by omega)⟩
theorem unfoldI_fit {u : Nat} (hu : u < 2 ^ 64) : -9223372036854775808 ≤ unfoldI u ∧ unfoldI u ≤ 9223372036854775807 := by unfold unfoldI; split <;> omega
theorem setV_box {w : World} {b : Nat} {a0 a1 a2 a3 : Value} {e : TypeId} (h : Box w b #[a0, a1, a2, a3] e) (x0 x1 x2 x3 : Value) : Box ((((w.setCell ⟨b, 0, none⟩ x0).setCell ⟨b, 1, none⟩ x1).setCell ⟨b, 2, none⟩ x2).setCell ⟨b, 3, none⟩ x3) b #[x0, x1, x2, x3] e := by
  have h1 : Box _ b #[x0, a1, a2, a3] e := h.set 0 x0
  have h2 : Box _ b #[x0, x1, a2, a3] e := h1.set 1 x1
  have h3 : Box _ b #[x0, x1, x2, a3] e := h2.set 2 x2
  have h4 : Box _ b #[x0, x1, x2, x3] e := h3.set 3 x3
  exact h4
theorem strOf_size (zs : List Int) : (strOf zs).size = zs.length := by
  have h : ∀ (l : List Int) (r : ByteArray), (l.foldl (fun r n => r.push (UInt8.ofNat n.toNat)) r).size = r.size + l.length := by
    intro l
    induction l with
    | nil => intro r; rfl
    | cons a l ih => intro r; rw [List.foldl_cons, ih, ByteArray.size_push, List.length_cons]; omega
  rw [strOf, h]
  simp
theorem conv_none (c : Nat) (w : World) : (convert 47 9 (.slice none 0 c)).run Try.prog w = .ok (.string (strOf [])) w := by
  rw [run_convert_bytes_string (P := Try.prog) w 47 9 5 _ _ _ Try.underlying47 Try.underlying5 Try.underlying9]
  rfl
theorem list_push {B rb db sz : Nat} {w w5 w6 : World} {v v6 : Value} {j : Nat} {gf : Nat → VT} {u : VT} {X Z : Array Value} (hO : OwnV (B + 1) w5 v j gf) (hBv : Box w5 B #[.int .i64 3, .int .i64 0, .string ⟨#[]⟩, v] 24) (hBd : Box w5 db X 239) (hBr : Box w5 rb Z 24) (hdb : db < B) (hrb : rb < B) (hk : But (fun y => y = db) w w5) (hwB : w.heap.size ≤ B)
    (hin : VT.In w5 (fun b => sz ≤ b) u) (hsz : B + 1 ≤ sz) (hvs : ∀ b, v.ownBlock = some b → b < sz) (ho : w6.ownsRow (B + 1) 24 4 v6 (j + 1) (((List.range j).flatMap fun j => (gf j).cells) ++ u.cells))
    (hg : (w5.alloc (.cells #[.int .i64 u.kind, .int .i64 u.int, .string u.text, .slice u.p u.n u.c] 24)).grownBy w6 v.ownBlock) (hn : Near (w5.alloc (.cells #[.int .i64 u.kind, .int .i64 u.int, .string u.text, .slice u.p u.n u.c] 24)) v v6) :
    OwnV (B + 1) (w6.setCell ⟨B, 3, none⟩ v6) v6 (j + 1) (fun z => if z < j then gf z else u) ∧ Box (w6.setCell ⟨B, 3, none⟩ v6) B #[.int .i64 3, .int .i64 0, .string ⟨#[]⟩, v6] 24 ∧ Box (w6.setCell ⟨B, 3, none⟩ v6) db X 239 ∧ Box (w6.setCell ⟨B, 3, none⟩ v6) rb Z 24 ∧ But (fun y => y = db) w (w6.setCell ⟨B, 3, none⟩ v6) := by
  have ha : Below w5.heap.size w5 (w5.alloc (.cells #[.int .i64 u.kind, .int .i64 u.int, .string u.text, .slice u.p u.n u.c] 24)) := (Below.refl _ _).alloc (Nat.le_refl _) _
  have hu : VT.In w5 (fun b => B + 1 ≤ b ∧ v.ownBlock ≠ some b) u := hin.mono fun b hb _ => ⟨by omega, fun e => by have := hvs b e; omega⟩
  have hO6 := (hO.below ha).push (hu.below ha) ho hg hn
  have key : ∀ k x e, k < B + 1 → Box w5 k x e → Box w6 k x e := fun k x e hk2 hx => (hx.below ha).kept (hg.block _ (by have := hx.lt; simp; omega) (fun e2 => by have := (hO.own.lt _ e2.symm).1; omega))
  have h1 : Box w6 B #[.int .i64 3, .int .i64 0, .string ⟨#[]⟩, v] 24 := key _ _ _ (by omega) hBv
  refine ⟨hO6.keep (by simp [World.setCell]) fun k hk2 _ => Below.heap_setCell _ _ _ _ (show k ≠ B by omega), h1.set 3 v6, (key _ _ _ (by omega) hBd).kept (Below.heap_setCell _ _ _ _ (show db ≠ B by omega)), (key _ _ _ (by omega) hBr).kept (Below.heap_setCell _ _ _ _ (show rb ≠ B by omega)), ?_⟩
  exact ((hk.alloc _).grown hg fun k hk2 hl => absurd (hO.own.lt k hk2).1 (by omega)).setCell (p := ⟨B, 3, none⟩) (fun h => absurd h (by show ¬ B < w.heap.size; omega)) _
def ItemC (db : Nat) (p : Option Addr) (n c : Nat) (f : Nat → Int) (d : Nat) (g : Nat → Nat → DR) : Prop :=
  ∀ (w : World) (S : Nat → Prop) (a q : Nat), Byts w S p n c f → ¬ S db → Box w db #[.slice p n c, .int .i64 a, .int .i64 q] 239 → a ≤ n → q ≤ 12 →
    Calls Try.prog 160 #[.pointer (some ⟨db, 0, none⟩), .int .i64 (d : Int)] w fun x w' => DPost w db p n c (g a q) x w'

set_option maxHeartbeats 4000000 in
theorem part_step (db : Nat) (p : Option Addr) (n c : Nat) (f : Nat → Int) (d : Nat) (hd : d ≤ 3) (g : Nat → Nat → DR) (hg : d < 3 → ItemC db p n c f (d + 1) g) (hgl : ∀ a q v a' q', g a q = .ok (v, a', q') → a' ≤ n ∧ q' ≤ 12) : ItemC db p n c f d (partS f n g d) := by
  intro w S a q hB hS hb ha hq
  have HY := hid hB
  have HB := hid hb
  have ha0 : Below w.heap.size w (w.alloc (.cells #[.int .i64 0, .int .i64 0, .string ⟨#[]⟩, .slice none 0 0] 24)) := (Below.refl _ _).alloc (Nat.le_refl _) _
  have hbl := hb.lt
  have HN := hid (next_any db p n c a q (w.alloc (.cells #[.int .i64 0, .int .i64 0, .string ⟨#[]⟩, .slice none 0 0] 24)) S f (hB.kept ha0.size fun b _ hl => ha0.block b hl) hS (hb.below ha0) ha)
  have HA0 := hid ha0
  have HR0 := hid (Box.new w #[.int .i64 0, .int .i64 0, .string ⟨#[]⟩, .slice none 0 0] 24)
  generalize hR : partS f n g d a q = R
  have HR := hid hR
  clear hB hb ha0 hR
  go_enter Try.func160, Try.ntmps160
  go_wp2_with fail
  refine HN.out.mono ?_
  intro x w1 hP
  by_cases h : a < n
  · obtain ⟨rfl, hb1, hk1⟩ := hP.1 h
    obtain ⟨hf1, hf2⟩ := HY.out.fit a h
    obtain ⟨K, hK⟩ := Int.eq_ofNat_of_zero_le hf1
    have hr2 := HR.out
    unfold partS at hr2
    rw [if_neg (by omega), hK] at hr2
    simp only [Int.toNat_natCast] at hr2
    have HR2 := hid hr2
    have hkw : But (fun y => y = db) w w1 := (But.ofBelow HA0.out).trans hk1
    have hr1 : Box w1 w.heap.size #[.int .i64 0, .int .i64 0, .string ⟨#[]⟩, .slice none 0 0] 24 := HR0.out.but hk1 (show w.heap.size ≠ db by omega)
    have hb2 : Box (w1.setCell ⟨db, 2, none⟩ (.int .i64 ((q : Int) + 1))) db #[.slice p n c, .int .i64 ((a + 1 : Nat) : Int), .int .i64 ((q + 1 : Nat) : Int)] 239 := by
      have h2 := hb1.set 2 (.int .i64 ((q : Int) + 1))
      simpa using h2
    have hk2 : But (fun y => y = db) w (w1.setCell ⟨db, 2, none⟩ (.int .i64 ((q : Int) + 1))) := hkw.setAt 2 _
    have hr3 : Box (w1.setCell ⟨db, 2, none⟩ (.int .i64 ((q : Int) + 1))) w.heap.size #[.int .i64 0, .int .i64 0, .string ⟨#[]⟩, .slice none 0 0] 24 := hr1.kept (Below.heap_setCell _ _ _ _ (show w.heap.size ≠ db by omega))
    have z0 := hr1.cell 0
    have z1 := hr1.cell 1
    have z2 := hr1.cell 2
    have z3 := hr1.cell 3
    have zf0 := hr1.frozen 0
    have zf1 := hr1.frozen 1
    have zf2 := hr1.frozen 2
    have zf3 := hr1.frozen 3
    have zl := hr1.lt
    simp at z0 z1 z2 z3
    have hne1 : w.heap.size ≠ db := by omega
    have hne2 : db ≠ w.heap.size := by omega
    have x2 := hb1.cell 2
    have f2 := hb1.frozen 2
    have hl1 := hb1.lt
    simp at x2
    have H2 := hid (And.intro hb2 (And.intro hk2 hr3))
    have HFa := fun e => fail_any db (.slice p n c) ((a + 1 : Nat) : Int) ((q + 1 : Nat) : Int) e _ hb2
    have HFa := hid HFa
    clear hP hb1 hk1 HN hr2 hkw hr1 hb2 hk2 hr3 HR0
    rw [hK]
    have hK2 : K < 256 := by omega
    by_cases h12 : 12 < q + 1
    · have hr : R = .error 22 := by have h3 := HR2.out; rw [if_pos h12] at h3; exact h3.symm
      have h12' : (12 : Int) < (q : Int) + 1 := by omega
      have HRe := hid hr
      clear hr
      go_wp2_with fail
      refine (HFa.out _).mono ?_
      rintro x3 w3 ⟨⟨a2, rfl⟩, hw⟩
      subst w3
      exact ⟨rfl, fun t a3 q3 h3 => (by rw [HRe.out] at h3; cases h3), fun e h3 => (by rw [HRe.out] at h3; cases h3; exact ⟨⟨a2, rfl⟩, H2.out.2.1⟩)⟩
    · have h12' : ¬ (12 : Int) < (q : Int) + 1 := by omega
      have h3 := HR2.out
      rw [if_neg h12] at h3
      have HR3 := hid h3
      clear h3 HR2
      by_cases hK3 : 3 < K
      · have hr : R = .error 28 := by have h3 := HR3.out; rw [if_pos hK3] at h3; exact h3.symm
        have hK3' : (3 : Int) < (K : Int) := by omega
        have HRe := hid hr
        clear hr
        go_wp2_with fail
        refine (HFa.out _).mono ?_
        rintro x3 w3 ⟨⟨a2, rfl⟩, hw⟩
        subst w3
        exact ⟨rfl, fun t a3 q3 h3 => (by rw [HRe.out] at h3; cases h3), fun e h3 => (by rw [HRe.out] at h3; cases h3; exact ⟨⟨a2, rfl⟩, H2.out.2.1⟩)⟩
      · have h3 := HR3.out
        rw [if_neg hK3] at h3
        have HR4 := hid h3
        clear h3 HR3
        have hK3' : ¬ (3 : Int) < (K : Int) := by omega
        by_cases h33 : K = 3 ∧ 3 ≤ d
        · obtain ⟨rfl, hd3⟩ := h33
          obtain rfl : d = 3 := by omega
          have hr : R = .error 23 := by have h3 := HR4.out; rw [if_pos ⟨rfl, Nat.le_refl _⟩] at h3; exact h3.symm
          have HRe := hid hr
          clear hr
          go_wp2_with fail
          refine (HFa.out _).mono ?_
          rintro x3 w3 ⟨⟨a2, rfl⟩, hw⟩
          subst w3
          exact ⟨rfl, fun t a3 q3 h3 => (by rw [HRe.out] at h3; cases h3), fun e h3 => (by rw [HRe.out] at h3; cases h3; exact ⟨⟨a2, rfl⟩, H2.out.2.1⟩)⟩
        · have h3 := HR4.out
          rw [if_neg h33] at h3
          have HR5 := hid h3
          clear h3 HR4
          rcases (by omega : K = 0 ∨ K = 1 ∨ K = 2 ∨ K = 3) with rfl | rfl | rfl | rfl
          · have hr : R = .ok (mkN, a + 1, q + 1) := by have h3 := HR5.out; simpa using h3.symm
            have HRe := hid hr
            clear hr
            go_wp2
            have hres := (setV_box H2.out.2.2 (.int .i64 0) (.int .i64 0) (.string ⟨#[]⟩) (.slice none 0 0)).below ((Below.refl _ _).alloc (Nat.le_refl _) (.cells #[.int .i64 0, .int .i64 0, .string ⟨#[]⟩, .slice none 0 0] 24))
            have r0 := hres.cell 0
            have r1 := hres.cell 1
            have r2 := hres.cell 2
            have r3 := hres.cell 3
            simp only [List.getElem?_toArray, List.getElem?_cons_zero, List.getElem?_cons_succ] at r0 r1 r2 r3
            refine bodyPost_ret (v := .agg #[.int .i64 0, .int .i64 0, .string ⟨#[]⟩, .slice none 0 0]) (by simp [results, Try.results160, go_sem, r0, r1, r2, r3]) rfl ?_
            exact dpost_ok HRe.out (VT.Alike.refl mkN) (small_in _ _ 0 0 ⟨#[]⟩ (by omega) (by omega) (by omega) (by omega) (by decide)) H2.out.1 H2.out.2.1 (((((But.one _ w.heap.size).setAt 0 _).setAt 1 _).setAt 2 _).setAt 3 _ |>.alloc _) hbl
          · have h4 := HR5.out
            simp only [show ¬ ((1 : Nat) = 0) by omega, if_false, if_true] at h4
            have HR6 := hid h4
            clear h4 HR5
            have haB : Below _ _ ((w1.setCell ⟨db, 2, none⟩ (.int .i64 ((q : Int) + 1))).alloc (.cells #[.int .i64 1, .int .i64 0, .string ⟨#[]⟩, .slice none 0 0] 24)) := (Below.refl _ _).alloc (Nat.le_refl _) _
            have hvb : Box ((w1.setCell ⟨db, 2, none⟩ (.int .i64 ((q : Int) + 1))).alloc (.cells #[.int .i64 1, .int .i64 0, .string ⟨#[]⟩, .slice none 0 0] 24)) w1.heap.size #[.int .i64 1, .int .i64 0, .string ⟨#[]⟩, .slice none 0 0] 24 := by
              have h5 := Box.new (w1.setCell ⟨db, 2, none⟩ (.int .i64 ((q : Int) + 1))) #[.int .i64 1, .int .i64 0, .string ⟨#[]⟩, .slice none 0 0] 24
              rw [show (w1.setCell ⟨db, 2, none⟩ (.int .i64 ((q : Int) + 1))).heap.size = w1.heap.size by simp [World.setCell]] at h5
              exact h5
            have hYs := (HY.out.but H2.out.2.1 (fun b hb e => hS (e ▸ hb))).kept haB.size fun b _ hl => haB.block b hl
            have HGr := hid (groups_any db p n c (a + 1) (q + 1) _ S f hYs hS (H2.out.1.below haB) (by omega))
            have HK3 := hid (H2.out.2.1.trans (But.ofBelow haB))
            have HV3 := hid (And.intro hvb (H2.out.2.2.below haB))
            clear hYs haB hvb
            go_wp2_with fail
            refine HGr.out.mono ?_
            intro x4 w4 hP4
            cases hgr : grpS f n 10 (a + 1) 0 0 with
            | none =>
              obtain ⟨⟨a2, rfl⟩, hk4⟩ := hP4.2 hgr
              have hr : R = .error 28 := by have h3 := HR6.out; rw [hgr] at h3; exact h3.symm
              have HF := hid (HK3.out.trans hk4)
              have HRe := hid hr
              clear hP4 hk4 hr
              exact ⟨rfl, fun t a3 q3 h3 => (by rw [HRe.out] at h3; cases h3), fun e h3 => (by rw [HRe.out] at h3; cases h3; exact ⟨⟨a2, rfl⟩, HF.out⟩)⟩
            | some ua =>
              obtain ⟨u, a'⟩ := ua
              obtain ⟨rfl, hb4, hk4⟩ := hP4.1 u a' hgr
              have hr : R = .ok (mkI (unfoldI u), a', q + 1) := by have h3 := HR6.out; rw [hgr] at h3; exact h3.symm
              have hu := (grpS_le _ _ _ _ _ _ _ hgr).2 (by decide) (by omega) (by omega)
              simp only at hu
              have hv4 := HV3.out.1.but hk4 (show w1.heap.size ≠ db by omega)
              have hr4 := HV3.out.2.but hk4 (show w.heap.size ≠ db by omega)
              have hkw := HK3.out.trans hk4
              have HUn := fun W => unfold_any u hu W
              have hfit := unfoldI_fit hu
              have v0 := hv4.cell 0
              have v1 := hv4.cell 1
              have v2 := hv4.cell 2
              have v3 := hv4.cell 3
              have vf1 := hv4.frozen 1
              have vl := hv4.lt
              have s0 := hr4.cell 0
              have s1 := hr4.cell 1
              have s2 := hr4.cell 2
              have s3 := hr4.cell 3
              have sf0 := hr4.frozen 0
              have sf1 := hr4.frozen 1
              have sf2 := hr4.frozen 2
              have sf3 := hr4.frozen 3
              have sl := hr4.lt
              simp at v0 v1 v2 v3 s0 s1 s2 s3
              have hnv1 : w1.heap.size ≠ w.heap.size := by omega
              have hnv2 : w.heap.size ≠ w1.heap.size := by omega
              have hres := setV_box (hr4.kept (Below.heap_setCell w4 ⟨w1.heap.size, 1, none⟩ (.int .i64 (unfoldI u)) _ (show w.heap.size ≠ w1.heap.size by omega))) (.int .i64 1) (.int .i64 (unfoldI u)) (.string ⟨#[]⟩) (.slice none 0 0)
              have HRes := hid hres
              have hkf : But (fun y => y = w.heap.size) (w4.setCell ⟨w1.heap.size, 1, none⟩ (.int .i64 (unfoldI u))) (((((w4.setCell ⟨w1.heap.size, 1, none⟩ (.int .i64 (unfoldI u))).setCell ⟨w.heap.size, 0, none⟩ (.int .i64 1)).setCell ⟨w.heap.size, 1, none⟩ (.int .i64 (unfoldI u))).setCell ⟨w.heap.size, 2, none⟩ (.string ⟨#[]⟩)).setCell ⟨w.heap.size, 3, none⟩ (.slice none 0 0)) := ((((But.one _ w.heap.size).setAt 0 _).setAt 1 _).setAt 2 _).setAt 3 _
              have hbf := hb4.kept (Below.heap_setCell w4 ⟨w1.heap.size, 1, none⟩ (.int .i64 (unfoldI u)) _ (show db ≠ w1.heap.size by omega))
              have hkg : But (fun y => y = db) w (w4.setCell ⟨w1.heap.size, 1, none⟩ (.int .i64 (unfoldI u))) := hkw.setCell (p := ⟨w1.heap.size, 1, none⟩) (fun h5 => absurd h5 (by show ¬ w1.heap.size < w.heap.size; omega)) _
              have HD := hid (dpost_ok hr (VT.Alike.refl (mkI (unfoldI u))) (small_in _ _ 1 (unfoldI u) ⟨#[]⟩ (by omega) (by omega) hfit.1 hfit.2 (by decide)) hbf hkg hkf hbl)
              clear hP4 hb4 hk4 hr hv4 hr4 hkw hres hkf hbf hkg HGr HV3 HK3
              go_wp2_with fail
              refine (HUn _).mono ?_
              rintro x5 w5 ⟨rfl, hw5⟩
              subst w5
              go_wp2
              have r0 := HRes.out.cell 0
              have r1 := HRes.out.cell 1
              have r2 := HRes.out.cell 2
              have r3 := HRes.out.cell 3
              simp only [List.getElem?_toArray, List.getElem?_cons_zero, List.getElem?_cons_succ] at r0 r1 r2 r3
              refine bodyPost_ret (v := .agg #[.int .i64 1, .int .i64 (unfoldI u), .string ⟨#[]⟩, .slice none 0 0]) (by simp [results, Try.results160, go_sem, r0, r1, r2, r3]) rfl ?_
              exact HD.out
          · have h4 := HR5.out
            simp only [show ¬ ((2 : Nat) = 0) by omega, show ¬ ((2 : Nat) = 1) by omega, if_false, if_true] at h4
            have HR6 := hid h4
            clear h4 HR5
            have haB : Below _ _ ((w1.setCell ⟨db, 2, none⟩ (.int .i64 ((q : Int) + 1))).alloc (.cells #[.int .i64 2, .int .i64 0, .string ⟨#[]⟩, .slice none 0 0] 24)) := (Below.refl _ _).alloc (Nat.le_refl _) _
            have hvb : Box ((w1.setCell ⟨db, 2, none⟩ (.int .i64 ((q : Int) + 1))).alloc (.cells #[.int .i64 2, .int .i64 0, .string ⟨#[]⟩, .slice none 0 0] 24)) w1.heap.size #[.int .i64 2, .int .i64 0, .string ⟨#[]⟩, .slice none 0 0] 24 := by
              have h5 := Box.new (w1.setCell ⟨db, 2, none⟩ (.int .i64 ((q : Int) + 1))) #[.int .i64 2, .int .i64 0, .string ⟨#[]⟩, .slice none 0 0] 24
              rw [show (w1.setCell ⟨db, 2, none⟩ (.int .i64 ((q : Int) + 1))).heap.size = w1.heap.size by simp [World.setCell]] at h5
              exact h5
            have hYs := (HY.out.but H2.out.2.1 (fun b hb e => hS (e ▸ hb))).kept haB.size fun b _ hl => haB.block b hl
            have HCo := hid (count_any db p n c (a + 1) (q + 1) _ S f 24 21 hYs hS (H2.out.1.below haB) (by omega))
            have HK3 := hid (H2.out.2.1.trans (But.ofBelow haB))
            have HV3 := hid (And.intro hvb (H2.out.2.2.below haB))
            clear hYs haB hvb
            go_wp2_with fail
            refine HCo.out.mono ?_
            intro x4 w4 hP4
            by_cases hn1 : n ≤ a + 1
            · obtain ⟨⟨a2, rfl⟩, hk4⟩ := hP4.2.2 hn1
              have hr : R = .error 28 := by have h3 := HR6.out; rw [if_pos hn1] at h3; exact h3.symm
              have HF := hid (HK3.out.trans hk4)
              have HRe := hid hr
              clear hP4 hk4 hr
              exact ⟨rfl, fun t a3 q3 h3 => (by rw [HRe.out] at h3; cases h3), fun e h3 => (by rw [HRe.out] at h3; cases h3; exact ⟨⟨a2, rfl⟩, HF.out⟩)⟩
            · obtain ⟨hg1, hg2⟩ := HY.out.fit (a + 1) (by omega)
              obtain ⟨M, hM⟩ := Int.eq_ofNat_of_zero_le hg1
              have h3 := HR6.out
              rw [if_neg hn1, hM] at h3
              simp only [Int.toNat_natCast] at h3
              have HR7 := hid h3
              clear h3 HR6
              by_cases hM24 : 24 < M
              · obtain ⟨⟨a2, rfl⟩, hk4⟩ := hP4.2.1 (by omega) (by omega)
                have hr : R = .error 21 := by have h3 := HR7.out; rw [if_pos hM24] at h3; exact h3.symm
                have HF := hid (HK3.out.trans hk4)
                have HRe := hid hr
                clear hP4 hk4 hr
                exact ⟨rfl, fun t a3 q3 h3 => (by rw [HRe.out] at h3; cases h3), fun e h3 => (by rw [HRe.out] at h3; cases h3; exact ⟨⟨a2, rfl⟩, HF.out⟩)⟩
              · obtain ⟨rfl, hb4, hk4⟩ := hP4.1 (by omega) (by omega)
                have h3 := HR7.out
                rw [if_neg hM24] at h3
                have HR8 := hid h3
                have hY4 := HY.out.but (HK3.out.trans hk4) (fun b hb e => hS (e ▸ hb))
                have HTa := hid (take_any db p n c (a + 1 + 1) (q + 1) M w4 S f hY4 hb4 (by omega) (by omega))
                have HK4 := hid (HK3.out.trans hk4)
                have HV4 := hid (And.intro (HV3.out.1.but hk4 (show w1.heap.size ≠ db by omega)) (HV3.out.2.but hk4 (show w.heap.size ≠ db by omega)))
                have hwl := HV4.out.1.lt
                clear hP4 hb4 hk4 h3 hY4 HCo HV3 HK3 HR7
                rw [hM]
                go_wp2_with fail
                refine HTa.out.mono ?_
                intro x5 w5 hP5
                by_cases hend : a + 2 + M ≤ n
                · obtain ⟨⟨p', c', rfl, hp'⟩, hb5, hk5⟩ := hP5.1 (by omega)
                  have hr : R = .ok (mkT (strOf (bytesAt f (a + 2) M)), a + 2 + M, q + 1) := by have h3 := HR8.out; rw [if_neg (by omega)] at h3; exact h3.symm
                  have hv4 := HV4.out.1.but hk5 (show w1.heap.size ≠ db by omega)
                  have hr4 := HV4.out.2.but hk5 (show w.heap.size ≠ db by omega)
                  have hkw := HK4.out.trans hk5
                  have hconv : (convert 47 9 (.slice p' M c')).run Try.prog w5 = .ok (.string (strOf (bytesAt f (a + 2) M))) w5 := by
                    by_cases hM0 : M = 0
                    · subst hM0
                      cases p' with
                      | none => exact conv_none c' w5
                      | some ad => exact conv_at (zs := []) (fun j u hu => by simp at hu)
                    · obtain ⟨b, o, hp, hSb, hbl2, hat⟩ := HY.out.at_ (by omega)
                      have e1 : p' = some ⟨b, o + (a + 2), none⟩ := by rw [hp' (by omega), hp]; simp [from_, Addr.add]
                      rw [e1]
                      have hl : (bytesAt f (a + 2) M).length = M := by simp [bytesAt]
                      have h5 := conv_at (w := w5) (ad := ⟨b, o + (a + 2), none⟩) (c := c') (zs := bytesAt f (a + 2) M) (fun j u hu => by
                        by_cases hj : j < M
                        · simp only [bytesAt, List.map_map, List.getElem?_map, List.getElem?_range hj, Option.map_some, Function.comp_apply, Option.some.injEq] at hu
                          rw [← hu, Go.WideShapes.add_plain, Nat.add_assoc]
                          exact (World.cell?_of_block (a := ⟨b, o + (a + 2 + j), none⟩) (hkw.block b hbl2 (fun e => hS (e ▸ hSb)))).trans (hat _ (by omega))
                        · rw [List.getElem?_eq_none (by simp [bytesAt]; omega)] at hu; cases hu)
                      rw [hl] at h5
                      exact h5
                  have hsz : (strOf (bytesAt f (a + 2) M)).size ≤ 140737488355328 := by rw [strOf_size]; simp [bytesAt]; omega
                  obtain ⟨T, hT⟩ : ∃ T, T = strOf (bytesAt f (a + 2) M) := ⟨_, rfl⟩
                  rw [← hT] at hconv hsz hr
                  have v0 := hv4.cell 0
                  have v1 := hv4.cell 1
                  have v2 := hv4.cell 2
                  have v3 := hv4.cell 3
                  have vf2 := hv4.frozen 2
                  have vl := hv4.lt
                  have s0 := hr4.cell 0
                  have s1 := hr4.cell 1
                  have s2 := hr4.cell 2
                  have s3 := hr4.cell 3
                  have sf0 := hr4.frozen 0
                  have sf1 := hr4.frozen 1
                  have sf2 := hr4.frozen 2
                  have sf3 := hr4.frozen 3
                  have sl := hr4.lt
                  simp at v0 v1 v2 v3 s0 s1 s2 s3
                  have hnv1 : w1.heap.size ≠ w.heap.size := by omega
                  have hnv2 : w.heap.size ≠ w1.heap.size := by omega
                  have hres := setV_box (hr4.kept (Below.heap_setCell w5 ⟨w1.heap.size, 2, none⟩ (.string T) _ (show w.heap.size ≠ w1.heap.size by omega))) (.int .i64 2) (.int .i64 0) (.string T) (.slice none 0 0)
                  have HRes := hid hres
                  have hkf : But (fun y => y = w.heap.size) (w5.setCell ⟨w1.heap.size, 2, none⟩ (.string T)) (((((w5.setCell ⟨w1.heap.size, 2, none⟩ (.string T)).setCell ⟨w.heap.size, 0, none⟩ (.int .i64 2)).setCell ⟨w.heap.size, 1, none⟩ (.int .i64 0)).setCell ⟨w.heap.size, 2, none⟩ (.string T)).setCell ⟨w.heap.size, 3, none⟩ (.slice none 0 0)) := ((((But.one _ w.heap.size).setAt 0 _).setAt 1 _).setAt 2 _).setAt 3 _
                  have hb6 : Box w5 db #[.slice p n c, .int .i64 ((a + 2 + M : Nat) : Int), .int .i64 ((q + 1 : Nat) : Int)] 239 := by
                    rw [show a + 2 + M = a + 1 + 1 + M by omega]; exact hb5
                  have hbf := hb6.kept (Below.heap_setCell w5 ⟨w1.heap.size, 2, none⟩ (.string T) _ (show db ≠ w1.heap.size by omega))
                  have hkg : But (fun y => y = db) w (w5.setCell ⟨w1.heap.size, 2, none⟩ (.string T)) := hkw.setCell (p := ⟨w1.heap.size, 2, none⟩) (fun h5 => absurd h5 (by show ¬ w1.heap.size < w.heap.size; omega)) _
                  have HD := hid (dpost_ok hr (VT.Alike.refl (mkT T)) (small_in _ _ 2 0 T (by omega) (by omega) (by omega) (by omega) hsz) hbf hkg hkf hbl)
                  clear hP5 hb5 hk5 hr hv4 hr4 hkw hres hkf hbf hkg HTa HV4 HK4 hb6 hp' hT hsz HR8
                  go_wp2
                  have r0 := HRes.out.cell 0
                  have r1 := HRes.out.cell 1
                  have r2 := HRes.out.cell 2
                  have r3 := HRes.out.cell 3
                  simp only [List.getElem?_toArray, List.getElem?_cons_zero, List.getElem?_cons_succ] at r0 r1 r2 r3
                  refine bodyPost_ret (v := .agg #[.int .i64 2, .int .i64 0, .string T, .slice none 0 0]) (by simp [results, Try.results160, go_sem, r0, r1, r2, r3]) rfl ?_
                  exact HD.out
                · obtain ⟨⟨a2, rfl⟩, hk5⟩ := hP5.2 (by omega)
                  have hr : R = .error 28 := by have h3 := HR8.out; rw [if_pos (by omega)] at h3; exact h3.symm
                  have HF := hid (HK4.out.trans hk5)
                  have HRe := hid hr
                  clear hP5 hk5 hr
                  exact ⟨rfl, fun t a3 q3 h3 => (by rw [HRe.out] at h3; cases h3), fun e h3 => (by rw [HRe.out] at h3; cases h3; exact ⟨⟨a2, rfl⟩, HF.out⟩)⟩
          · have hd3 : d < 3 := by omega
            have HItem := hid (hg hd3)
            have h4 := HR5.out
            simp only [show ¬ ((3 : Nat) = 0) by omega, show ¬ ((3 : Nat) = 1) by omega, show ¬ ((3 : Nat) = 2) by omega, if_false] at h4
            have HR6 := hid h4
            clear h4 HR5
            obtain ⟨i0, Kd⟩ := kindV
            have haB : Below _ _ ((w1.setCell ⟨db, 2, none⟩ (.int .i64 ((q : Int) + 1))).alloc (.cells #[.int .i64 3, .int .i64 0, .string ⟨#[]⟩, .slice none 0 0] 24)) := (Below.refl _ _).alloc (Nat.le_refl _) _
            have hvb : Box ((w1.setCell ⟨db, 2, none⟩ (.int .i64 ((q : Int) + 1))).alloc (.cells #[.int .i64 3, .int .i64 0, .string ⟨#[]⟩, .slice none 0 0] 24)) w1.heap.size #[.int .i64 3, .int .i64 0, .string ⟨#[]⟩, .slice none 0 0] 24 := by
              have h5 := Box.new (w1.setCell ⟨db, 2, none⟩ (.int .i64 ((q : Int) + 1))) #[.int .i64 3, .int .i64 0, .string ⟨#[]⟩, .slice none 0 0] 24
              rw [show (w1.setCell ⟨db, 2, none⟩ (.int .i64 ((q : Int) + 1))).heap.size = w1.heap.size by simp [World.setCell]] at h5
              exact h5
            have hYs := (HY.out.but H2.out.2.1 (fun b hb e => hS (e ▸ hb))).kept haB.size fun b _ hl => haB.block b hl
            have HCo := hid (count_any db p n c (a + 1) (q + 1) _ S f 6 22 hYs hS (H2.out.1.below haB) (by omega))
            have HK3 := hid (H2.out.2.1.trans (But.ofBelow haB))
            have HV3 := hid (And.intro hvb (H2.out.2.2.below haB))
            clear hYs haB hvb
            go_wp2_with fail
            refine HCo.out.mono ?_
            intro x4 w4 hP4
            by_cases hn1 : n ≤ a + 1
            · obtain ⟨⟨a2, rfl⟩, hk4⟩ := hP4.2.2 hn1
              have hr : R = .error 28 := by have h3 := HR6.out; rw [if_pos hn1] at h3; exact h3.symm
              have HF := hid (HK3.out.trans hk4)
              have HRe := hid hr
              clear hP4 hk4 hr
              exact ⟨rfl, fun t a3 q3 h3 => (by rw [HRe.out] at h3; cases h3), fun e h3 => (by rw [HRe.out] at h3; cases h3; exact ⟨⟨a2, rfl⟩, HF.out⟩)⟩
            · obtain ⟨hg1, hg2⟩ := HY.out.fit (a + 1) (by omega)
              obtain ⟨M, hM⟩ := Int.eq_ofNat_of_zero_le hg1
              have h3 := HR6.out
              rw [if_neg hn1, hM] at h3
              simp only [Int.toNat_natCast] at h3
              have HR7 := hid h3
              clear h3 HR6
              by_cases hM6 : 6 < M
              · obtain ⟨⟨a2, rfl⟩, hk4⟩ := hP4.2.1 (by omega) (by omega)
                have hr : R = .error 22 := by have h3 := HR7.out; rw [if_pos hM6] at h3; exact h3.symm
                have HF := hid (HK3.out.trans hk4)
                have HRe := hid hr
                clear hP4 hk4 hr
                exact ⟨rfl, fun t a3 q3 h3 => (by rw [HRe.out] at h3; cases h3), fun e h3 => (by rw [HRe.out] at h3; cases h3; exact ⟨⟨a2, rfl⟩, HF.out⟩)⟩
              · obtain ⟨rfl, hb4, hk4⟩ := hP4.1 (by omega) (by omega)
                have h3 := HR7.out
                rw [if_neg hM6] at h3
                have HR8 := hid h3
                have HK4 := hid (HK3.out.trans hk4)
                have HV4 := hid (And.intro hb4 (And.intro (HV3.out.1.but hk4 (show w1.heap.size ≠ db by omega)) (HV3.out.2.but hk4 (show w.heap.size ≠ db by omega))))
                have hnv1 : w1.heap.size ≠ w.heap.size := by omega
                have hnv2 : w.heap.size ≠ w1.heap.size := by omega
                clear hP4 hb4 hk4 h3 HCo HV3 HK3 HR7 z0 z1 z2 z3 zf0 zf1 zf2 zf3 x2 f2 HFa H2
                rw [hM]
                go_wp2_with fail
                go_loopw [62] (fun x wr => ∃ (j : Nat) (l : List VT) (a' q' : Nat) (v : Value) (gf : Nat → VT), j ≤ M ∧ x = .int .i64 j ∧ itemsS g j (a + 2) (q + 1) = .ok (l, a', q') ∧ a' ≤ n ∧ q' ≤ 12 ∧ OwnV (w1.heap.size + 1) wr v j gf ∧ (∀ z, z < j → VT.Alike (l.getD z .nil) (gf z)) ∧ Box wr w1.heap.size #[.int .i64 3, .int .i64 0, .string ⟨#[]⟩, v] 24 ∧ Box wr db #[.slice p n c, .int .i64 (a' : Int), .int .i64 (q' : Int)] 239 ∧ Box wr w.heap.size #[.int .i64 0, .int .i64 0, .string ⟨#[]⟩, .slice none 0 0] 24 ∧ But (fun y => y = db) w wr) (fun x _ => M - (intOf x).toNat)
                case atStart => exact ⟨0, [], a + 2, q + 1, _, fun _ => .nil, Nat.zero_le _, rfl, rfl, by omega, by omega, OwnV.nil _ _ _, fun z hz => absurd hz (by omega), HV4.out.2.1, HV4.out.1, HV4.out.2.2, HK4.out⟩
                case round =>
                  obtain ⟨j, l, a', q', v, gf, hj, rfl, hit, ha', hq', hO, hal, hBv, hBd, hBr, hkr⟩ := hrel
                  by_cases hlt : j < M
                  · have hlt' : (j : Int) < (M : Int) := by omega
                    have hYr := HY.out.but hkr (fun b hb e => hS (e ▸ hb))
                    have hwd : ((d + 1 : Nat) : Int) = IntKind.i64.wrap ((d : Int) + 1) := by rw [IntKind.wrap_i64]; omega
                    have hC0 := HItem.out wr.drew S a' q' (hYr.kept (Nat.le_refl _) fun _ _ _ => rfl) hS (hBd.below (Below.refl _ _).drew) ha' hq'
                    rw [hwd] at hC0
                    have HC := hid hC0
                    clear hC0 hwd
                    have y3 := hBv.cell 3
                    simp at y3
                    have hvl := hBv.lt
                    cases hgr : g a' q' with
                    | error e =>
                      have hr : R = .error e := by have h3 := HR8.out; rw [itemsS_stuck hit hgr hlt] at h3; exact h3.symm
                      have HRe := hid hr
                      rw [hgr] at HC
                      have HKr := hid hkr
                      clear hr hit hO hal hBv hBd hBr hkr hYr HR8
                      go_wp2_with fail
                      go_region_dies
                      all_goals (go_at_call 160; (refine HC.out.mono ?_; intro x5 w5 hP5; obtain ⟨⟨c5, hx5⟩, hk5⟩ := hP5.2 e rfl; subst hx5))
                      all_goals exact ⟨rfl, fun t a3 q3 h3 => (by rw [HRe.out] at h3; cases h3), fun e3 h3 => (by rw [HRe.out] at h3; cases h3; exact ⟨⟨_, rfl⟩, HKr.out.drew.trans hk5⟩)⟩
                    | ok tt =>
                      obtain ⟨t, a2, q2⟩ := tt
                      have hbd := hgl _ _ _ _ _ hgr
                      have hit2 := itemsS_next hit hgr
                      have hll := (itemsS_le (n := n) (fun a q v a' q' h _ => (hgl _ _ _ _ _ h).1) _ _ _ _ _ _ hit (by omega)).2
                      rw [hgr] at HC
                      have HIt := hid (And.intro hit2 (And.intro hbd hll))
                      have HAll := hid (And.intro hO (And.intro hal (And.intro hBv (And.intro hBr hkr))))
                      have hwl := hkr.size
                      have hbr := hBr.lt
                      clear hit2 hbd hll hit hO hal hBv hBd hBr hkr hYr HR8
                      go_wp2_with fail
                      go_region_law (first
                        | (refine step_call rfl 160 #[.tmp 66, .tmp 68] _ rfl Try.f160 Try.func160 (by kernel_rfl) rfl #[.pointer (some ⟨db, 0, none⟩), .int .i64 (IntKind.i64.wrap ((d : Int) + 1))] rfl _ HC.out ?_
                           intro x5 w5 hP5
                           obtain ⟨u, hx5, hau, hiu, hbd5, hk5⟩ := hP5.1 t a2 q2 rfl
                           refine ⟨_, hx5, ?_⟩
                           have hkr5 : But (fun y => y = db) wr w5 := ((But.refl _ wr).drew).trans hk5
                           have hO5 : OwnV (w1.heap.size + 1) w5 v j gf := HAll.out.1.keep hkr5.size fun k hk2 hl => hkr5.block k hl (by omega)
                           have hBv5 := HAll.out.2.2.1.but hkr5 (show w1.heap.size ≠ db by omega)
                           have hBr5 := HAll.out.2.2.2.1.but hkr5 (show w.heap.size ≠ db by omega)
                           have hRow := hO5.own
                           have y5 := hBv5.cell 3
                           have y5l := hBv5.lt
                           have hs5 := hkr5.size
                           simp at y5
                           simp only [VT.val])
                        | (refine step_app rfl (.tmp 65) (.tmp 70) 22 24 i0 _ 4 56 Kd rfl (w1.heap.size + 1) v j _ rfl (hRow.alloc _) ⟨w5.heap.size, 0, none⟩ 1 1 [.int .i64 u.kind, .int .i64 u.int, .string u.text, .slice u.p u.n u.c] rfl rfl (news4 _ _ _ _ _ _) (oneCell_cells u) (by omega) (by omega) (by simp; omega) ?_
                           intro v6 w6 ho6 hg6 hn6
                           obtain ⟨p6, c6, rfl⟩ := ownsRow_slice ho6
                           have hBv6 : Box w6 w1.heap.size #[.int .i64 3, .int .i64 0, .string ⟨#[]⟩, v] 24 := (hBv5.below ((Below.refl _ _).alloc (Nat.le_refl _) _)).kept (hg6.block _ (by simp; omega) (fun e2 => by have := (hO5.own.lt _ e2.symm).1; omega))
                           have z63 := hBv6.cell 3
                           have z6f := hBv6.frozen 3
                           have z6l := hBv6.lt
                           simp at z63))
                      all_goals
                        have HP := hid (list_push (sz := wr.heap.size) (v6 := .slice p6 (j + 1) c6) (w := w) hO5 hBv5 hbd5 hBr5 (show db < w1.heap.size by omega) (show w.heap.size < w1.heap.size by omega) (HAll.out.2.2.2.2.trans hkr5) (by omega) hiu (by omega) (fun b e2 => (HAll.out.1.own.lt b e2).2) ho6 hg6 hn6)
                        have HA6 : Hid (∀ z, z < j + 1 → VT.Alike ((l ++ [t]).getD z .nil) (if z < j then gf z else u)) := by
                          intro z hz
                          by_cases hzj : z < j
                          · rw [if_pos hzj]
                            have h7 := HAll.out.2.1 z hzj
                            rw [List.getD_eq_getElem?_getD] at h7 ⊢
                            rw [List.getElem?_append_left (by have := HIt.out.2.2; omega)]
                            exact h7
                          · rw [if_neg hzj]
                            obtain rfl : z = j := by omega
                            rw [List.getD_eq_getElem?_getD, List.getElem?_append_right (by have := HIt.out.2.2; omega), HIt.out.2.2]
                            simpa using hau
                        clear HAll hO5 hBv5 hbd5 hBr5 hiu ho6 hg6 hn6 hkr5 hk5 hP5 hRow hBv6 z6f z6l z63 y5 y5l hau
                        go_wp2
                        go_roundw
                        case rel => exact ⟨j + 1, _, a2, q2, _, _, by omega, by go_num, HIt.out.1, HIt.out.2.1.1, HIt.out.2.1.2, HP.out.1, HA6.out, HP.out.2.1, HP.out.2.2.1, HP.out.2.2.2.1, HP.out.2.2.2.2⟩
                        case measure => simp [intOf]; omega
                  · obtain rfl : j = M := by omega
                    obtain ⟨p3, c3, hv, g1, g2, g3, g4, g5⟩ := hO.in_
                    subst hv
                    have hll := (itemsS_le (n := n) (fun a q v a' q' h _ => (hgl _ _ _ _ _ h).1) _ _ _ _ _ _ hit (by omega)).2
                    have hr : R = .ok (mkL l, a', q') := by have h3 := HR8.out; rw [hit] at h3; exact h3.symm
                    have hin : VT.In wr (fun b => w.heap.size + 1 ≤ b) (.mk 3 0 ⟨#[]⟩ j p3 c3 gf) := VT.In.mono (S := fun b => w1.heap.size + 1 ≤ b) ⟨⟨(show (_ : Int) ≤ 3 by omega), (show (3 : Int) ≤ _ by omega), (show (_ : Int) ≤ 0 by omega), (show (0 : Int) ≤ _ by omega), (show (⟨#[]⟩ : ByteArray).size ≤ _ by decide), g1, (show j ≤ _ by omega), g2, g3⟩, g4, g5⟩ fun b hb _ => by omega
                    have hal2 : VT.Alike (mkL l) (.mk 3 0 ⟨#[]⟩ j p3 c3 gf) := ⟨rfl, rfl, rfl, hll.symm, fun z hz => hal z (by have hz' : z < l.length := hz; omega)⟩
                    have v0 := hBv.cell 0
                    have v1 := hBv.cell 1
                    have v2 := hBv.cell 2
                    have v3 := hBv.cell 3
                    have vl := hBv.lt
                    have s0 := hBr.cell 0
                    have s1 := hBr.cell 1
                    have s2 := hBr.cell 2
                    have s3 := hBr.cell 3
                    have sf0 := hBr.frozen 0
                    have sf1 := hBr.frozen 1
                    have sf2 := hBr.frozen 2
                    have sf3 := hBr.frozen 3
                    have sl := hBr.lt
                    simp at v0 v1 v2 v3 s0 s1 s2 s3
                    have HRes := hid (setV_box hBr (.int .i64 3) (.int .i64 0) (.string ⟨#[]⟩) (.slice p3 j c3))
                    have hkf : But (fun y => y = w.heap.size) wr ((((wr.setCell ⟨w.heap.size, 0, none⟩ (.int .i64 3)).setCell ⟨w.heap.size, 1, none⟩ (.int .i64 0)).setCell ⟨w.heap.size, 2, none⟩ (.string ⟨#[]⟩)).setCell ⟨w.heap.size, 3, none⟩ (.slice p3 j c3)) := ((((But.one _ w.heap.size).setAt 0 _).setAt 1 _).setAt 2 _).setAt 3 _
                    have HD := hid (dpost_ok hr hal2 hin hBd hkr hkf hbl)
                    clear hr hit hO hal hBv hBd hBr hkr HR8 hkf hin hal2 g4 g5 HItem HV4 HK4
                    go_wp2
                    have r0 := HRes.out.cell 0
                    have r1 := HRes.out.cell 1
                    have r2 := HRes.out.cell 2
                    have r3 := HRes.out.cell 3
                    simp only [List.getElem?_toArray, List.getElem?_cons_zero, List.getElem?_cons_succ] at r0 r1 r2 r3
                    refine bodyPost_ret (v := .agg #[.int .i64 3, .int .i64 0, .string ⟨#[]⟩, .slice p3 j c3]) (by simp [results, Try.results160, go_sem, r0, r1, r2, r3]) rfl ?_
                    exact HD.out
  · obtain ⟨⟨a2, rfl⟩, hk1⟩ := hP.2 (by omega)
    have hr : R = .error 28 := by have h2 := HR.out; unfold partS at h2; rw [if_pos (by omega)] at h2; exact h2.symm
    have HF := hid ((But.ofBelow (X := fun y => y = db) HA0.out).trans hk1)
    have HRe := hid hr
    clear hP hk1 HN hr
    exact ⟨rfl, fun t a3 q3 h3 => (by rw [HRe.out] at h3; cases h3), fun e h3 => (by rw [HRe.out] at h3; cases h3; exact ⟨⟨a2, rfl⟩, HF.out⟩)⟩
end Go.Proofs.Ytikfpoabaaiegaa
