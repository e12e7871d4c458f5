import Derived.Test.YtebiidfdokhpaabGreatDoorFaN
import Derived.Test.YtebiidfdokhpaabGreatDoorEcE
namespace Go.Proofs.YtebiidfdokhpaabGreatDoor
open Go.RowKit
set_option maxRecDepth 8000
theorem RkI.toLtC {w : World} {C : Nat → Prop} {rb : Nat} {R : RK} (h : RkI w C rb R) : LT.In Go.Proofs.YtebiidfdokhpaabGreatDoor.elO w (fun k => C k ∧ k ≠ rb) R.lt := by
  have hn := h.n
  have hitem : ∀ j f, R.fs[j]? = some f → R.lt.item j = f.ro := fun j f hj => by
    show (R.fs.map RF.ro).getD j z0R = f.ro
    rw [List.getD_eq_getElem?_getD, List.getElem?_map, hj]
    rfl
  have hex : ∀ j, j < R.lt.n → ∃ f, R.fs[j]? = some f := fun j hj => ⟨_, List.getElem?_eq_getElem (by rw [← R.lt_n]; exact hj)⟩
  refine ⟨fun h0 => ?_, fun j hj => ?_, ?_, by rw [R.lt_n]; omega, ?_, ?_⟩
  · obtain ⟨f, hf⟩ := hex 0 h0
    obtain ⟨g, hp, hab, hgl, _, _, _, _⟩ := h.at_ hf
    refine ⟨g, 0, hp, h.ca g hab, hgl, fun j hj r u hu => ?_⟩
    obtain ⟨fj, hfj⟩ := hex j hj
    obtain ⟨g2, hp2, _, _, _, _, _, hat⟩ := h.at_ hfj
    rw [hp] at hp2
    simp only [Option.some.injEq, Addr.mk.injEq, and_true] at hp2
    subst hp2
    rw [hitem j fj hfj] at hu
    have hr : r < 3 := by
      rcases Nat.lt_or_ge r 3 with h1 | h1
      · exact h1
      · rw [List.getElem?_eq_none (by rw [Go.Proofs.YtebiidfdokhpaabGreatDoor.elO.len]; exact h1)] at hu; cases hu
    rw [show (0 : Nat) + j * Go.Proofs.YtebiidfdokhpaabGreatDoor.elO.size + r = j * 3 + r by show 0 + j * 3 + r = _; omega]
    exact (hat r hr).trans hu
  · obtain ⟨fj, hfj⟩ := hex j hj
    rw [hitem j fj hfj]
    exact (h.each fj (List.mem_of_getElem? hfj)).elO fun k hk => ⟨(h.each fj (List.mem_of_getElem? hfj)).cs k hk, (h.low fj (List.mem_of_getElem? hfj) k hk).1⟩
  · rw [R.lt_n]
    show R.fs.length ≤ R.c
    obtain ⟨_, ⟨hv, h0⟩ | ⟨g, cap, cur, hv, hbg, hh, hnc, hcm, _⟩⟩ := id h.row
    · omega
    · simp only [Value.slice.injEq, true_and] at hv
      obtain ⟨_, rfl⟩ := hv
      exact hnc
  · show R.c ≤ maxLen
    obtain ⟨_, ⟨hv, h0⟩ | ⟨g, cap, cur, hv, hbg, hh, hnc, hcm, _⟩⟩ := id h.row
    · simp only [Value.slice.injEq] at hv
      rw [hv.2.2]
      exact Nat.zero_le _
    · simp only [Value.slice.injEq, true_and] at hv
      obtain ⟨_, rfl⟩ := hv
      exact hcm
  · intro hp
    have hp' : R.p = none := hp
    obtain ⟨_, ⟨hv, h0⟩ | ⟨g, cap, cur, hv, hbg, hh, hnc, hcm, _⟩⟩ := id h.row
    · simp only [Value.slice.injEq] at hv
      exact ⟨by rw [R.lt_n]; exact h0, hv.2.2⟩
    · simp only [Value.slice.injEq, true_and] at hv
      rw [hp'] at hv
      cases hv.1
theorem ro_zs (f : RF) : f.ro.zs = f.su ++ f.lo := by
  have h : ∀ l : List Int, (List.range l.length).map (fun j => l.getD j 0) = l := fun l => by
    have := range_getD l 0 l.length (by omega)
    simpa using this
  show (List.range f.su.length).map (fun j => f.su.getD j 0) ++ (List.range f.lo.length).map (fun j => f.lo.getD j 0) = _
  rw [h, h]
theorem ro_key (f : RF) : f.ro.key = f.key := by
  unfold RO.key RF.key
  rw [ro_zs]
  rfl
/-- the reference's disk while its first i files are laid, its rows apart -/
structure RnK (l : LT FA) (w : World) (i : Nat) (wr : World) (R : RK) : Prop where
  rk : RkI wr (fun k => w.heap.size ≤ k) w.heap.size R
  rg : R.down = false ∧ R.left = -1 ∧ R.after = 0 ∧ R.fails = 0
  n : R.fs.length = i
  ks : R.fs.map RF.key = srtK l i
  ok : ∀ j, j < i → fOk (names l j) (l.item j) = true
  bel : Below w.heap.size w wr
theorem RnK.start (l : LT FA) (w W : World) (hW : W = w.alloc (.cells #[.slice none 0 0, .bool false, .int .i64 (-1), .int .i64 0, .int .i64 0] 75)) (hb : Below w.heap.size w W) : RnK l w 0 W ⟨none, 0, [], false, -1, 0, 0⟩ :=
  ⟨⟨by rw [hW]; exact Box.new _ _ _, World.ownsRow_nil _ _ _ _, Nat.le_refl _, (fun k hk => by cases hk), (fun f hf => by cases hf), (fun f hf => by cases hf), List.Pairwise.nil, List.nodup_nil, by show (0 : Nat) ≤ 400; omega, by show (-1 : Int) ≤ -1 ∧ (-1 : Int) ≤ 9223372036854775807; omega, by show (0 : Int) ≤ 0 ∧ (0 : Int) ≤ 9223372036854775807; omega, by show (0 : Int) ≤ 0 ∧ (0 : Int) ≤ 9223372036854775807; omega⟩, ⟨rfl, rfl, rfl, rfl⟩, rfl, rfl, fun j hj => absurd hj (by omega), hb⟩
theorem RnK.rni {l : LT FA} {w : World} {i : Nat} {wr : World} {R : RK} (h : RnK l w i wr R) : RnI l w i wr R.lt := by
  refine ⟨?_, h.rk.toLtC, by rw [R.lt_n]; exact h.n, ?_, h.ok, h.bel⟩
  · have hb := h.rk.bx
    rw [h.rg.1, h.rg.2.1, h.rg.2.2.1, h.rg.2.2.2] at hb
    rw [R.lt_n]
    exact hb
  · rw [R.lt_lst, List.map_map, ← h.ks]
    exact List.map_congr_left fun f _ => ro_key f
theorem RnK.no {l : LT FA} {w : World} {i : Nat} {wr : World} {R : RK} (h : RnK l w i wr R) {s : ByteArray} (hd : ((names l i).any fun x => decide (x = s)) = false) : R.no s := by
  intro f hf e
  have h1 : f.key ∈ srtK l i := by rw [← h.ks]; exact List.mem_map.2 ⟨f, hf, rfl⟩
  obtain ⟨j, hj, hk⟩ := List.mem_map.1 ((srtK_perm l i).mem_iff.1 h1)
  have h2 : (l.item j).name = s := (congrArg Prod.fst hk).trans e
  have h3 := List.any_eq_false.1 hd (l.item j).name (List.mem_map.2 ⟨j, hj, rfl⟩)
  simp [h2] at h3
theorem RnK.step {l : LT FA} {w wr w3 w4 : World} {i : Nat} {R : RK} {f : RF} (h : RnK l w i wr R) (hk : f.key = (l.item i).key) (hok : fOk (names l i) (l.item i) = true) (hb : Below w.heap.size w w3) (hp : PtQ R f (fun k => w.heap.size ≤ k) w.heap.size w3 w4) : ∃ R', RnK l w (i + 1) w4 R' := by
  obtain ⟨p, c, hI, hbt⟩ := hp
  have hsz := hb.size
  refine ⟨_, hI.mono fun k hk _ => hk.elim id fun h => Nat.le_trans hsz h, h.rg, ?_, ?_, fun j hj => ?_, hb.trans (hbt.below hsz fun k hk e => by have e' : k = w.heap.size := e; omega)⟩
  · show (insF f R.fs).length = i + 1
    have := (insF_perm f R.fs).length_eq
    rw [this, List.length_cons, h.n]
  · show (insF f R.fs).map RF.key = _
    rw [insF_key, h.ks, hk]
    rfl
  · by_cases hji : j < i
    · exact h.ok j hji
    · obtain rfl : j = i := by omega
      exact hok
theorem newPut (l : LT FA) (i : Nat) (R : RK) (w3 : World) (rb b0 : Nat) (ps : Option Addr) (cs : Nat) (pl : Option Addr) (cl : Nat) (hR : RkI w3 (fun k => rb ≤ k) rb R) (hold : ∀ g ∈ R.fs, ∀ k, g.blk k → k < b0) (hrb : rb < b0) (hnm : Nm (l.item i).name)
    (ha : OwnBy b0 w3 (.slice ps (l.item i).sy.toNat cs) ((List.range (l.item i).sy.toNat).map fun j => (l.item i).f (0 + j))) (hb : OwnBy b0 w3 (.slice pl ((l.item i).n - (l.item i).sy.toNat) cl) ((List.range ((l.item i).n - (l.item i).sy.toNat)).map fun j => (l.item i).f ((l.item i).sy.toNat + j)))
    (hne : ∀ g, (Value.slice ps (l.item i).sy.toNat cs).ownBlock = some g → (Value.slice pl ((l.item i).n - (l.item i).sy.toNat) cl).ownBlock ≠ some g)
    (hz1 : ∀ z ∈ (List.range (l.item i).sy.toNat).map (fun j => (l.item i).f (0 + j)), 0 ≤ z ∧ z ≤ 255) (hz2 : ∀ z ∈ (List.range ((l.item i).n - (l.item i).sy.toNat)).map (fun j => (l.item i).f ((l.item i).sy.toNat + j)), 0 ≤ z ∧ z ≤ 255)
    (h0 : 0 ≤ (l.item i).sy) (h1 : (l.item i).sy ≤ ((l.item i).n : Int)) (k1 : (l.item i).n ≤ 65536) (hno : R.no (l.item i).name) (hlen : R.fs.length < 400) :
    Calls Tryz.prog 30 #[.pointer (some ⟨rb, 0, none⟩), .agg #[.string (l.item i).name, .slice ps (l.item i).sy.toNat cs, .slice pl ((l.item i).n - (l.item i).sy.toNat) cl]] w3 fun e w' => e = .returned (.tuple #[]) ∧ ∃ f, f.key = (l.item i).key ∧ PtQ R f (fun k => rb ≤ k) rb w3 w' := by
  obtain ⟨f, hf⟩ : ∃ f : RF, f = ⟨(l.item i).name, ps, cs, (List.range (l.item i).sy.toNat).map fun j => (l.item i).f (0 + j), pl, cl, (List.range ((l.item i).n - (l.item i).sy.toNat)).map fun j => (l.item i).f ((l.item i).sy.toNat + j)⟩ := ⟨_, rfl⟩
  have l1 : f.su.length = (l.item i).sy.toNat := by rw [hf]; simp
  have l2 : f.lo.length = (l.item i).n - (l.item i).sy.toNat := by rw [hf]; simp
  have ls : ∀ k, f.sb k ↔ (Value.slice ps (l.item i).sy.toNat cs).ownBlock = some k := fun k => by unfold RF.sb; rw [l1, hf]
  have ll : ∀ k, f.lb k ↔ (Value.slice pl ((l.item i).n - (l.item i).sy.toNat) cl).ownBlock = some k := fun k => by unfold RF.lb; rw [l2, hf]
  have hge : ∀ k, f.blk k → b0 ≤ k := fun k hk => hk.elim (fun h => (ha.lt k ((ls k).1 h)).1) (fun h => (hb.lt k ((ll k).1 h)).1)
  have hkey : f.key = (l.item i).key := by
    have hk : (l.item i).sy.toNat + ((l.item i).n - (l.item i).sy.toNat) = (l.item i).n := by omega
    have hz : f.su ++ f.lo = (l.item i).zs := by
      unfold FA.zs
      rw [hf]
      conv => rhs; rw [← hk, List.range_add, List.map_append, List.map_map]
      congr 1
      apply List.map_congr_left
      intro j _
      simp
    unfold RF.key FA.key
    rw [hz, l1]
    have : f.name = (l.item i).name := by rw [hf]
    rw [this]
    refine Prod.ext rfl (Prod.ext rfl ?_)
    show (((l.item i).sy.toNat : Nat) : Int) = (l.item i).sy
    omega
  have hI : RfI w3 (fun k => rb ≤ k) f := by
    refine ⟨by rw [hf]; exact hnm, ?_, ?_, fun k hk => by have := hge k hk; show rb ≤ k; omega, fun k h2 h3 => hne k ((ls k).1 h2) ((ll k).1 h3), by omega, fun z hz => ?_⟩
    · rw [l1, hf]
      exact ownBy_ge ha (Nat.zero_le _)
    · rw [l2, hf]
      exact ownBy_ge hb (Nat.zero_le _)
    · rw [hf] at hz
      rcases List.mem_append.1 hz with h | h
      · exact hz1 z h
      · exact hz2 z h
  have e1 : f.name = (l.item i).name := by rw [hf]
  have h := rputR_any R f w3 (fun k => rb ≤ k) rb hR hI (fun k hk => ⟨by have := hge k hk; omega, fun g hg hgk => by have h2 := hold g hg k hgk; have h3 := hge k hk; omega⟩) (by rw [e1]; exact hno) hlen
  rw [l1, l2] at h
  have e2 : f.sp = ps := by rw [hf]
  have e3 : f.sc = cs := by rw [hf]
  have e4 : f.lp = pl := by rw [hf]
  have e5 : f.lc = cl := by rw [hf]
  rw [e1, e2, e3, e4, e5] at h
  refine h.mono ?_
  rintro e w' ⟨rfl, hq⟩
  exact ⟨rfl, f, hkey, hq⟩
def RnewK (l : LT FA) (w : World) (e : Ending) (w' : World) : Prop :=
  Below w.heap.size w w' ∧ (newB l = false → e = .returned (.tuple #[.pointer none, .int .i64 105])) ∧
    (newB l = true → ∃ R, e = .returned (.tuple #[.pointer (some ⟨w.heap.size, 0, none⟩), .int .i64 0]) ∧ RnK l w l.n w' R)
set_option maxHeartbeats 8000000 in
theorem rnewK_any (l : LT FA) (w : World) (hl : LT.In elF w (fun b => b < w.heap.size) l) :
    Calls Tryz.prog 14 #[.slice l.p l.n l.c] w fun e w' => RnewK l w e w' := by
  have HL := hid hl
  have hnn := hl.nn
  clear hl
  obtain ⟨W, hW⟩ : ∃ V, V = w.alloc (.cells #[.slice none 0 0, .bool false, .int .i64 (-1), .int .i64 0, .int .i64 0] 75) := ⟨_, rfl⟩
  have HBW : Hid (Below w.heap.size w W) := by show Below _ _ _; rw [hW]; exact (Below.refl _ _).alloc (Nat.le_refl _) _
  have HI0 : Hid (RnK l w 0 W ⟨none, 0, [], false, -1, 0, 0⟩) := RnK.start l w W hW HBW.out
  have HW := hid hW
  clear hW
  by_cases hn : l.n ≤ 400
  case neg =>
    have hn' : (400 : Int) < (l.n : Int) := by omega
    have HNo : Hid (newB l = false) := by show newB l = false; simp [newB, hn]
    go_enter Tryz.func14, Tryz.ntmps14
    go_upto_region 2 with fail
    rw [← HW.out]
    go_wp2
    exact bodyPost_ret (v := .tuple #[.pointer none, .int .i64 105]) (by simp [results, Tryz.results14, go_sem]) rfl ⟨HBW.out, fun _ => rfl, fun h => by rw [HNo.out] at h; cases h⟩
  case pos =>
    have hn' : ¬ (400 : Int) < (l.n : Int) := by omega
    go_enter Tryz.func14, Tryz.ntmps14
    go_upto_region 2 with fail
    rw [← HW.out]
    go_wp2_with fail
    go_loopw [5] (fun x wr => ∃ (i : Nat) (R : RK), i ≤ l.n ∧ x = .int .i64 (i : Int) ∧ RnK l w i wr R) (fun x _ => l.n - (intOf x).toNat)
    case atStart => exact ⟨0, _, Nat.zero_le _, rfl, HI0.out⟩
    case round =>
      obtain ⟨i, R, hi, rfl, hK⟩ := hrel
      have HK := hid hK
      obtain ⟨A, hA0⟩ : ∃ A, A = R.lt := ⟨_, rfl⟩
      have HI : Hid (RnI l w i wr A) := by show RnI _ _ _ _ _; rw [hA0]; exact hK.rni
      clear hK hA0
      by_cases hlt : i < l.n
      · have hlt' : (i : Int) < (l.n : Int) := by omega
        obtain ⟨bb, o, hp, _, hbb, hat⟩ := HL.out.at_ (by omega)
        rw [hp]
        have hce : ∀ r u, (elF.cells (l.item i))[r]? = some u → wr.cell? ⟨bb, o + i * 3 + r, none⟩ = some u := fun r u hu => (World.cell?_of_block (a := ⟨bb, o + i * 3 + r, none⟩) (HI.out.bel.block bb hbb)).trans (hat i hlt r u hu)
        have c0 : wr.cell? ⟨bb, o + i * 3, none⟩ = some (.string (l.item i).name) := hce 0 _ rfl
        have c1 : wr.cell? ⟨bb, o + i * 3 + 1, none⟩ = some (.slice (l.item i).p (l.item i).n (l.item i).c) := hce 1 _ rfl
        have c2 : wr.cell? ⟨bb, o + i * 3 + 2, none⟩ = some (.int .i64 (l.item i).sy) := hce 2 _ rfl
        have HA := hid (HL.out.each i hlt)
        clear hce hat
        obtain ⟨V1, hV1⟩ : ∃ V, V = wr.alloc (.cells #[.string (l.item i).name, .slice (l.item i).p (l.item i).n (l.item i).c, .int .i64 (l.item i).sy] 41) := ⟨_, rfl⟩
        have HB1 : Hid (Below wr.heap.size wr V1) := by show Below _ _ _; rw [hV1]; exact (Below.refl _ _).alloc (Nat.le_refl _) _
        have HX1 : Hid (Box V1 wr.heap.size #[.string (l.item i).name, .slice (l.item i).p (l.item i).n (l.item i).c, .int .i64 (l.item i).sy] 41) := by show Box _ _ _ _; rw [hV1]; exact Box.new _ _ _
        have HV1 := hid hV1
        have HBv : Hid (Below w.heap.size w V1) := HI.out.bel.trans (HB1.out.mono HI.out.bel.size)
        clear hV1
        go_upto_region 8 with fail
        rw [← HV1.out]
        clear c0 c1 c2
        have HR1 := hid (HI.out.bx.below HB1.out)
        have HFd := hid (rfind_any A (l.item i).name V1 (fun k => w.heap.size ≤ k ∧ k ≠ w.heap.size) w.heap.size (by have h := HR1.out.cell 0; simpa using h) (HI.out.li.below HB1.out))
        have f0 := HX1.out.cell 0
        have f1 := HX1.out.cell 1
        have f2 := HX1.out.cell 2
        have fl := HX1.out.lt
        simp at f0 f1 f2
        go_wp2_with fail
        refine (named_any (l.item i).name V1 HA.out.1).mono ?_
        rintro e w2 ⟨rfl, hw2⟩
        obtain rfl := hw2.symm
        cases hnb : nmB (l.item i).name with
        | false =>
          have HNo : Hid (newB l = false) := newB_no l i hlt (by simp [fOk, hnb])
          go_wp2
          exact bodyPost_ret (v := .tuple #[.pointer none, .int .i64 105]) (by simp [results, Tryz.results14, go_sem]) rfl ⟨HBv.out, fun _ => rfl, fun h => by rw [HNo.out] at h; cases h⟩
        | true =>
          go_wp2_with fail
          refine HFd.out.mono ?_
          rintro e w3 ⟨r, rfl, hw3, hr1, hr0⟩
          obtain rfl := hw3.symm
          rw [HI.out.has] at hr1 hr0
          cases hdup : ((names l i).any fun x => decide (x = (l.item i).name)) with
          | true =>
            have hr : 0 ≤ r := hr1 hdup
            have HNo : Hid (newB l = false) := newB_no l i hlt (by simp [fOk, hnb, hdup])
            clear hr1 hr0
            go_wp2
            exact bodyPost_ret (v := .tuple #[.pointer none, .int .i64 105]) (by simp [results, Tryz.results14, go_sem]) rfl ⟨HBv.out, fun _ => rfl, fun h => by rw [HNo.out] at h; cases h⟩
          | false =>
            obtain rfl : r = -1 := hr0 hdup
            clear hr1 hr0
            by_cases k1 : (l.item i).n ≤ 65536
            · have k1' : ¬ (65536 : Int) < ((l.item i).n : Int) := by omega
              by_cases k2 : 0 ≤ (l.item i).sy
              · have k2' : ¬ (l.item i).sy < 0 := by omega
                by_cases k3 : (l.item i).sy ≤ ((l.item i).n : Int)
                · have k3' : ¬ ((l.item i).n : Int) < (l.item i).sy := by omega
                  have HOk : Hid (fOk (names l i) (l.item i) = true) := by
                    show fOk _ _ = true
                    simp [fOk, hnb, hdup, k1, k2, k3]
                  have hsy : (((l.item i).sy.toNat : Nat) : Int) = (l.item i).sy := by omega
                  have HBy : Hid (∀ X, Below V1.heap.size V1 X → Byts X (fun b => b < w.heap.size) (l.item i).p (l.item i).n (l.item i).c (l.item i).f) := fun X hX => (HA.out.2.1.kept HBv.out.size fun b _ hl => HBv.out.block b hl).kept hX.size fun b _ hl => hX.block b hl
                  have HFa : Hid (∀ X, Below V1.heap.size V1 X → Calls Tryz.prog 24 #[.slice (l.item i).p (l.item i).n (l.item i).c, .int .i64 0, .int .i64 (l.item i).sy] X fun e w' => ∃ (p' : Option Addr) (c' : Nat), e = .returned (.slice p' (l.item i).sy.toNat c') ∧ OwnBy X.heap.size w' (.slice p' (l.item i).sy.toNat c') ((List.range (l.item i).sy.toNat).map fun j => (l.item i).f (0 + j)) ∧ Below X.heap.size X w') := fun X hX => by
                    have h := rfresh_any (l.item i).p (l.item i).n (l.item i).c 0 (l.item i).sy.toNat (l.item i).f X _ (HBy.out X hX) (Nat.zero_le _) (by omega) k1
                    rw [hsy] at h
                    exact h
                  have HFb : Hid (∀ X, Below V1.heap.size V1 X → Calls Tryz.prog 24 #[.slice (l.item i).p (l.item i).n (l.item i).c, .int .i64 (l.item i).sy, .int .i64 ((l.item i).n : Int)] X fun e w' => ∃ (p' : Option Addr) (c' : Nat), e = .returned (.slice p' ((l.item i).n - (l.item i).sy.toNat) c') ∧ OwnBy X.heap.size w' (.slice p' ((l.item i).n - (l.item i).sy.toNat) c') ((List.range ((l.item i).n - (l.item i).sy.toNat)).map fun j => (l.item i).f ((l.item i).sy.toNat + j)) ∧ Below X.heap.size X w') := fun X hX => by
                    have h := rfresh_any (l.item i).p (l.item i).n (l.item i).c (l.item i).sy.toNat (l.item i).n (l.item i).f X _ (HBy.out X hX) (by omega) (Nat.le_refl _) k1
                    rw [hsy] at h
                    exact h
                  have HPu : Hid (∀ (w3 : World) (ps : Option Addr) (cs : Nat) (pl : Option Addr) (cl : Nat), Below V1.heap.size V1 w3 → OwnBy V1.heap.size w3 (.slice ps (l.item i).sy.toNat cs) ((List.range (l.item i).sy.toNat).map fun j => (l.item i).f (0 + j)) → OwnBy V1.heap.size w3 (.slice pl ((l.item i).n - (l.item i).sy.toNat) cl) ((List.range ((l.item i).n - (l.item i).sy.toNat)).map fun j => (l.item i).f ((l.item i).sy.toNat + j)) →
                      (∀ g, (Value.slice ps (l.item i).sy.toNat cs).ownBlock = some g → (Value.slice pl ((l.item i).n - (l.item i).sy.toNat) cl).ownBlock ≠ some g) →
                      Calls Tryz.prog 30 #[.pointer (some ⟨w.heap.size, 0, none⟩), .agg #[.string (l.item i).name, .slice ps (l.item i).sy.toNat cs, .slice pl ((l.item i).n - (l.item i).sy.toNat) cl]] w3 fun e w' => e = .returned (.tuple #[]) ∧ ∃ f, f.key = (l.item i).key ∧ PtQ R f (fun k => w.heap.size ≤ k) w.heap.size w3 w') := by
                    intro w3 ps cs pl cl hb3 ha hb hne
                    have hvl : w.heap.size < V1.heap.size := HR1.out.lt
                    have hfit : ∀ m k, m + k ≤ (l.item i).n → ∀ z ∈ (List.range k).map (fun j => (l.item i).f (m + j)), 0 ≤ z ∧ z ≤ 255 := fun m k hmk z hz => by
                      obtain ⟨j, hj, rfl⟩ := List.mem_map.1 hz
                      have := HA.out.2.1.fit (m + j) (by have := List.mem_range.1 hj; omega)
                      omega
                    have hwr : wr.heap.size ≤ V1.heap.size := HB1.out.size
                    have hrk : RkI w3 (fun k => w.heap.size ≤ k) w.heap.size R := (HK.out.rk.below HB1.out).below hb3
                    exact newPut l i R w3 w.heap.size V1.heap.size ps cs pl cl hrk (fun g hg k hk => Nat.lt_of_lt_of_le ((HK.out.rk.each g hg).blk hk).2 hwr) hvl ((nmB_iff _).1 hnb) ha hb hne (hfit 0 _ (by omega)) (hfit _ _ (by omega)) k2 k3 k1 (HK.out.no hdup) (by have := HK.out.n; omega)
                  go_upto_region 11 with fail
                  refine wp_region_calmE 30 (fun wx => Below V1.heap.size V1 wx) [(0, true), (1, true), (2, false), (3, true), (4, false), (5, true), (6, false), (8, true), (9, false), (10, true), (11, false), (12, true)] (.one 7 true [] (.one 13 true [(14, true)] (.one 15 false [] .done))) (by kernel_rfl) (by kernel_rfl) (Below.refl _ _).drew ?_
                  refine wpPre_e rfl rfl (fun K1 hK1 => ?_)
                  apply Exists.intro
                  refine And.intro (fun wx hx => ?_) ?_
                  · go_simp
                    try rfl
                  go_simp
                  refine hK1 _ ?_
                  clear hK1 K1
                  refine wpPre_e rfl rfl (fun K1 hK1 => ?_)
                  apply Exists.intro
                  refine And.intro (fun wx hx => ?_) ?_
                  · go_simp
                    try rfl
                  go_simp
                  refine hK1 _ ?_
                  clear hK1 K1
                  refine wpPre_e rfl rfl (fun K1 hK1 => ?_)
                  apply Exists.intro
                  refine And.intro (fun wx hx => ?_) ?_
                  · have e0 := below_fact hx rfl f0
                    go_simp
                    try rfl
                  go_simp
                  refine hK1 _ ?_
                  clear hK1 K1
                  refine wpPre_e rfl rfl (fun K1 hK1 => ?_)
                  apply Exists.intro
                  refine And.intro (fun wx hx => ?_) ?_
                  · go_simp
                    try rfl
                  go_simp
                  refine hK1 _ ?_
                  clear hK1 K1
                  refine wpPre_e rfl rfl (fun K1 hK1 => ?_)
                  apply Exists.intro
                  refine And.intro (fun wx hx => ?_) ?_
                  · have e0 := below_fact hx rfl f1
                    go_simp
                    try rfl
                  go_simp
                  refine hK1 _ ?_
                  clear hK1 K1
                  refine wpPre_e rfl rfl (fun K1 hK1 => ?_)
                  apply Exists.intro
                  refine And.intro (fun wx hx => ?_) ?_
                  · go_simp
                    try rfl
                  go_simp
                  refine hK1 _ ?_
                  clear hK1 K1
                  refine wpPre_e rfl rfl (fun K1 hK1 => ?_)
                  apply Exists.intro
                  refine And.intro (fun wx hx => ?_) ?_
                  · have e0 := below_fact hx rfl f2
                    go_simp
                    try rfl
                  go_simp
                  refine hK1 _ ?_
                  clear hK1 K1
                  refine wpPre_e rfl rfl (fun K1 hK1 => ?_)
                  apply Exists.intro
                  refine And.intro (fun wx hx => ?_) ?_
                  · go_simp
                    try rfl
                  go_simp
                  refine hK1 _ ?_
                  clear hK1 K1
                  refine wpPre_e rfl rfl (fun K1 hK1 => ?_)
                  apply Exists.intro
                  refine And.intro (fun wx hx => ?_) ?_
                  · have e0 := below_fact hx rfl f1
                    go_simp
                    try rfl
                  go_simp
                  refine hK1 _ ?_
                  clear hK1 K1
                  refine wpPre_e rfl rfl (fun K1 hK1 => ?_)
                  apply Exists.intro
                  refine And.intro (fun wx hx => ?_) ?_
                  · go_simp
                    try rfl
                  go_simp
                  refine hK1 _ ?_
                  clear hK1 K1
                  refine wpPre_e rfl rfl (fun K1 hK1 => ?_)
                  apply Exists.intro
                  refine And.intro (fun wx hx => ?_) ?_
                  · have e0 := below_fact hx rfl f2
                    go_simp
                    try rfl
                  go_simp
                  refine hK1 _ ?_
                  clear hK1 K1
                  refine wpPre_e rfl rfl (fun K1 hK1 => ?_)
                  apply Exists.intro
                  refine And.intro (fun wx hx => ?_) ?_
                  · go_simp
                    try rfl
                  go_simp
                  refine hK1 _ ?_
                  clear hK1 K1
                  refine wpPre_nil ?_
                  refine wpTr_e rfl (fun K1 hK1 => ?_)
                  refine step_call rfl 24 #[.tmp 56, .const (.int .i64 0), .tmp 58] _ rfl Tryz.f24 Tryz.func24 (by kernel_rfl) rfl #[.slice (l.item i).p (l.item i).n (l.item i).c, .int .i64 0, .int .i64 (l.item i).sy] rfl _ (HFa.out _ (Below.refl _ _).drew) (fun e w2 h2 => ?_)
                  obtain ⟨ps, cs, rfl, hr2, hb2⟩ := h2
                  have HB2 : Hid (Below V1.heap.size V1 w2) := (Below.refl _ _).drew.trans hb2
                  have HR2 := hid hr2
                  clear hr2 hb2
                  refine ⟨_, rfl, ?_⟩
                  go_simp
                  refine hK1 _ _ (fun _ => HB2.out) ?_
                  clear hK1 K1
                  refine wpPre_nil ?_
                  refine wpTr_e rfl (fun K1 hK1 => ?_)
                  refine step_call rfl 24 #[.tmp 61, .tmp 63, .tmp 64] _ rfl Tryz.f24 Tryz.func24 (by kernel_rfl) rfl #[.slice (l.item i).p (l.item i).n (l.item i).c, .int .i64 (l.item i).sy, .int .i64 ((l.item i).n : Int)] rfl _ (HFb.out _ HB2.out) (fun e w3 h3 => ?_)
                  obtain ⟨pl, cl, rfl, hr3, hb3⟩ := h3
                  have HB3 : Hid (Below V1.heap.size V1 w3) := HB2.out.trans (hb3.mono HB2.out.size)
                  have HR3 := hid hr3
                  have HR2b := hid (HR2.out.below hb3)
                  have HNe : Hid (∀ g, (Value.slice ps (l.item i).sy.toNat cs).ownBlock = some g → (Value.slice pl ((l.item i).n - (l.item i).sy.toNat) cl).ownBlock ≠ some g) := fun g h1 h2 => by
                    have e1 := (HR2.out.lt g h1).2
                    have e2 := (HR3.out.lt g h2).1
                    omega
                  clear hr3 hb3
                  refine ⟨_, rfl, ?_⟩
                  go_simp
                  refine hK1 _ _ (fun _ => HB3.out) ?_
                  clear hK1 K1
                  refine wpPre_e rfl rfl (fun K1 hK1 => ?_)
                  apply Exists.intro
                  refine And.intro (fun wx hx => ?_) ?_
                  · go_simp
                    try rfl
                  go_simp
                  refine hK1 _ ?_
                  clear hK1 K1
                  refine wpPre_nil ?_
                  refine wpTr_e rfl (fun K1 hK1 => ?_)
                  refine step_call rfl 30 #[.tmp 52, .tmp 66] _ rfl Tryz.f30 Tryz.func30 (by kernel_rfl) rfl #[.pointer (some ⟨w.heap.size, 0, none⟩), .agg #[.string (l.item i).name, .slice ps (l.item i).sy.toNat cs, .slice pl ((l.item i).n - (l.item i).sy.toNat) cl]] rfl _ (HPu.out w3 ps cs pl cl HB3.out (own_low HR2b.out (Nat.le_refl _)) (own_low HR3.out HB2.out.size) HNe.out) (fun e w4 h4 => ?_)
                  obtain ⟨rfl, hq4⟩ := h4
                  have HQ4 := hid hq4
                  clear hq4
                  refine ⟨_, rfl, ?_⟩
                  go_simp
                  refine hK1 _ _ (fun h => by cases h) ?_
                  clear hK1 K1
                  refine wpPre_nil ?_
                  refine wpTr_done ?_
                  have HP : Hid (∃ R', RnK l w (i + 1) w4 R') := by
                    obtain ⟨f, hfk, hPt⟩ := HQ4.out
                    exact HK.out.step hfk HOk.out (HBv.out.trans (HB3.out.mono HBv.out.size)) hPt
                  go_wp2
                  go_roundw
                  case rel =>
                    obtain ⟨R', hR'⟩ := HP.out
                    exact ⟨i + 1, R', by omega, by go_num, hR'⟩
                  case measure => simp [intOf]; omega
                · have k3' : ((l.item i).n : Int) < (l.item i).sy := by omega
                  have HNo : Hid (newB l = false) := newB_no l i hlt (by simp [fOk, hnb, hdup, k1, k2, k3])
                  go_wp2
                  exact bodyPost_ret (v := .tuple #[.pointer none, .int .i64 105]) (by simp [results, Tryz.results14, go_sem]) rfl ⟨HBv.out, fun _ => rfl, fun h => by rw [HNo.out] at h; cases h⟩
              · have k2' : (l.item i).sy < 0 := by omega
                have HNo : Hid (newB l = false) := newB_no l i hlt (by simp [fOk, hnb, hdup, k1, k2])
                go_wp2
                exact bodyPost_ret (v := .tuple #[.pointer none, .int .i64 105]) (by simp [results, Tryz.results14, go_sem]) rfl ⟨HBv.out, fun _ => rfl, fun h => by rw [HNo.out] at h; cases h⟩
            · have k1' : (65536 : Int) < ((l.item i).n : Int) := by omega
              have HNo : Hid (newB l = false) := newB_no l i hlt (by simp [fOk, hnb, hdup, k1])
              go_wp2
              exact bodyPost_ret (v := .tuple #[.pointer none, .int .i64 105]) (by simp [results, Tryz.results14, go_sem]) rfl ⟨HBv.out, fun _ => rfl, fun h => by rw [HNo.out] at h; cases h⟩
      · have hlt' : ¬ (i : Int) < (l.n : Int) := by omega
        obtain rfl : i = l.n := by omega
        have HY : Hid (newB l = true) := newB_yes l hn HI.out.ok
        go_wp2
        exact bodyPost_ret (v := .tuple #[.pointer (some ⟨w.heap.size, 0, none⟩), .int .i64 0]) (by simp [results, Tryz.results14, go_sem]) rfl ⟨HI.out.bel, (fun h => by rw [HY.out] at h; cases h), fun _ => ⟨R, rfl, HK.out⟩⟩
end Go.Proofs.YtebiidfdokhpaabGreatDoor
