import Derived.Test.YtkfcilandmhomaaDoorPack10
namespace Go.Proofs.YtkfcilandmhomaaDoor
open Go.RowKit
set_option maxRecDepth 8000
def names (l : LT FA) (i : Nat) : List ByteArray := (List.range i).map fun j => (l.item j).name
/-- can these be the files of a disk? -/
def newB (l : LT FA) : Bool := decide (l.n ≤ 400) && (List.range l.n).all fun i => fOk (names l i) (l.item i)
theorem newB_no (l : LT FA) (i : Nat) (hi : i < l.n) (h : fOk (names l i) (l.item i) = false) : newB l = false := by
  cases hb : newB l with
  | false => rfl
  | true =>
    simp only [newB, Bool.and_eq_true, decide_eq_true_eq, List.all_eq_true, List.mem_range] at hb
    have := hb.2 i hi
    rw [h] at this
    cases this
theorem newB_yes (l : LT FA) (hn : l.n ≤ 400) (h : ∀ i, i < l.n → fOk (names l i) (l.item i) = true) : newB l = true := by
  simp only [newB, Bool.and_eq_true, decide_eq_true_eq, List.all_eq_true, List.mem_range]
  exact ⟨hn, h⟩
def FT.key (f : FT) : ByteArray × List Int × Int := (f.name, f.zs, (f.sure : Int))
def FA.key (a : FA) : ByteArray × List Int × Int := (a.name, a.zs, a.sy)
/-- the disk while its first i files are laid -/
structure NwI (l : LT FA) (w : World) (i : Nat) (wr : World) (D : DK) : Prop where
  dk : DkI wr (fun k => w.heap.size ≤ k) (w.heap.size + 1) D
  mb : D.mb = w.heap.size
  ks : D.fs.map FT.key = (List.range i).map fun j => (l.item j).key
  ok : ∀ j, j < i → fOk (names l j) (l.item j) = true
  fl : D.set = false ∧ D.units = 0 ∧ D.after = 0 ∧ D.calls = 0 ∧ D.down = false
  bel : Below w.heap.size w wr
theorem FA.zs_len (a : FA) : a.zs.length = a.n := by simp [FA.zs]
theorem NwI.nms {l : LT FA} {w : World} {i : Nat} {wr : World} {D : DK} (h : NwI l w i wr D) : D.ents.map (·.1) = names l i := by
  have h1 := congrArg (List.map Prod.fst) h.ks
  simp only [List.map_map] at h1
  simpa [DK.ents, names, List.map_map, Function.comp_def, FT.key, FA.key] using h1
theorem NwI.lk0 {l : LT FA} {w : World} {i : Nat} {wr : World} {D : DK} (h : NwI l w i wr D) {s : ByteArray} (hk : lk D.ents s = none) : ((names l i).any fun x => decide (x = s)) = false := by
  rw [← h.nms, List.any_eq_false]
  intro x hx
  obtain ⟨p, hp, rfl⟩ := List.mem_map.1 hx
  simpa using lk_none.1 hk p hp
theorem NwI.lk1 {l : LT FA} {w : World} {i : Nat} {wr : World} {D : DK} (h : NwI l w i wr D) {s : ByteArray} {v : Value} (hk : lk D.ents s = some v) : ((names l i).any fun x => decide (x = s)) = true ∧ ∃ fb, v = .pointer (some ⟨fb, 0, none⟩) := by
  have hnd : (D.ents.map (·.1)).Nodup := by obtain ⟨es, ck, _, hE⟩ := h.dk.mp; exact hE.nodup
  have hm := (lk_some hnd).1 hk
  refine ⟨?_, ?_⟩
  · rw [← h.nms, List.any_eq_true]
    exact ⟨s, List.mem_map.2 ⟨_, hm, rfl⟩, by simp⟩
  · obtain ⟨f, _, hf⟩ := List.mem_map.1 hm
    exact ⟨f.fb, (Prod.mk.inj hf).2.symm⟩
theorem NwI.push {l : LT FA} {w : World} {i : Nat} {wr : World} {D : DK} (h : NwI l w i wr D) (hi : i < l.n) (hn : l.n ≤ 400) (hok : fOk (names l i) (l.item i) = true) {wC w' : World} {fb c' : Nat} {p' : Option Addr} (hb : Below wr.heap.size wr wC) (hfb : wr.heap.size ≤ fb)
    (hx : Box wC fb #[.slice p' (l.item i).n c', .int .i64 (l.item i).sy] 76) (hr : OwnBy wr.heap.size wC (.slice p' (l.item i).n c') (l.item i).zs) (hne : ∀ g, (Value.slice p' (l.item i).n c').ownBlock = some g → g ≠ fb)
    (hm : MpI w' D.mb (D.ents ++ [((l.item i).name, .pointer (some ⟨fb, 0, none⟩))])) (hbt : But (fun k => k = D.mb) wC w') (hby : ∀ z ∈ (l.item i).zs, 0 ≤ z ∧ z ≤ 255) : ∃ D', NwI l w (i + 1) w' D' := by
  simp only [fOk, Bool.and_eq_true, decide_eq_true_eq, Bool.not_eq_true'] at hok
  obtain ⟨⟨ho1, ho2⟩, ho3, ho4, ho5⟩ := hok
  have hlen := FA.zs_len (l.item i)
  have hmb := h.mb
  have hdb := h.dk.bx.lt
  have hmlt := h.dk.mp.lt
  have hsz := h.bel.size
  have hfl := hx.lt
  have hsy : (((l.item i).sy.toNat : Nat) : Int) = (l.item i).sy := by omega
  have hle : i ≤ 400 := by omega
  have hfl0 : D.fs.length = i := by have := congrArg List.length h.ks; simpa using this
  have old : ∀ k, k < wr.heap.size → k ≠ D.mb → w'.heap[k]? = wr.heap[k]? := fun k hk hkm => (hbt.block k (Nat.lt_of_lt_of_le hk hb.size) hkm).trans (hb.block k hk)
  have new : ∀ k, wr.heap.size ≤ k → k < wC.heap.size → w'.heap[k]? = wC.heap[k]? := fun k hk hl => hbt.block k hl (fun e => by have e' : k = D.mb := e; omega)
  have hfI : FtI w' (fun k => w.heap.size ≤ k) ⟨(l.item i).name, fb, p', c', (l.item i).zs, (l.item i).sy.toNat⟩ := by
    refine ⟨(nmB_iff _).1 ho1, ?_, ?_, ?_, ?_, ?_, ?_, hby⟩
    · show Box w' fb #[.slice p' (l.item i).zs.length c', .int .i64 (((l.item i).sy.toNat : Nat) : Int)] 76
      rw [hlen, hsy]
      exact hx.kept (new fb hfb hfl)
    · show OwnBy 0 w' (.slice p' (l.item i).zs.length c') (l.item i).zs
      rw [hlen]
      exact own_low (ownsRow_keep hr fun g hg hl => new g (hr.lt g hg).1 hl) (Nat.zero_le _)
    · intro g hg
      have hg' : (Value.slice p' (l.item i).n c').ownBlock = Option.some g := by rw [← hlen]; exact hg
      exact ⟨Nat.le_trans hsz (hr.lt g hg').1, hne g hg'⟩
    · show w.heap.size ≤ fb; omega
    · show (l.item i).zs.length ≤ 65536; omega
    · show (l.item i).sy.toNat ≤ (l.item i).zs.length; omega
  have hnb : ∀ k, FT.blk ⟨(l.item i).name, fb, p', c', (l.item i).zs, (l.item i).sy.toNat⟩ k → wr.heap.size ≤ k := by
    rintro k (rfl | hk)
    · exact hfb
    · have hk' : (Value.slice p' (l.item i).n c').ownBlock = Option.some k := by rw [← hlen]; exact hk
      exact (hr.lt k hk').1
  refine ⟨{ D with fs := D.fs ++ [⟨(l.item i).name, fb, p', c', (l.item i).zs, (l.item i).sy.toNat⟩] }, ⟨?_, ?_, ?_, ?_, ?_, ?_, ?_, ?_, ?_, h.dk.bu, h.dk.ba, h.dk.bc⟩, h.mb, ?_, ?_, h.fl, ?_⟩
  · exact h.dk.bx.kept (old _ hdb h.dk.ne)
  · show MpI w' D.mb (DK.ents _)
    simpa [DK.ents] using hm
  · exact h.dk.cb
  · exact h.dk.cm
  · exact h.dk.ne
  · intro f hf
    rcases List.mem_append.1 hf with hf | hf
    · exact (h.dk.each f hf).kept (fun k hk => old k ((h.dk.each f hf).blk hk).2 (h.dk.low f hf k hk).2) (fun k hk => ((h.dk.each f hf).blk hk).1)
    · obtain rfl := List.mem_singleton.1 hf
      exact hfI
  · intro f hf k hk
    rcases List.mem_append.1 hf with hf | hf
    · exact h.dk.low f hf k hk
    · obtain rfl := List.mem_singleton.1 hf
      have := hnb k hk
      exact ⟨by omega, by show k ≠ D.mb; omega⟩
  · rw [List.pairwise_append]
    refine ⟨h.dk.apart, List.pairwise_singleton _ _, fun f hf g hg k hk hk2 => ?_⟩
    obtain rfl := List.mem_singleton.1 hg
    have h1 := ((h.dk.each f hf).blk hk).2
    have h2 := hnb k hk2
    omega
  · show (D.fs ++ [_]).length ≤ 400
    rw [List.length_append, hfl0]
    show i + 1 ≤ 400
    omega
  · show (D.fs ++ [_]).map FT.key = _
    rw [List.map_append, h.ks, List.range_succ, List.map_append]
    simp [FT.key, FA.key, hsy]
  · intro j hj
    by_cases hji : j < i
    · exact h.ok j hji
    · obtain rfl : j = i := by omega
      simp only [fOk, Bool.and_eq_true, decide_eq_true_eq, Bool.not_eq_true']
      exact ⟨⟨ho1, ho2⟩, ho3, ho4, ho5⟩
  · exact h.bel.trans ((hb.mono hsz).trans (hbt.below (Nat.le_trans hsz hb.size) fun k hk e => by have e' : k = D.mb := e; omega))
/-- what New answers -/
def NewQ (l : LT FA) (w : World) (e : Ending) (w' : World) : Prop :=
  Below w.heap.size w w' ∧ (newB l = false → e = .returned (.tuple #[.pointer none, .int .i64 105])) ∧
    (newB l = true → ∃ D, e = .returned (.tuple #[.pointer (some ⟨w.heap.size + 1, 0, none⟩), .int .i64 0]) ∧ NwI l w l.n w' D)
set_option maxHeartbeats 8000000 in
theorem dnew_any (l : LT FA) (w : World) (hl : LT.In elF w (fun b => b < w.heap.size) l) :
    Calls Tryd.prog 8 #[.slice l.p l.n l.c] w fun e w' => NewQ l w e w' := by
  have HL := hid hl
  have hnn := hl.nn
  clear hl
  by_cases hn : l.n ≤ 400
  case neg =>
    have hn' : (400 : Int) < (l.n : Int) := by omega
    have HNo : Hid (newB l = false) := by show newB l = false; simp [newB, hn]
    go_enter Tryd.func8, Tryd.ntmps8
    go_wp2
    exact bodyPost_ret (v := .tuple #[.pointer none, .int .i64 105]) (by simp [results, Tryd.results8, go_sem]) rfl ⟨Below.refl _ _, fun _ => rfl, fun h => by rw [HNo.out] at h; cases h⟩
  case pos =>
    have hn' : ¬ (400 : Int) < (l.n : Int) := by omega
    go_enter Tryd.func8, Tryd.ntmps8
    have hmk : (Instr.makeMap 59 (some (.int .i64 (l.n : Int)))).run Tryd.prog w = .ok (.map (some w.heap.size)) (w.alloc (.map #[] 0)) := by
      simp [Instr.makeMap, run_underlying Tryd.underlying59, go_sem]
    obtain ⟨W, hW⟩ : ∃ V, V = (w.alloc (.map #[] 0)).alloc (.cells #[.map (some w.heap.size), .bool false, .int .i64 0, .int .i64 0, .int .i64 0, .bool false] 67) := ⟨_, rfl⟩
    have HI0 : Hid (NwI l w 0 W ⟨w.heap.size, [], false, 0, 0, 0, false⟩) := by
      have hB : Below w.heap.size w W := by rw [hW]; exact ((Below.refl _ _).alloc (Nat.le_refl _) _).alloc (by simp) _
      have hX : Box W (w.heap.size + 1) #[.map (some w.heap.size), .bool false, .int .i64 0, .int .i64 0, .int .i64 0, .bool false] 67 := by
        have h := Box.new (w.alloc (.map #[] 0)) #[.map (some w.heap.size), .bool false, .int .i64 0, .int .i64 0, .int .i64 0, .bool false] 67
        rw [World.size_alloc] at h
        rw [hW]; exact h
      have hM : MpI W w.heap.size [] := ⟨#[], 0, by rw [hW]; exact (Below.heap_alloc _ _ _ (by simp)).trans (Go.heap_alloc_new w _), MapKept.stamped_empty 0, rfl, fun p hp => by cases hp⟩
      exact ⟨⟨hX, hM, Nat.le_succ _, Nat.le_refl _, by show w.heap.size + 1 ≠ w.heap.size; omega, fun f hf => (by cases hf), fun f hf => (by cases hf), List.Pairwise.nil, Nat.zero_le _, ⟨Int.le_refl _, by show (0 : Int) ≤ 9223372036854775807; omega⟩, ⟨Int.le_refl _, by show (0 : Int) ≤ 9223372036854775807; omega⟩, ⟨Int.le_refl _, by show (0 : Int) ≤ 9223372036854775807; omega⟩⟩, rfl, rfl, fun j hj => absurd hj (by omega), ⟨rfl, rfl, rfl, rfl, rfl⟩, hB⟩
    have HW := hid hW
    clear hW
    go_upto_region 4 with fail
    rw [← HW.out]
    go_wp2_with fail
    go_loopw [19] (fun x wr => ∃ (i : Nat) (D : DK), i ≤ l.n ∧ x = .int .i64 (i : Int) ∧ NwI l w i wr D) (fun x _ => l.n - (intOf x).toNat)
    case atStart => exact ⟨0, _, Nat.zero_le _, rfl, HI0.out⟩
    case round =>
      obtain ⟨i, D, hi, rfl, hI⟩ := hrel
      have HI := hid hI
      clear hI
      by_cases hlt : i < l.n
      · have hlt' : (i : Int) < (l.n : Int) := by omega
        obtain ⟨bb, o, hp, _, hbb, hat⟩ := HL.out.at_ (by omega)
        rw [hp]
        have hce : ∀ r u, (elF.cells (l.item i))[r]? = some u → wr.cell? ⟨bb, o + i * 3 + r, none⟩ = some u := fun r u hu => (World.cell?_of_block (a := ⟨bb, o + i * 3 + r, none⟩) (HI.out.bel.block bb hbb)).trans (hat i hlt r u hu)
        have c0 : wr.cell? ⟨bb, o + i * 3, none⟩ = some (.string (l.item i).name) := hce 0 _ rfl
        have c1 : wr.cell? ⟨bb, o + i * 3 + 1, none⟩ = some (.slice (l.item i).p (l.item i).n (l.item i).c) := hce 1 _ rfl
        have c2 : wr.cell? ⟨bb, o + i * 3 + 2, none⟩ = some (.int .i64 (l.item i).sy) := hce 2 _ rfl
        have HA := hid (HL.out.each i hlt)
        clear hce hat
        obtain ⟨V1, hV1⟩ : ∃ V, V = wr.alloc (.cells #[.string (l.item i).name, .slice (l.item i).p (l.item i).n (l.item i).c, .int .i64 (l.item i).sy] 58) := ⟨_, rfl⟩
        have HB1 : Hid (Below wr.heap.size wr V1) := by show Below _ _ _; rw [hV1]; exact (Below.refl _ _).alloc (Nat.le_refl _) _
        have HX1 : Hid (Box V1 wr.heap.size #[.string (l.item i).name, .slice (l.item i).p (l.item i).n (l.item i).c, .int .i64 (l.item i).sy] 58) := by show Box _ _ _ _; rw [hV1]; exact Box.new _ _ _
        have HV1 := hid hV1
        clear hV1
        go_upto_region 7 with fail
        rw [← HV1.out]
        clear c0 c1 c2
        have x0 := HX1.out.cell 0
        have xl := HX1.out.lt
        simp at x0
        go_wp2_with fail
        refine (labelOf_any (l.item i).name V1 HA.out.1).mono ?_
        rintro e w2 ⟨rfl, hb2⟩
        have HB2 : Hid (Below wr.heap.size wr w2) := HB1.out.trans (hb2.mono HB1.out.size)
        have HX2 := hid (HX1.out.below hb2)
        clear x0 xl hb2
        cases hnb : nmB (l.item i).name with
        | false =>
          rw [labR_no hnb]
          have HNo : Hid (newB l = false) := newB_no l i hlt (by simp [fOk, hnb])
          obtain ⟨V3, hV3⟩ : ∃ V, V = w2.alloc (.cells #[.int .u8 0, .int .u8 0, .int .u8 0, .int .u8 0, .int .u8 0, .int .u8 0, .int .u8 0, .int .u8 0, .int .u8 0, .int .u8 0, .int .u8 0, .int .u8 0] 69) := ⟨_, rfl⟩
          have HB3 : Hid (Below w.heap.size w V3) := by show Below _ _ _; rw [hV3]; exact HI.out.bel.trans ((HB2.out.trans (((Below.refl _ _).alloc (Nat.le_refl _) _).mono HB2.out.size)).mono HI.out.bel.size)
          have HV3 := hid hV3
          clear hV3
          go_upto_region 8 with fail
          rw [← HV3.out]
          refine wp_region_calmE 30 (fun wx => Below V3.heap.size V3 wx) [(0, true), (1, true), (2, true), (3, true), (4, true), (5, true), (6, false), (7, false), (8, false), (9, true), (10, true), (11, true), (12, false)] (.one 13 false [(14, true), (15, true)] .done) (by kernel_rfl) (by kernel_rfl) (Below.refl _ _).drew ?_
          refine wpPre_e rfl rfl (fun K1 hK1 => ?_)
          apply Exists.intro
          refine And.intro (fun wx hx => ?_) ?_
          · go_simp
            try rfl
          go_simp
          refine hK1 _ ?_
          clear hK1 K1
          refine wpPre_e rfl rfl (fun K1 hK1 => ?_)
          apply Exists.intro
          refine And.intro (fun wx hx => ?_) ?_
          · go_simp
            try rfl
          go_simp
          refine hK1 _ ?_
          clear hK1 K1
          refine wpPre_e rfl rfl (fun K1 hK1 => ?_)
          apply Exists.intro
          refine And.intro (fun wx hx => ?_) ?_
          · go_simp
            try rfl
          go_simp
          refine hK1 _ ?_
          clear hK1 K1
          refine wpPre_i rfl (fun K1 hK1 => ?_)
          rw [if_neg (by go_simp; all_goals (intro h; cases h))]
          go_simp
          refine hK1 _ ?_
          clear hK1 K1
          refine wpPre_i rfl (fun K1 hK1 => ?_)
          rw [if_neg (by go_simp; all_goals (intro h; cases h))]
          go_simp
          refine hK1 _ ?_
          clear hK1 K1
          refine wpPre_i rfl (fun K1 hK1 => ?_)
          rw [if_neg (by go_simp; all_goals (intro h; cases h))]
          go_simp
          refine hK1 _ ?_
          clear hK1 K1
          refine wpPre_i rfl (fun K1 hK1 => ?_)
          rw [if_neg (by go_simp; all_goals (intro h; cases h))]
          go_simp
          refine hK1 _ ?_
          clear hK1 K1
          refine wpPre_i rfl (fun K1 hK1 => ?_)
          rw [if_neg (by go_simp; all_goals (intro h; cases h))]
          go_simp
          refine hK1 _ ?_
          clear hK1 K1
          refine wpPre_i rfl (fun K1 hK1 => ?_)
          rw [if_neg (by go_simp; all_goals (intro h; cases h))]
          go_simp
          refine hK1 _ ?_
          clear hK1 K1
          refine wpPre_i rfl (fun K1 hK1 => ?_)
          rw [if_neg (by go_simp; all_goals (intro h; cases h))]
          go_simp
          refine hK1 _ ?_
          clear hK1 K1
          refine wpPre_e rfl rfl (fun K1 hK1 => ?_)
          apply Exists.intro
          refine And.intro (fun wx hx => ?_) ?_
          · go_simp
            try rfl
          go_simp
          refine hK1 _ ?_
          clear hK1 K1
          refine wpPre_e rfl rfl (fun K1 hK1 => ?_)
          apply Exists.intro
          refine And.intro (fun wx hx => ?_) ?_
          · go_simp
            try rfl
          go_simp
          refine hK1 _ ?_
          clear hK1 K1
          refine wpPre_i rfl (fun K1 hK1 => ?_)
          rw [if_neg (by go_simp; all_goals (intro h; cases h))]
          go_simp
          refine hK1 _ ?_
          clear hK1 K1
          refine wpPre_nil ?_
          refine wpTr_e rfl (fun K1 hK1 => ?_)
          rw [if_neg (by go_simp; all_goals (intro h; cases h))]
          go_simp
          refine hK1 _ _ (fun h => by cases h) ?_
          clear hK1 K1
          refine wpPre_i rfl (fun K1 hK1 => ?_)
          rw [if_neg (by go_simp; all_goals (intro h; cases h))]
          go_simp
          refine hK1 _ ?_
          clear hK1 K1
          refine wpPre_e rfl rfl (fun K1 hK1 => ?_)
          apply Exists.intro
          refine And.intro (fun wx hx => ?_) ?_
          · go_simp
            try rfl
          go_simp
          refine hK1 _ ?_
          clear hK1 K1
          refine wpPre_nil ?_
          refine wpTr_done ?_
          go_wp2
          exact bodyPost_ret (v := .tuple #[.pointer none, .int .i64 105]) (by simp [results, Tryd.results8, go_sem]) rfl ⟨HB3.out.drew, fun _ => rfl, fun h => by rw [HNo.out] at h; cases h⟩
        | true =>
          have HNm : Hid (Nm (l.item i).name) := (nmB_iff _).1 hnb
          rw [labR_yes hnb]
          simp only [labV, labC]
          obtain ⟨V3, hV3⟩ : ∃ V, V = w2.alloc (.cells #[.int .u8 (bat (l.item i).name 0), .int .u8 (bat (l.item i).name 1), .int .u8 (bat (l.item i).name 2), .int .u8 (bat (l.item i).name 3), .int .u8 (bat (l.item i).name 4), .int .u8 (bat (l.item i).name 5), .int .u8 (bat (l.item i).name 6), .int .u8 (bat (l.item i).name 7), .int .u8 (bat (l.item i).name 8), .int .u8 (bat (l.item i).name 9), .int .u8 (bat (l.item i).name 10), .int .u8 (bat (l.item i).name 11)] 69) := ⟨_, rfl⟩
          have HB3 : Hid (Below wr.heap.size wr V3) := by show Below _ _ _; rw [hV3]; exact HB2.out.trans (((Below.refl _ _).alloc (Nat.le_refl _) _).mono HB2.out.size)
          have HX3 : Hid (Box V3 wr.heap.size #[.string (l.item i).name, .slice (l.item i).p (l.item i).n (l.item i).c, .int .i64 (l.item i).sy] 58) := by show Box _ _ _ _; rw [hV3]; exact HX2.out.below ((Below.refl _ _).alloc (Nat.le_refl _) _)
          have HY3 : Hid (Box V3 w2.heap.size #[.int .u8 (bat (l.item i).name 0), .int .u8 (bat (l.item i).name 1), .int .u8 (bat (l.item i).name 2), .int .u8 (bat (l.item i).name 3), .int .u8 (bat (l.item i).name 4), .int .u8 (bat (l.item i).name 5), .int .u8 (bat (l.item i).name 6), .int .u8 (bat (l.item i).name 7), .int .u8 (bat (l.item i).name 8), .int .u8 (bat (l.item i).name 9), .int .u8 (bat (l.item i).name 10), .int .u8 (bat (l.item i).name 11)] 69) := by show Box _ _ _ _; rw [hV3]; exact Box.new _ _ _
          have HV3 := hid hV3
          clear hV3
          have HM : Hid (MpI V3 D.mb D.ents) := HI.out.dk.mp.kept (HB3.out.block _ HI.out.dk.mp.lt)
          have HD3 : Hid (Box V3 (w.heap.size + 1) #[.map (some D.mb), .bool D.set, .int .i64 D.units, .int .i64 D.after, .int .i64 D.calls, .bool D.down] 67) := HI.out.dk.bx.below HB3.out
          have d0 := HD3.out.cell 0
          have d1 := HD3.out.cell 1
          have d2 := HD3.out.cell 2
          have d3 := HD3.out.cell 3
          have d4 := HD3.out.cell 4
          have d5 := HD3.out.cell 5
          have dl := HD3.out.lt
          simp at d0 d1 d2 d3 d4 d5
          have y0 := HY3.out.cell 0
          have y1 := HY3.out.cell 1
          have y2 := HY3.out.cell 2
          have y3 := HY3.out.cell 3
          have y4 := HY3.out.cell 4
          have y5 := HY3.out.cell 5
          have y6 := HY3.out.cell 6
          have y7 := HY3.out.cell 7
          have y8 := HY3.out.cell 8
          have y9 := HY3.out.cell 9
          have y10 := HY3.out.cell 10
          have y11 := HY3.out.cell 11
          have yl := HY3.out.lt
          simp at y0 y1 y2 y3 y4 y5 y6 y7 y8 y9 y10 y11
          have f0 := HX3.out.cell 0
          have f1 := HX3.out.cell 1
          have f2 := HX3.out.cell 2
          have fl := HX3.out.lt
          simp at f0 f1 f2
          go_upto_region 8 with fail
          rw [← HV3.out]
          cases hlk : lk D.ents (l.item i).name with
          | some v =>
            obtain ⟨fb, rfl⟩ := (HI.out.lk1 hlk).2
            have HNo : Hid (newB l = false) := newB_no l i hlt (by simp [fOk, hnb, (HI.out.lk1 hlk).1])
            refine wp_region_calmE 30 (fun wx => Below V3.heap.size V3 wx) [(0, true), (1, true), (2, true), (3, true), (4, true), (5, true), (6, false), (7, false), (8, false), (9, true), (10, true), (11, true), (12, false)] (.one 13 false [(14, true), (15, true)] .done) (by kernel_rfl) (by kernel_rfl) (Below.refl _ _).drew ?_
            refine wpPre_e rfl rfl (fun K1 hK1 => ?_)
            apply Exists.intro
            refine And.intro (fun wx hx => ?_) ?_
            · go_simp
              try rfl
            go_simp
            refine hK1 _ ?_
            clear hK1 K1
            refine wpPre_e rfl rfl (fun K1 hK1 => ?_)
            apply Exists.intro
            refine And.intro (fun wx hx => ?_) ?_
            · go_simp
              try rfl
            go_simp
            refine hK1 _ ?_
            clear hK1 K1
            refine wpPre_e rfl rfl (fun K1 hK1 => ?_)
            apply Exists.intro
            refine And.intro (fun wx hx => ?_) ?_
            · go_simp
              try rfl
            go_simp
            refine hK1 _ ?_
            clear hK1 K1
            refine wpPre_i rfl (fun K1 hK1 => ?_)
            rw [if_pos (by go_simp)]
            apply Exists.intro
            refine And.intro (fun wx hx => ?_) ?_
            · go_simp
              try rfl
            go_simp
            refine hK1 _ ?_
            clear hK1 K1
            refine wpPre_i rfl (fun K1 hK1 => ?_)
            rw [if_pos (by go_simp)]
            apply Exists.intro
            refine And.intro (fun wx hx => ?_) ?_
            · go_simp
              try rfl
            go_simp
            refine hK1 _ ?_
            clear hK1 K1
            refine wpPre_i rfl (fun K1 hK1 => ?_)
            rw [if_pos (by go_simp)]
            apply Exists.intro
            refine And.intro (fun wx hx => ?_) ?_
            · go_simp
              try rfl
            go_simp
            refine hK1 _ ?_
            clear hK1 K1
            refine wpPre_i rfl (fun K1 hK1 => ?_)
            rw [if_pos (by go_simp)]
            apply Exists.intro
            refine And.intro (fun wx hx => ?_) ?_
            · have e0 := below_fact hx rfl d0
              go_simp
              try rfl
            go_simp
            refine hK1 _ ?_
            clear hK1 K1
            refine wpPre_i rfl (fun K1 hK1 => ?_)
            rw [if_pos (by go_simp)]
            apply Exists.intro
            refine And.intro (fun wx hx => ?_) ?_
            · have e0 := below_fact hx rfl y0
              have e1 := below_fact hx rfl y1
              have e2 := below_fact hx rfl y2
              have e3 := below_fact hx rfl y3
              have e4 := below_fact hx rfl y4
              have e5 := below_fact hx rfl y5
              have e6 := below_fact hx rfl y6
              have e7 := below_fact hx rfl y7
              have e8 := below_fact hx rfl y8
              have e9 := below_fact hx rfl y9
              have e10 := below_fact hx rfl y10
              have e11 := below_fact hx rfl y11
              go_simp
              try rfl
            go_simp
            refine hK1 _ ?_
            clear hK1 K1
            refine wpPre_i rfl (fun K1 hK1 => ?_)
            rw [if_pos (by go_simp)]
            apply Exists.intro
            refine And.intro (fun wx hx => ?_) ?_
            · have hx2 := hx.resolve_left (by simp)
              have e0 := run_look (HM.out.kept (hx2.block _ HM.out.lt)) HNm.out false
              simp only [labV, labC, hlk, Option.getD_some, Bool.false_eq_true, if_false] at e0
              go_simp
              try rfl
            go_simp
            refine hK1 _ ?_
            clear hK1 K1
            refine wpPre_i rfl (fun K1 hK1 => ?_)
            rw [if_pos (by go_simp)]
            apply Exists.intro
            refine And.intro (fun wx hx => ?_) ?_
            · go_simp
              try rfl
            go_simp
            refine hK1 _ ?_
            clear hK1 K1
            refine wpPre_e rfl rfl (fun K1 hK1 => ?_)
            apply Exists.intro
            refine And.intro (fun wx hx => ?_) ?_
            · go_simp
              try rfl
            go_simp
            refine hK1 _ ?_
            clear hK1 K1
            refine wpPre_e rfl rfl (fun K1 hK1 => ?_)
            apply Exists.intro
            refine And.intro (fun wx hx => ?_) ?_
            · go_simp
              try rfl
            go_simp
            refine hK1 _ ?_
            clear hK1 K1
            refine wpPre_i rfl (fun K1 hK1 => ?_)
            rw [if_neg (by go_simp; all_goals (intro h; cases h))]
            go_simp
            refine hK1 _ ?_
            clear hK1 K1
            refine wpPre_nil ?_
            refine wpTr_e rfl (fun K1 hK1 => ?_)
            rw [if_neg (by go_simp; all_goals (intro h; cases h))]
            go_simp
            refine hK1 _ _ (fun h => by cases h) ?_
            clear hK1 K1
            refine wpPre_i rfl (fun K1 hK1 => ?_)
            rw [if_neg (by go_simp; all_goals (intro h; cases h))]
            go_simp
            refine hK1 _ ?_
            clear hK1 K1
            refine wpPre_e rfl rfl (fun K1 hK1 => ?_)
            apply Exists.intro
            refine And.intro (fun wx hx => ?_) ?_
            · go_simp
              try rfl
            go_simp
            refine hK1 _ ?_
            clear hK1 K1
            refine wpPre_nil ?_
            refine wpTr_done ?_
            go_wp2
            exact bodyPost_ret (v := .tuple #[.pointer none, .int .i64 105]) (by simp [results, Tryd.results8, go_sem]) rfl ⟨(HI.out.bel.trans (HB3.out.mono HI.out.bel.size)).drew, fun _ => rfl, fun h => by rw [HNo.out] at h; cases h⟩
          | none =>
            go_cut [44] (fun s44 wy => s44 = .bool (!fitF (l.item i).n (l.item i).sy) ∧ Below V3.heap.size V3 wy)
            case first =>
              refine wp_region_calmE 30 (fun wx => Below V3.heap.size V3 wx) [(0, true), (1, true), (2, true), (3, true), (4, true), (5, true), (6, false), (7, false), (8, false), (9, true), (10, true), (11, true), (12, false)] (.one 13 false [(14, true), (15, true)] .done) (by kernel_rfl) (by kernel_rfl) (Below.refl _ _).drew ?_
              refine wpPre_e rfl rfl (fun K1 hK1 => ?_)
              apply Exists.intro
              refine And.intro (fun wx hx => ?_) ?_
              · go_simp
                try rfl
              go_simp
              refine hK1 _ ?_
              clear hK1 K1
              refine wpPre_e rfl rfl (fun K1 hK1 => ?_)
              apply Exists.intro
              refine And.intro (fun wx hx => ?_) ?_
              · go_simp
                try rfl
              go_simp
              refine hK1 _ ?_
              clear hK1 K1
              refine wpPre_e rfl rfl (fun K1 hK1 => ?_)
              apply Exists.intro
              refine And.intro (fun wx hx => ?_) ?_
              · go_simp
                try rfl
              go_simp
              refine hK1 _ ?_
              clear hK1 K1
              refine wpPre_i rfl (fun K1 hK1 => ?_)
              rw [if_pos (by go_simp)]
              apply Exists.intro
              refine And.intro (fun wx hx => ?_) ?_
              · go_simp
                try rfl
              go_simp
              refine hK1 _ ?_
              clear hK1 K1
              refine wpPre_i rfl (fun K1 hK1 => ?_)
              rw [if_pos (by go_simp)]
              apply Exists.intro
              refine And.intro (fun wx hx => ?_) ?_
              · go_simp
                try rfl
              go_simp
              refine hK1 _ ?_
              clear hK1 K1
              refine wpPre_i rfl (fun K1 hK1 => ?_)
              rw [if_pos (by go_simp)]
              apply Exists.intro
              refine And.intro (fun wx hx => ?_) ?_
              · go_simp
                try rfl
              go_simp
              refine hK1 _ ?_
              clear hK1 K1
              refine wpPre_i rfl (fun K1 hK1 => ?_)
              rw [if_pos (by go_simp)]
              apply Exists.intro
              refine And.intro (fun wx hx => ?_) ?_
              · have e0 := below_fact hx rfl d0
                go_simp
                try rfl
              go_simp
              refine hK1 _ ?_
              clear hK1 K1
              refine wpPre_i rfl (fun K1 hK1 => ?_)
              rw [if_pos (by go_simp)]
              apply Exists.intro
              refine And.intro (fun wx hx => ?_) ?_
              · have e0 := below_fact hx rfl y0
                have e1 := below_fact hx rfl y1
                have e2 := below_fact hx rfl y2
                have e3 := below_fact hx rfl y3
                have e4 := below_fact hx rfl y4
                have e5 := below_fact hx rfl y5
                have e6 := below_fact hx rfl y6
                have e7 := below_fact hx rfl y7
                have e8 := below_fact hx rfl y8
                have e9 := below_fact hx rfl y9
                have e10 := below_fact hx rfl y10
                have e11 := below_fact hx rfl y11
                go_simp
                try rfl
              go_simp
              refine hK1 _ ?_
              clear hK1 K1
              refine wpPre_i rfl (fun K1 hK1 => ?_)
              rw [if_pos (by go_simp)]
              apply Exists.intro
              refine And.intro (fun wx hx => ?_) ?_
              · have hx2 := hx.resolve_left (by simp)
                have e0 := run_look (HM.out.kept (hx2.block _ HM.out.lt)) HNm.out false
                simp only [labV, labC, hlk, Option.getD_none, Bool.false_eq_true, if_false] at e0
                go_simp
                try rfl
              go_simp
              refine hK1 _ ?_
              clear hK1 K1
              refine wpPre_i rfl (fun K1 hK1 => ?_)
              rw [if_pos (by go_simp)]
              apply Exists.intro
              refine And.intro (fun wx hx => ?_) ?_
              · go_simp
                try rfl
              go_simp
              refine hK1 _ ?_
              clear hK1 K1
              refine wpPre_e rfl rfl (fun K1 hK1 => ?_)
              apply Exists.intro
              refine And.intro (fun wx hx => ?_) ?_
              · go_simp
                try rfl
              go_simp
              refine hK1 _ ?_
              clear hK1 K1
              refine wpPre_e rfl rfl (fun K1 hK1 => ?_)
              apply Exists.intro
              refine And.intro (fun wx hx => ?_) ?_
              · go_simp
                try rfl
              go_simp
              refine hK1 _ ?_
              clear hK1 K1
              refine wpPre_i rfl (fun K1 hK1 => ?_)
              rw [if_pos (by go_simp)]
              apply Exists.intro
              refine And.intro (fun wx hx => ?_) ?_
              · have e0 := below_fact hx rfl f0
                have e1 := below_fact hx rfl f1
                have e2 := below_fact hx rfl f2
                go_simp
                try rfl
              go_simp
              refine hK1 _ ?_
              clear hK1 K1
              refine wpPre_nil ?_
              refine wpTr_e rfl (fun K1 hK1 => ?_)
              refine step_callG (by first | rfl | go_simp) 27 #[.tmp 41] _ rfl Tryd.f27 Tryd.func27 (by kernel_rfl) rfl #[.agg #[.string (l.item i).name, .slice (l.item i).p (l.item i).n (l.item i).c, .int .i64 (l.item i).sy]] rfl _ (dfits_any (l.item i).name (l.item i).p (l.item i).n (l.item i).c (l.item i).sy _) ?_
              rintro e_ w4 ⟨rfl, hb4⟩
              refine ⟨_, rfl, ?_⟩
              have HB4 : Hid (Below V3.heap.size V3 w4) := (Below.refl _ _).drew.trans hb4
              clear hb4
              go_simp
              refine hK1 _ _ (fun h => by cases h) ?_
              clear hK1 K1
              refine wpPre_i rfl (fun K1 hK1 => ?_)
              rw [if_pos (by go_simp)]
              apply Exists.intro
              refine And.intro (fun wx hx => ?_) ?_
              · go_simp
                try rfl
              go_simp
              refine hK1 _ ?_
              clear hK1 K1
              refine wpPre_e rfl rfl (fun K1 hK1 => ?_)
              apply Exists.intro
              refine And.intro (fun wx hx => ?_) ?_
              · go_simp
                try rfl
              go_simp
              refine hK1 _ ?_
              clear hK1 K1
              refine wpPre_nil ?_
              refine wpTr_done ?_
              go_wp2_with fail
              go_meet
              exact ⟨rfl, HB4.out⟩
            case rest =>
              obtain ⟨rfl, hb4⟩ := hcut
              obtain ⟨w4, hwc⟩ : ∃ x, x = wc := ⟨_, rfl⟩
              subst hwc
              have HB4 : Hid (Below wr.heap.size wr w4) := HB3.out.trans (hb4.mono HB3.out.size)
              have HD4 := hid (HD3.out.below hb4)
              have HY4 := hid (HY3.out.below hb4)
              have HX4 := hid (HX3.out.below hb4)
              have HM4 : Hid (MpI w4 D.mb D.ents) := HM.out.kept (hb4.block _ HM.out.lt)
              clear hb4 d0 d1 d2 d3 d4 d5 dl y0 y1 y2 y3 y4 y5 y6 y7 y8 y9 y10 y11 yl f0 f1 f2 fl
              cases hft : fitF (l.item i).n (l.item i).sy with
              | false =>
                have HNo : Hid (newB l = false) := newB_no l i hlt (by have := hft; unfold fitF at this; simp [fOk, hnb, this])
                go_wp2
                exact bodyPost_ret (v := .tuple #[.pointer none, .int .i64 105]) (by simp [results, Tryd.results8, go_sem]) rfl ⟨(HI.out.bel.trans (HB4.out.mono HI.out.bel.size)), fun _ => rfl, fun h => by rw [HNo.out] at h; cases h⟩
              | true =>
                have HOk : Hid (fOk (names l i) (l.item i) = true) := by
                  have h1 := HI.out.lk0 hlk
                  have h2 := hft
                  unfold fitF at h2
                  show fOk _ _ = true
                  simp only [fOk, hnb, h1, h2]
                  rfl
                have HCl : Hid (∀ X, Below w4.heap.size w4 X → Calls Tryd.prog 28 #[.slice (l.item i).p (l.item i).n (l.item i).c] X fun e w' => ∃ (p' : Option Addr) (c' : Nat), e = .returned (.slice p' (l.item i).n c') ∧ OwnBy X.heap.size w' (.slice p' (l.item i).n c') (l.item i).zs ∧ Below X.heap.size X w') := fun X hX => by
                  have hn1 : (l.item i).n ≤ 65536 := by have := hft; simp [fitF] at this; exact this.1
                  have hsrc := (((HA.out.2.1.kept HI.out.bel.size fun b hb hl => HI.out.bel.block b hl).kept HB4.out.size fun b hb hl => HB4.out.block b hl).kept hX.size fun b hb hl => hX.block b hl).src
                  have h := bclone_any (l.item i).p (l.item i).c (l.item i).zs X (by rw [FA.zs_len]; simpa [FA.zs, List.map_map, Function.comp_def] using hsrc) (by rw [FA.zs_len]; omega)
                  rw [FA.zs_len] at h
                  exact h
                have d0 := HD4.out.cell 0
                have d1 := HD4.out.cell 1
                have d2 := HD4.out.cell 2
                have d3 := HD4.out.cell 3
                have d4 := HD4.out.cell 4
                have d5 := HD4.out.cell 5
                have dl := HD4.out.lt
                simp at d0 d1 d2 d3 d4 d5
                have y0 := HY4.out.cell 0
                have y1 := HY4.out.cell 1
                have y2 := HY4.out.cell 2
                have y3 := HY4.out.cell 3
                have y4 := HY4.out.cell 4
                have y5 := HY4.out.cell 5
                have y6 := HY4.out.cell 6
                have y7 := HY4.out.cell 7
                have y8 := HY4.out.cell 8
                have y9 := HY4.out.cell 9
                have y10 := HY4.out.cell 10
                have y11 := HY4.out.cell 11
                have yl := HY4.out.lt
                simp at y0 y1 y2 y3 y4 y5 y6 y7 y8 y9 y10 y11
                have f0 := HX4.out.cell 0
                have f1 := HX4.out.cell 1
                have f2 := HX4.out.cell 2
                have fl := HX4.out.lt
                simp at f0 f1 f2
                go_upto_region 10 with fail
                refine wp_region_calmE 30 (fun wx => Below w4.heap.size w4 wx) [(0, true), (1, true), (2, true), (3, false), (4, false), (5, true), (6, false), (8, true), (9, false)] (.one 7 true [(10, true)] (.one 11 true [] (.one 12 false [] .done))) (by kernel_rfl) (by kernel_rfl) (Below.refl _ _).drew ?_
                refine wpPre_e rfl rfl (fun K1 hK1 => ?_)
                apply Exists.intro
                refine And.intro (fun wx hx => ?_) ?_
                · go_simp
                  try rfl
                go_simp
                refine hK1 _ ?_
                clear hK1 K1
                refine wpPre_e rfl rfl (fun K1 hK1 => ?_)
                apply Exists.intro
                refine And.intro (fun wx hx => ?_) ?_
                · go_simp
                  try rfl
                go_simp
                refine hK1 _ ?_
                clear hK1 K1
                refine wpPre_e rfl rfl (fun K1 hK1 => ?_)
                apply Exists.intro
                refine And.intro (fun wx hx => ?_) ?_
                · go_simp
                  try rfl
                go_simp
                refine hK1 _ ?_
                clear hK1 K1
                refine wpPre_e rfl rfl (fun K1 hK1 => ?_)
                apply Exists.intro
                refine And.intro (fun wx hx => ?_) ?_
                · have e0 := below_fact hx rfl d0
                  go_simp
                  try rfl
                go_simp
                refine hK1 _ ?_
                clear hK1 K1
                refine wpPre_e rfl rfl (fun K1 hK1 => ?_)
                apply Exists.intro
                refine And.intro (fun wx hx => ?_) ?_
                · have e0 := below_fact hx rfl y0
                  have e1 := below_fact hx rfl y1
                  have e2 := below_fact hx rfl y2
                  have e3 := below_fact hx rfl y3
                  have e4 := below_fact hx rfl y4
                  have e5 := below_fact hx rfl y5
                  have e6 := below_fact hx rfl y6
                  have e7 := below_fact hx rfl y7
                  have e8 := below_fact hx rfl y8
                  have e9 := below_fact hx rfl y9
                  have e10 := below_fact hx rfl y10
                  have e11 := below_fact hx rfl y11
                  go_simp
                  try rfl
                go_simp
                refine hK1 _ ?_
                clear hK1 K1
                refine wpPre_e rfl rfl (fun K1 hK1 => ?_)
                apply Exists.intro
                refine And.intro (fun wx hx => ?_) ?_
                · go_simp
                  try rfl
                go_simp
                refine hK1 _ ?_
                clear hK1 K1
                refine wpPre_e rfl rfl (fun K1 hK1 => ?_)
                apply Exists.intro
                refine And.intro (fun wx hx => ?_) ?_
                · have e0 := below_fact hx rfl f1
                  go_simp
                  try rfl
                go_simp
                refine hK1 _ ?_
                clear hK1 K1
                refine wpPre_e rfl rfl (fun K1 hK1 => ?_)
                apply Exists.intro
                refine And.intro (fun wx hx => ?_) ?_
                · go_simp
                  try rfl
                go_simp
                refine hK1 _ ?_
                clear hK1 K1
                refine wpPre_e rfl rfl (fun K1 hK1 => ?_)
                apply Exists.intro
                refine And.intro (fun wx hx => ?_) ?_
                · have e0 := below_fact hx rfl f2
                  go_simp
                  try rfl
                go_simp
                refine hK1 _ ?_
                clear hK1 K1
                refine wpPre_nil ?_
                refine wpTr_e rfl (fun K1 hK1 => ?_)
                refine step_call rfl 28 #[.tmp 51] _ rfl Tryd.f28 Tryd.func28 (by kernel_rfl) rfl #[.slice (l.item i).p (l.item i).n (l.item i).c] rfl _ (HCl.out _ (Below.refl _ _).drew) (fun e w5 h5 => ?_)
                obtain ⟨p', c', rfl, hr5, hb5⟩ := h5
                have HB5 : Hid (Below w4.heap.size w4 w5) := (Below.refl _ _).drew.trans hb5
                have HR5 := hid hr5
                clear hr5 hb5
                refine ⟨_, rfl, ?_⟩
                go_simp
                refine hK1 _ _ (fun _ => HB5.out) ?_
                clear hK1 K1
                refine wpPre_e rfl rfl (fun K1 hK1 => ?_)
                apply Exists.intro
                refine And.intro (fun wx hx => ?_) ?_
                · go_simp
                  try rfl
                go_simp
                refine hK1 _ ?_
                clear hK1 K1
                refine wpPre_nil ?_
                refine wpTr_e rfl (fun K1 hK1 => ?_)
                go_simp
                have HB6 : Hid (Below w4.heap.size w4 (w5.alloc (.cells #[.slice p' (l.item i).n c', .int .i64 (l.item i).sy] 76))) := HB5.out.trans (((Below.refl _ _).alloc (Nat.le_refl _) _).mono HB5.out.size)
                refine hK1 _ _ (fun _ => HB6.out) ?_
                clear hK1 K1
                refine wpPre_nil ?_
                refine wpTr_e rfl (fun K1 hK1 => ?_)
                refine step_upd rfl (.tmp 48) (.tmp 49) (.tmp 56) rfl (b := D.mb) (Es := D.ents) (s := (l.item i).name) (u := .pointer (some ⟨w5.heap.size, 0, none⟩)) rfl rfl rfl (HM4.out.kept (HB6.out.block _ HM4.out.lt)) HNm.out hlk (fun w7 hm7 hb7 => ?_)
                have HM7 := hid hm7
                have HB7 := hid hb7
                clear hm7 hb7
                go_simp
                refine hK1 _ _ (fun h => by cases h) ?_
                clear hK1 K1
                refine wpPre_nil ?_
                refine wpTr_done ?_
                have HP : Hid (∃ D', NwI l w (i + 1) w7 D') := by
                  have hs5 : w4.heap.size ≤ w5.heap.size := HB5.out.size
                  refine HI.out.push hlt hn HOk.out (wC := w5.alloc (.cells #[.slice p' (l.item i).n c', .int .i64 (l.item i).sy] 76)) (fb := w5.heap.size) (p' := p') (c' := c') (HB4.out.trans (HB6.out.mono HB4.out.size)) (Nat.le_trans HB4.out.size hs5) (Box.new _ _ _) ?_ (fun g hg => ?_) HM7.out HB7.out (fun z hz => ?_)
                  · exact own_low (ownsRow_keep HR5.out fun g _ hl => Below.heap_alloc _ _ _ hl) HB4.out.size
                  · have := (HR5.out.lt g hg).2; omega
                  · obtain ⟨j, hj, rfl⟩ := List.mem_map.1 hz
                    have := HA.out.2.1.fit j (List.mem_range.1 hj)
                    omega
                clear HR5
                go_wp2
                go_roundw
                case rel =>
                  obtain ⟨D', hD'⟩ := HP.out
                  exact ⟨i + 1, D', by omega, by go_num, hD'⟩
                case measure => simp [intOf]; omega
      · have hlt' : ¬ (i : Int) < (l.n : Int) := by omega
        obtain rfl : i = l.n := by omega
        have HY : Hid (newB l = true) := newB_yes l hn HI.out.ok
        go_wp2
        exact bodyPost_ret (v := .tuple #[.pointer (some ⟨w.heap.size + 1, 0, none⟩), .int .i64 0]) (by simp [results, Tryd.results8, go_sem]) rfl ⟨HI.out.bel, (fun h => by rw [HY.out] at h; cases h), fun _ => ⟨D, rfl, HI.out⟩⟩
end Go.Proofs.YtkfcilandmhomaaDoor
