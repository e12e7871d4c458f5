import Derived.Test.YtldkepokcbjlpaaPack37
import Derived.Deep.DeepCutAuto
namespace Go.Proofs.Ytldkepokcbjlpaa
open Go.RowKit Go.Conc
set_option maxRecDepth 60000
def elPt : El PtT where
  ty := 39
  size := 4
  cells := PtT.cells
  len := fun _ => rfl
  one := fun x u hu => by
    simp only [PtT.cells, List.mem_cons, List.not_mem_nil, or_false] at hu
    rcases hu with rfl | rfl | rfl | rfl <;> rfl
  In := PtIn
  kept := fun h hs hb => h.kept hs hb
  mono := fun h hb => h.mono hb
def rowsP (l : LT PtT) : List Value := (List.range l.n).flatMap fun j => elPt.cells (l.item j)
def rowsI (l : LT Int) : List Value := (List.range l.n).flatMap fun j => elInt.cells (l.item j)
/-- the snapshot that is under way, by the reference: the parts in the order of their coming, whose they are -/
structure RU (w : World) (b : Nat) (R : Rp) (n : Nat) (pt : LT PtT) (tk : LT Int) : Prop where
  hn : n + 1 = R.sh.n
  x : R.sh.item n = ⟨R.first + (n : Int), 1, pt.p, pt.n, pt.c, tk.p, tk.n, tk.c, (R.sh.item n).pk⟩
  m : tk.n = pt.n
  m12 : pt.n ≤ 12
  pown : w.ownsRow 0 39 4 (.slice pt.p pt.n pt.c) pt.n (rowsP pt)
  town : w.ownsRow 0 3 1 (.slice tk.p tk.n tk.c) tk.n (rowsI tk)
  pne : ∀ k, (Value.slice pt.p pt.n pt.c).ownBlock = some k → ¬ R.C b k ∧ (Value.slice tk.p tk.n tk.c).ownBlock ≠ some k
  tne : ∀ k, (Value.slice tk.p tk.n tk.c).ownBlock = some k → ¬ R.C b k
  pk : 0 ≤ (R.sh.item n).pk ∧ (R.sh.item n).pk ≤ (pt.n : Int)
  tb : ∀ j, j < tk.n → 0 ≤ tk.item j ∧ tk.item j < R.tasks
  nd : ∀ i j, i < tk.n → j < tk.n → tk.item i = tk.item j → i = j
theorem RU.st {w : World} {b : Nat} {R : Rp} {n : Nat} {pt : LT PtT} {tk : LT Int} (h : RU w b R n pt tk) : (R.sh.item n).st = 1 ∧ (R.sh.item n).id = R.first + (n : Int) ∧ (R.sh.item n).tp = tk.p ∧ (R.sh.item n).tn = tk.n ∧ (R.sh.item n).tc = tk.c ∧ (R.sh.item n).pp = pt.p ∧ (R.sh.item n).pn = pt.n ∧ (R.sh.item n).pc = pt.c := by
  rw [h.x]
  exact ⟨rfl, rfl, rfl, rfl, rfl, rfl, rfl, rfl⟩
theorem RU.now {w : World} {b : Nat} {R : Rp} {n : Nat} {pt : LT PtT} {tk : LT Int} (h : RU w b R n pt tk) : R.now = (n : Int) := by
  unfold Rp.now
  have hn := h.hn
  rw [show R.sh.n - 1 = n by omega, if_pos ⟨by omega, h.st.1⟩]
  omega
theorem RU.kept {w w' : World} {b : Nat} {R : Rp} {n : Nat} {pt : LT PtT} {tk : LT Int} (h : RU w b R n pt tk) (hb : ∀ k, ((Value.slice pt.p pt.n pt.c).ownBlock = some k ∨ (Value.slice tk.p tk.n tk.c).ownBlock = some k) → k < w.heap.size → w'.heap[k]? = w.heap[k]?) : RU w' b R n pt tk :=
  ⟨h.hn, h.x, h.m, h.m12, ownsRow_keep h.pown (fun k hk hl => hb k (.inl hk) hl), ownsRow_keep h.town (fun k hk hl => hb k (.inr hk) hl), h.pne, h.tne, h.pk, h.tb, h.nd⟩
/-- the tasks whose parts are among the first m -/
def inT (tk : LT Int) (m : Nat) (t : Int) : Bool := (List.range m).any fun i => tk.item i == t
def wantR (tk : LT Int) (m : Nat) : Nat → List Int
  | 0 => []
  | k + 1 => if inT tk m (k : Int) = true then wantR tk m k else wantR tk m k ++ [(k : Int)]
theorem wantR_len (tk : LT Int) (m : Nat) : ∀ k, (wantR tk m k).length ≤ k
  | 0 => Nat.le_refl _
  | k + 1 => by
    have := wantR_len tk m k
    rw [wantR]
    split
    · omega
    · simp; omega
theorem inT_succ (tk : LT Int) (m : Nat) (t : Int) : inT tk (m + 1) t = (inT tk m t || tk.item m == t) := by
  unfold inT
  rw [List.range_succ, List.any_append]
  simp
def ROpP (w : World) (id : Int) (N : List Int) (e : Ending) (w' : World) : Prop := ∃ p c, e = .returned (.tuple #[.int .i64 id, .slice p N.length c]) ∧ WntQ w N (.slice p N.length c) w'
set_option maxHeartbeats 4000000 in
theorem ropen_none (w : World) (b : Nat) (R : Rp) (hI : RpI w b R) (hn : R.now = -1) : Calls Try.prog 49 #[.pointer (some ⟨b, 0, none⟩)] w fun e w' => ROpP w 0 [] e w' := by
  have HN := hid (rnow_any w b R hI)
  have HE := hid hn
  clear hI hn
  go_enter Try.func49, Try.ntmps49
  go_wp2_with fail
  refine HN.out.mono ?_
  rintro e w1 ⟨rfl, rfl⟩
  rw [HE.out]
  go_wp2
  refine bodyPost_ret (v := .tuple #[.int .i64 0, .slice none 0 0]) (by simp [results, Try.results49, go_sem]) rfl ?_
  exact ⟨none, 0, rfl, World.ownsRow_nil _ _ _ _, Below.refl _ _⟩
set_option maxHeartbeats 16000000 in
theorem ropen_some (w : World) (b : Nat) (R : Rp) (hI : RpI w b R) (n m : Nat) (pt : LT PtT) (tk : LT Int) (hU : RU w b R n pt tk) (hm : (R.sh.item n).pk = (m : Int)) : Calls Try.prog 49 #[.pointer (some ⟨b, 0, none⟩)] w fun e w' => ROpP w (R.first + (n : Int)) (wantR tk m R.tasks.toNat) e w' := by
  have HI := hid hI
  have c0 := hI.box.cell 0
  have c3 := hI.box.cell 3
  have bl := hI.box.lt
  have hn1 := hI.n1
  have hf0 := hI.f0
  have hf1 := hI.f1
  have ht0 := hI.t0
  have ht1 := hI.t1
  simp [Rp.arr] at c0 c3
  have HN := hid (rnow_any w b R hI)
  have HE := hid hU.now
  obtain ⟨T, hT⟩ : ∃ T : Nat, R.tasks = (T : Int) := ⟨R.tasks.toNat, by omega⟩
  have HTn : Hid (R.tasks.toNat = T) := by unfold Hid; omega
  have hT12 : T ≤ 12 := by omega
  rw [hT] at c0
  obtain ⟨g, hp, hgl, hob, hfz, hat⟩ := hI.at_ (by have := hU.hn; omega)
  have hin : n < R.sh.n := by have := hU.hn; omega
  have r0 : w.cell? ⟨g, n * 5, none⟩ = some (.int .i64 (R.sh.item n).id) := hat n hin 0 _ rfl
  have r1 := hat n hin 1 _ rfl
  have r2 := hat n hin 2 _ rfl
  have r3 := hat n hin 3 _ rfl
  have r4 := hat n hin 4 _ rfl
  have hst := hU.st
  rw [hst.2.1] at r0
  rw [hst.1] at r1
  rw [hst.2.2.1, hst.2.2.2.1, hst.2.2.2.2.1] at r3
  rw [hst.2.2.2.2.2.1, hst.2.2.2.2.2.2.1, hst.2.2.2.2.2.2.2] at r2
  rw [hm] at r4
  have hmt : m ≤ tk.n := by have := hU.pk; have := hU.m; omega
  have hm12 : tk.n ≤ 12 := by have := hU.m12; have := hU.m; omega
  have hin' : (n : Int) < (R.sh.n : Int) := by omega
  have hi0 : ¬ (n : Int) < 0 := by omega
  rw [hp] at c3
  have HTl : Hid (LT.In elInt w (fun _ => True) tk) := own_in' (E := elInt) (l := tk) hU.town (fun _ _ => trivial) (fun j hj => by have := hU.tb j hj; exact (by omega : -9223372036854775808 ≤ tk.item j ∧ tk.item j ≤ 9223372036854775807)) (by omega)
  obtain ⟨i0, Kd⟩ := kindIc
  have HKd := hid Kd
  clear hI hU hat hfz hob hp hst hm Kd hT
  go_enter Try.func49, Try.ntmps49
  go_wp2_with fail
  refine HN.out.mono ?_
  rintro e w1 ⟨rfl, rfl⟩
  rw [HE.out]
  obtain ⟨V, hV⟩ : ∃ V, V = w1.alloc (.cells #[.int .i64 (R.first + (n : Int)), .int .i64 1, .slice pt.p pt.n pt.c, .slice tk.p tk.n tk.c, .int .i64 (m : Int)] 125) := ⟨_, rfl⟩
  have hbV : Below w1.heap.size w1 V := by rw [hV]; exact (Below.refl _ _).alloc (Nat.le_refl _) _
  have hX : Box V w1.heap.size #[.int .i64 (R.first + (n : Int)), .int .i64 1, .slice pt.p pt.n pt.c, .slice tk.p tk.n tk.c, .int .i64 (m : Int)] 125 := by rw [hV]; exact Box.new _ _ _
  have HV := hid hV
  have HX := hid hX
  have HB := hid hbV
  have hsV : V.heap.size = w1.heap.size + 1 := by rw [hV]; simp
  have hsV1 : w1.heap.size + 1 ≤ V.heap.size := by omega
  have hsV2 : V.heap.size ≤ w1.heap.size + 1 := by omega
  clear hV hbV hX hsV HN
  go_upto_region 5 with fail
  rw [← HV.out]
  clear c3 r0 r1 r2 r3 r4
  go_wp2_with fail
  go_loopw [6, 7] (fun v x wr => ∃ k : Nat, k ≤ T ∧ x = .int .i64 (k : Int) ∧ wr.ownsRow (w1.heap.size + 1) 3 1 v (wantR tk m k).length (intV (wantR tk m k)) ∧ Below V.heap.size V wr) (fun _ x _ => T - (intOf x).toNat)
  case atStart => exact ⟨0, Nat.zero_le _, rfl, World.ownsRow_nil _ _ _ _, Below.refl _ _⟩
  case round =>
    obtain ⟨k, hk, rfl, hO, hb⟩ := hrel
    have HO := hid hO
    have HBk := hid hb
    have hXr := HX.out.below hb
    have c0r := (World.cell?_of_block (a := ⟨b, 0, none⟩) ((hb.block b (by have := HB.out.size; omega)).trans (HB.out.block b bl))).trans c0
    have blr : b < wr.heap.size := by have := HB.out.size; have := hb.size; omega
    have s0 := hXr.cell 0
    have s3 := hXr.cell 3
    have s4 := hXr.cell 4
    have sl := hXr.lt
    simp at s0 s3 s4
    clear hO hb hXr
    by_cases hlt : k < T
    rotate_left
    · obtain rfl : k = T := by omega
      have hlt' : ¬ (k : Int) < (k : Int) := by omega
      obtain ⟨p3, c3, hv⟩ := ownsRow_slice HO.out
      subst hv
      go_wp2
      refine bodyPost_ret (v := .tuple #[.int .i64 (R.first + (n : Int)), .slice p3 (wantR tk m k).length c3]) (by simp [results, Try.results49, go_sem]) rfl ?_
      refine ⟨p3, c3, by rw [HTn.out], ?_, ?_⟩
      · rw [HTn.out]; exact own_low HO.out (by omega)
      · exact HB.out.trans (HBk.out.mono HB.out.size)
    have hlt' : (k : Int) < (T : Int) := by omega
    go_wp2_with fail
    obtain ⟨wo, hwo⟩ : ∃ x, x = wr := ⟨_, rfl⟩
    subst hwo
    go_loopw [8, 9] (fun v x wi => ∃ q : Nat, q ≤ m ∧ x = .int .i64 (q : Int) ∧ v = .bool (inT tk q (k : Int)) ∧ wi = wo) (fun _ x _ => m - (intOf x).toNat)
    case atStart => exact ⟨0, Nat.zero_le _, rfl, rfl, rfl⟩
    case round =>
      obtain ⟨q, hq, rfl, rfl, hwi⟩ := hrel
      subst hwi
      by_cases hqm : q < m
      · have hqm' : (q : Int) < (m : Int) := by omega
        have hqt : (q : Int) < (tk.n : Int) := by omega
        obtain ⟨tb, o, htp, _, htl, hat⟩ := HTl.out.at_ (by omega)
        have t0 : wr.cell? ⟨tb, o + q, none⟩ = some (.int .i64 (tk.item q)) := (World.cell?_of_block (a := ⟨tb, o + q, none⟩) ((HBk.out.block tb (by have := HB.out.size; omega)).trans (HB.out.block tb htl))).trans (by have := hat q (by omega) 0 _ rfl; simpa [elInt] using this)
        rw [htp] at s3
        have HS := hid (inT_succ tk q (k : Int))
        clear hat htp
        rcases hin1 : inT tk q (k : Int) with _ | _
        · rw [hin1] at HS
          clear hin1
          go_wp2
          go_roundw
          case rel => exact ⟨q + 1, by omega, by go_num, by rw [HS.out]; rfl, by simp⟩
          case measure => simp [intOf]; omega
        · rw [hin1] at HS
          clear hin1
          go_wp2
          go_roundw
          case rel => exact ⟨q + 1, by omega, by go_num, by rw [HS.out]; rfl, by simp⟩
          case measure => simp [intOf]; omega
      · obtain rfl : q = m := by omega
        have hqm' : ¬ (q : Int) < (q : Int) := by omega
        have hle := wantR_len tk q k
        rcases hin1 : inT tk q (k : Int) with _ | _
        · have HE2 : Hid (wantR tk q (k + 1) = wantR tk q k ++ [(k : Int)]) := by unfold Hid; rw [wantR, hin1]; rfl
          have ha : Below wr.heap.size wr (wr.alloc (.cells #[.int .i64 (k : Int)] 3)) := (Below.refl _ _).alloc (Nat.le_refl _) _
          have HAl := hid ha
          have HNw : Hid (∀ j u', ([.int .i64 (k : Int)] : List Value)[j]? = some u' → (wr.alloc (.cells #[.int .i64 (k : Int)] 3)).cell? ((⟨wr.heap.size, 0, none⟩ : Addr).add j) = some u') := fun j u' hu => by
            rw [Go.WideShapes.add_plain, (Box.new wr #[.int .i64 (k : Int)] 3).cell]
            rw [show 0 + j = j by omega]
            simpa using hu
          have hsz : w1.heap.size + 1 ≤ wr.heap.size := by have := HBk.out.size; omega
          clear ha hin1
          go_wp2_with (at_builtin; refine wpList_app rfl (.tmp 47) (.tmp 49) 32 3 i0 _ 1 8 HKd.out rfl (w1.heap.size + 1) u6 (wantR tk q k).length _ rfl (HO.out.alloc _) ⟨wr.heap.size, 0, none⟩ 1 1 [.int .i64 (k : Int)] rfl rfl HNw.out (fun u hu => by simp at hu; rw [hu]; rfl) (by omega) (by omega) (by simp; omega) ?_)
          intro v3 w3 ho3 hg3 hn3
          have HQ : Hid (w3.ownsRow (w1.heap.size + 1) 3 1 v3 (wantR tk q (k + 1)).length (intV (wantR tk q (k + 1)))) := by
            unfold Hid
            rw [HE2.out, List.length_append]
            have : intV (wantR tk q k ++ [(k : Int)]) = intV (wantR tk q k) ++ [.int .i64 (k : Int)] := by simp [intV]
            rw [this]
            exact ho3
          have HB3 : Hid (Below V.heap.size V w3) := (HBk.out.trans (HAl.out.mono HBk.out.size)).grown hg3 (by have := HBk.out.size; simp; omega) (fun j hj => by have := (HO.out.lt j hj).1; omega)
          clear ho3 hg3 hn3 HNw HAl
          go_wp2
          go_roundw
          case rel => exact ⟨k + 1, by omega, by go_num, HQ.out, HB3.out⟩
          case measure => simp [intOf]; omega
        · have HE2 : Hid (wantR tk q (k + 1) = wantR tk q k) := by unfold Hid; rw [wantR, hin1]; rfl
          clear hin1
          go_wp2
          go_roundw
          case rel => exact ⟨k + 1, by omega, by go_num, by rw [HE2.out]; exact HO.out, HBk.out⟩
          case measure => simp [intOf]; omega
structure RNewQ (tasks first sum : Int) (w : World) (e : Ending) (w' : World) : Prop where
  n : (tasks < 1 ∨ 12 < tasks ∨ first < 1 ∨ 10000 < first) → e = .returned (.tuple #[.pointer none, .int .i64 140]) ∧ w' = w
  y : ¬ (tasks < 1 ∨ 12 < tasks ∨ first < 1 ∨ 10000 < first) → e = .returned (.tuple #[.pointer (some ⟨w.heap.size, 0, none⟩), .int .i64 0]) ∧ RpI w' w.heap.size ⟨tasks, first, sum, ⟨none, 0, 0, fun _ => Rs.new 0⟩⟩ ∧ Below w.heap.size w w'
set_option maxHeartbeats 4000000 in
theorem rnew_any (tasks first sum : Int) (w : World) : Calls Try.prog 23 #[.int .i64 tasks, .int .i64 first, .int .u32 sum] w fun e w' => RNewQ tasks first sum w e w' := by
  by_cases h0 : tasks < 1
  · have HE : Hid (tasks < 1 ∨ 12 < tasks ∨ first < 1 ∨ 10000 < first) := by unfold Hid; omega
    go_enter Try.func23, Try.ntmps23
    go_wp2
    refine bodyPost_ret (v := .tuple #[.pointer none, .int .i64 140]) (by simp [results, Try.results23, go_sem]) rfl ?_
    exact ⟨fun _ => ⟨rfl, rfl⟩, fun h => absurd HE.out h⟩
  by_cases h1 : 12 < tasks
  · have HE : Hid (tasks < 1 ∨ 12 < tasks ∨ first < 1 ∨ 10000 < first) := by unfold Hid; omega
    go_enter Try.func23, Try.ntmps23
    go_wp2
    refine bodyPost_ret (v := .tuple #[.pointer none, .int .i64 140]) (by simp [results, Try.results23, go_sem]) rfl ?_
    exact ⟨fun _ => ⟨rfl, rfl⟩, fun h => absurd HE.out h⟩
  by_cases h2 : first < 1
  · have HE : Hid (tasks < 1 ∨ 12 < tasks ∨ first < 1 ∨ 10000 < first) := by unfold Hid; omega
    go_enter Try.func23, Try.ntmps23
    go_wp2
    refine bodyPost_ret (v := .tuple #[.pointer none, .int .i64 140]) (by simp [results, Try.results23, go_sem]) rfl ?_
    exact ⟨fun _ => ⟨rfl, rfl⟩, fun h => absurd HE.out h⟩
  by_cases h3 : 10000 < first
  · have HE : Hid (tasks < 1 ∨ 12 < tasks ∨ first < 1 ∨ 10000 < first) := by unfold Hid; omega
    go_enter Try.func23, Try.ntmps23
    go_wp2
    refine bodyPost_ret (v := .tuple #[.pointer none, .int .i64 140]) (by simp [results, Try.results23, go_sem]) rfl ?_
    exact ⟨fun _ => ⟨rfl, rfl⟩, fun h => absurd HE.out h⟩
  have HE : Hid (¬ (tasks < 1 ∨ 12 < tasks ∨ first < 1 ∨ 10000 < first)) := by unfold Hid; omega
  go_enter Try.func23, Try.ntmps23
  go_wp2
  refine bodyPost_ret (v := .tuple #[.pointer (some ⟨w.heap.size, 0, none⟩), .int .i64 0]) (by simp [results, Try.results23, go_sem]) rfl ?_
  refine ⟨fun h => absurd h HE.out, fun _ => ⟨rfl, ⟨Box.new _ _ _, World.ownsRow_nil _ _ _ _, fun e => by simp [Rp.lv, Value.ownBlock] at e, by show 1 ≤ tasks; omega, by show tasks ≤ 12; omega, by show 1 ≤ first; omega, by show first ≤ 10000; omega, by show ((0 : Nat) : Int) ≤ 10000; omega⟩, (Below.refl _ _).alloc (Nat.le_refl _) _⟩⟩
end Go.Proofs.Ytldkepokcbjlpaa

namespace Go.Proofs.Ytldkepokcbjlpaa
open Go.RowKit Go.Conc
set_option maxRecDepth 60000
set_option maxHeartbeats 4000000 in
theorem rhand_task (id task : Int) (x : PtT) (w : World) (b : Nat) (R : Rp) (hI : RpI w b R) (ht : task < 0 ∨ R.tasks ≤ task) : Calls Try.prog 43 #[.pointer (some ⟨b, 0, none⟩), .int .i64 id, .int .i64 task, .agg #[.int .i64 x.num, .slice x.cl.p x.cl.n x.cl.c, .slice x.lg.p x.lg.n x.lg.c, .slice x.pd.p x.pd.n x.pd.c]] w fun e w' => e = .returned (.int .i64 144) ∧ Below w.heap.size w w' := by
  obtain ⟨W, hW⟩ : ∃ V, V = w.alloc (.cells #[.int .i64 x.num, .slice x.cl.p x.cl.n x.cl.c, .slice x.lg.p x.lg.n x.lg.c, .slice x.pd.p x.pd.n x.pd.c] 39) := ⟨_, rfl⟩
  have hB : Below w.heap.size w W := by rw [hW]; exact (Below.refl _ _).alloc (Nat.le_refl _) _
  have hX : Box W w.heap.size #[.int .i64 x.num, .slice x.cl.p x.cl.n x.cl.c, .slice x.lg.p x.lg.n x.lg.c, .slice x.pd.p x.pd.n x.pd.c] 39 := by rw [hW]; exact Box.new _ _ _
  have hIW := hI.below hB
  have HI := hid hI
  have HIW := hid hIW
  have HB := hid hB
  have HX := hid hX
  have HW := hid hW
  have HN := hid (rnow_any W b R hIW)
  have c0 := hIW.box.cell 0
  have c3 := hIW.box.cell 3
  have bl := hIW.box.lt
  have hn1 := hI.n1
  have hf0 := hI.f0
  have hf1 := hI.f1
  have ht0 := hI.t0
  have ht1 := hI.t1
  simp [Rp.arr] at c0 c3
  clear hI hB hX hIW hW
  by_cases h0 : task < 0
  · clear ht
    go_enter Try.func43, Try.ntmps43
    go_upto_region 1 with fail
    rw [← HW.out]
    go_wp2
    refine bodyPost_ret (v := .int .i64 144) (by simp [results, Try.results43, go_sem]) rfl ?_
    exact ⟨rfl, HB.out⟩
  · have h1 : R.tasks ≤ task := ht.resolve_left h0
    clear ht
    go_enter Try.func43, Try.ntmps43
    go_upto_region 1 with fail
    rw [← HW.out]
    go_wp2
    refine bodyPost_ret (v := .int .i64 144) (by simp [results, Try.results43, go_sem]) rfl ?_
    exact ⟨rfl, HB.out⟩
set_option maxHeartbeats 4000000 in
theorem rhand_none (id task : Int) (x : PtT) (w : World) (b : Nat) (R : Rp) (hI : RpI w b R) (h0 : ¬ task < 0) (h1 : ¬ R.tasks ≤ task) (hn : R.now = -1) : Calls Try.prog 43 #[.pointer (some ⟨b, 0, none⟩), .int .i64 id, .int .i64 task, .agg #[.int .i64 x.num, .slice x.cl.p x.cl.n x.cl.c, .slice x.lg.p x.lg.n x.lg.c, .slice x.pd.p x.pd.n x.pd.c]] w fun e w' => e = .returned (.int .i64 143) ∧ Below w.heap.size w w' := by
  obtain ⟨W, hW⟩ : ∃ V, V = w.alloc (.cells #[.int .i64 x.num, .slice x.cl.p x.cl.n x.cl.c, .slice x.lg.p x.lg.n x.lg.c, .slice x.pd.p x.pd.n x.pd.c] 39) := ⟨_, rfl⟩
  have hB : Below w.heap.size w W := by rw [hW]; exact (Below.refl _ _).alloc (Nat.le_refl _) _
  have hX : Box W w.heap.size #[.int .i64 x.num, .slice x.cl.p x.cl.n x.cl.c, .slice x.lg.p x.lg.n x.lg.c, .slice x.pd.p x.pd.n x.pd.c] 39 := by rw [hW]; exact Box.new _ _ _
  have hIW := hI.below hB
  have HI := hid hI
  have HIW := hid hIW
  have HB := hid hB
  have HX := hid hX
  have HW := hid hW
  have HN := hid (rnow_any W b R hIW)
  have c0 := hIW.box.cell 0
  have c3 := hIW.box.cell 3
  have bl := hIW.box.lt
  have hn1 := hI.n1
  have hf0 := hI.f0
  have hf1 := hI.f1
  have ht0 := hI.t0
  have ht1 := hI.t1
  simp [Rp.arr] at c0 c3
  have HE := hid hn
  clear hI hB hX hIW hW hn
  go_enter Try.func43, Try.ntmps43
  go_upto_region 1 with fail
  rw [← HW.out]
  go_wp2_with fail
  refine HN.out.mono ?_
  rintro e w1 ⟨rfl, rfl⟩
  rw [HE.out]
  go_wp2
  refine bodyPost_ret (v := .int .i64 143) (by simp [results, Try.results43, go_sem]) rfl ?_
  exact ⟨rfl, HB.out⟩
set_option maxHeartbeats 4000000 in
theorem rhand_other (id task : Int) (x : PtT) (w : World) (b : Nat) (R : Rp) (hI : RpI w b R) (n : Nat) (pt : LT PtT) (tk : LT Int) (hU : RU w b R n pt tk) (h0 : ¬ task < 0) (h1 : ¬ R.tasks ≤ task) (hd : R.first + (n : Int) ≠ id) : Calls Try.prog 43 #[.pointer (some ⟨b, 0, none⟩), .int .i64 id, .int .i64 task, .agg #[.int .i64 x.num, .slice x.cl.p x.cl.n x.cl.c, .slice x.lg.p x.lg.n x.lg.c, .slice x.pd.p x.pd.n x.pd.c]] w fun e w' => e = .returned (.int .i64 143) ∧ Below w.heap.size w w' := by
  obtain ⟨W, hW⟩ : ∃ V, V = w.alloc (.cells #[.int .i64 x.num, .slice x.cl.p x.cl.n x.cl.c, .slice x.lg.p x.lg.n x.lg.c, .slice x.pd.p x.pd.n x.pd.c] 39) := ⟨_, rfl⟩
  have hB : Below w.heap.size w W := by rw [hW]; exact (Below.refl _ _).alloc (Nat.le_refl _) _
  have hX : Box W w.heap.size #[.int .i64 x.num, .slice x.cl.p x.cl.n x.cl.c, .slice x.lg.p x.lg.n x.lg.c, .slice x.pd.p x.pd.n x.pd.c] 39 := by rw [hW]; exact Box.new _ _ _
  have hIW := hI.below hB
  have HI := hid hI
  have HIW := hid hIW
  have HB := hid hB
  have HX := hid hX
  have HW := hid hW
  have HN := hid (rnow_any W b R hIW)
  have c0 := hIW.box.cell 0
  have c3 := hIW.box.cell 3
  have bl := hIW.box.lt
  have hn1 := hI.n1
  have hf0 := hI.f0
  have hf1 := hI.f1
  have ht0 := hI.t0
  have ht1 := hI.t1
  simp [Rp.arr] at c0 c3
  have HE := hid hU.now
  obtain ⟨g, hp, hgl, hob, hfz, hat⟩ := hIW.at_ (by have := hU.hn; omega)
  have hin : n < R.sh.n := by have := hU.hn; omega
  have r0 : W.cell? ⟨g, n * 5, none⟩ = some (.int .i64 (R.sh.item n).id) := hat n hin 0 _ rfl
  have r1 := hat n hin 1 _ rfl
  have r2 := hat n hin 2 _ rfl
  have r3 := hat n hin 3 _ rfl
  have r4 := hat n hin 4 _ rfl
  have hst := hU.st
  rw [hst.2.1] at r0
  rw [hst.1] at r1
  rw [hst.2.2.1, hst.2.2.2.1, hst.2.2.2.2.1] at r3
  rw [hst.2.2.2.2.2.1, hst.2.2.2.2.2.2.1, hst.2.2.2.2.2.2.2] at r2
  have hin' : (n : Int) < (R.sh.n : Int) := by omega
  have hi0 : ¬ (n : Int) < 0 := by omega
  have HGp := hid hp
  have HOb := hid hob
  rw [hp] at c3
  have hd' : (R.first + (n : Int) != id) = true := by simp [hd]
  clear hI hB hX hIW hW hd hat hfz hob hp hst hU
  go_enter Try.func43, Try.ntmps43
  go_upto_region 1 with fail
  rw [← HW.out]
  go_wp2_with fail
  refine HN.out.mono ?_
  rintro e w1 ⟨rfl, rfl⟩
  rw [HE.out]
  go_wp2
  refine bodyPost_ret (v := .int .i64 143) (by simp [results, Try.results43, go_sem]) rfl ?_
  exact ⟨rfl, HB.out⟩
set_option maxHeartbeats 8000000 in
theorem rhand_twice (task : Int) (x : PtT) (w : World) (b : Nat) (R : Rp) (hI : RpI w b R) (n : Nat) (pt : LT PtT) (tk : LT Int) (hU : RU w b R n pt tk) (h0 : ¬ task < 0) (h1 : ¬ R.tasks ≤ task) (i : Nat) (hi : i < tk.n) (hit : tk.item i = task) : Calls Try.prog 43 #[.pointer (some ⟨b, 0, none⟩), .int .i64 (R.first + (n : Int)), .int .i64 task, .agg #[.int .i64 x.num, .slice x.cl.p x.cl.n x.cl.c, .slice x.lg.p x.lg.n x.lg.c, .slice x.pd.p x.pd.n x.pd.c]] w fun e w' => e = .returned (.int .i64 145) ∧ Below w.heap.size w w' := by
  obtain ⟨W, hW⟩ : ∃ V, V = w.alloc (.cells #[.int .i64 x.num, .slice x.cl.p x.cl.n x.cl.c, .slice x.lg.p x.lg.n x.lg.c, .slice x.pd.p x.pd.n x.pd.c] 39) := ⟨_, rfl⟩
  have hB : Below w.heap.size w W := by rw [hW]; exact (Below.refl _ _).alloc (Nat.le_refl _) _
  have hX : Box W w.heap.size #[.int .i64 x.num, .slice x.cl.p x.cl.n x.cl.c, .slice x.lg.p x.lg.n x.lg.c, .slice x.pd.p x.pd.n x.pd.c] 39 := by rw [hW]; exact Box.new _ _ _
  have hIW := hI.below hB
  have HI := hid hI
  have HIW := hid hIW
  have HB := hid hB
  have HX := hid hX
  have HW := hid hW
  have HN := hid (rnow_any W b R hIW)
  have c0 := hIW.box.cell 0
  have c3 := hIW.box.cell 3
  have bl := hIW.box.lt
  have hn1 := hI.n1
  have hf0 := hI.f0
  have hf1 := hI.f1
  have ht0 := hI.t0
  have ht1 := hI.t1
  simp [Rp.arr] at c0 c3
  have HE := hid hU.now
  obtain ⟨g, hp, hgl, hob, hfz, hat⟩ := hIW.at_ (by have := hU.hn; omega)
  have hin : n < R.sh.n := by have := hU.hn; omega
  have r0 : W.cell? ⟨g, n * 5, none⟩ = some (.int .i64 (R.sh.item n).id) := hat n hin 0 _ rfl
  have r1 := hat n hin 1 _ rfl
  have r2 := hat n hin 2 _ rfl
  have r3 := hat n hin 3 _ rfl
  have r4 := hat n hin 4 _ rfl
  have hst := hU.st
  rw [hst.2.1] at r0
  rw [hst.1] at r1
  rw [hst.2.2.1, hst.2.2.2.1, hst.2.2.2.2.1] at r3
  rw [hst.2.2.2.2.2.1, hst.2.2.2.2.2.2.1, hst.2.2.2.2.2.2.2] at r2
  have hin' : (n : Int) < (R.sh.n : Int) := by omega
  have hi0 : ¬ (n : Int) < 0 := by omega
  have HGp := hid hp
  have HOb := hid hob
  rw [hp] at c3
  have HTl : Hid (LT.In elInt w (fun _ => True) tk) := own_in' (E := elInt) (l := tk) hU.town (fun _ _ => trivial) (fun j hj => by have := hU.tb j hj; exact (by omega : -9223372036854775808 ≤ tk.item j ∧ tk.item j ≤ 9223372036854775807)) (by have := hU.m12; have := hU.m; omega)
  have hm12 : tk.n ≤ 12 := by have := hU.m12; have := hU.m; omega
  have HU := hid hU
  obtain ⟨V, hV⟩ : ∃ V, V = W.alloc (.cells #[.int .i64 (R.first + (n : Int)), .int .i64 1, .slice pt.p pt.n pt.c, .slice tk.p tk.n tk.c, .int .i64 (R.sh.item n).pk] 125) := ⟨_, rfl⟩
  have hbV : Below W.heap.size W V := by rw [hV]; exact (Below.refl _ _).alloc (Nat.le_refl _) _
  have hS : Box V W.heap.size #[.int .i64 (R.first + (n : Int)), .int .i64 1, .slice pt.p pt.n pt.c, .slice tk.p tk.n tk.c, .int .i64 (R.sh.item n).pk] 125 := by rw [hV]; exact Box.new _ _ _
  have hsW : W.heap.size = w.heap.size + 1 := by rw [hW]; simp
  have HV := hid hV
  have HS := hid hS
  have HBV := hid hbV
  have HsW := hid hsW
  have s3 := hS.cell 3
  have sl := hS.lt
  simp at s3
  have hbwV := hB.trans (hbV.mono hB.size)
  have HBw := hid hbwV
  clear hI hB hX hIW hW hat hfz hob hp hst hU hV hbV hS hsW hbwV
  go_enter Try.func43, Try.ntmps43
  go_upto_region 1 with fail
  rw [← HW.out]
  go_wp2_with fail
  refine HN.out.mono ?_
  rintro e w1 hw1
  obtain ⟨rfl, hw1⟩ := hw1
  subst hw1
  rw [HE.out]
  go_upto_region 7 with fail
  rw [← HV.out]
  clear c0 c3 r0 r1 r2 r3 r4 HN
  go_wp2_with fail
  go_loopw [11] (fun y wr => ∃ k : Nat, k ≤ i ∧ y = .int .i64 (k : Int) ∧ wr = V) (fun y _ => i - (intOf y).toNat)
  case atStart => exact ⟨0, Nat.zero_le _, rfl, rfl⟩
  case round =>
    obtain ⟨k, hk, rfl, rfl⟩ := hrel
    have hlt' : (k : Int) < (tk.n : Int) := by omega
    obtain ⟨tb, o, htp, _, htl, hat⟩ := HTl.out.at_ (by omega)
    have t0 := (World.cell?_of_block (a := ⟨tb, o + k, none⟩) (HBw.out.block tb htl)).trans (show w.cell? ⟨tb, o + k, none⟩ = some (.int .i64 (tk.item k)) by have := hat k (by omega) 0 _ rfl; simpa [elInt] using this)
    rw [htp] at s3
    clear hat htp
    by_cases hkt : tk.item k = task
    · rw [hkt] at t0
      clear hkt
      go_wp2
      refine bodyPost_ret (v := .int .i64 145) (by simp [results, Try.results43, go_sem]) rfl ?_
      exact ⟨rfl, HBw.out⟩
    · have hkt' : (tk.item k == task) = false := by simp [hkt]
      have hki : k < i := by
        rcases Nat.lt_or_ge k i with h | h
        · exact h
        · exact absurd (by rw [show k = i by omega]; exact hit) hkt
      clear hkt
      go_wp2
      go_roundw
      case rel => exact ⟨k + 1, by omega, by go_num, by simp⟩
      case measure => simp [intOf]; omega
end Go.Proofs.Ytldkepokcbjlpaa
