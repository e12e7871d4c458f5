import Derived.Test.YtpldokahoamdpaaPack20
namespace Go.Proofs.Ytpldokahoamdpaa
open Go.RowKit Go.Conc
set_option maxRecDepth 8000
set_option maxHeartbeats 4000000 in
theorem rv5 (t : VT) : ∀ (w : World) (S : Nat → Prop), VT.In w S t → t.total ≤ 10000 →
    Calls Try.prog 76 #[t.val] w fun e w' => ∃ u, e = .returned u.val ∧ VT.Alike t u ∧ VT.In w' (fun b => w.heap.size ≤ b) u ∧ Below w.heap.size w w' := by
  induction t with
  | nil => intro w S hin; exact hin.elim
  | mk k i s n p c f ih =>
    intro w S hin ht
    have hfit := hin.fit
    have hnn := hfit.nn
    simp only [VT.n] at hnn
    have hn1 : n ≤ 10000 := by rw [VT.total_upto] at ht; simp only [VT.n] at ht; omega
    obtain ⟨i0, Kd⟩ := kindV
    simp only [VT.val, VT.kind_mk, VT.int_mk, VT.text_mk, VT.p_mk, VT.n_mk, VT.c_mk]
    have HI : Hid (VT.In w S (.mk k i s n p c f)) := hin
    have HF := hfit
    have HTot : Hid (∀ j, j < n → (f j).total ≤ 10000) := fun j hj => Nat.le_trans (VT.item_total (.mk k i s n p c f) hj) ht
    clear hin hfit ht
    go_enter Try.func76, Try.ntmps76
    go_wp2_with fail
    have hS1 : Box (w.alloc (.cells #[.int .i64 k, .int .i64 i, .string s, .slice p n c] 30)) w.heap.size #[.int .i64 k, .int .i64 i, .string s, .slice p n c] 30 := Box.new _ _ _
    have hS2 := hS1.below ((Below.refl _ _).alloc (Nat.le_refl _) (.cells #[.int .i64 0, .int .i64 0, .string ⟨#[]⟩, .slice none 0 0] 30))
    have hS3 : Box ((w.alloc (.cells #[.int .i64 k, .int .i64 i, .string s, .slice p n c] 30)).alloc (.cells #[.int .i64 0, .int .i64 0, .string ⟨#[]⟩, .slice none 0 0] 30)) (w.heap.size + 1) #[.int .i64 0, .int .i64 0, .string ⟨#[]⟩, .slice none 0 0] 30 := by
      have := Box.new (w.alloc (.cells #[.int .i64 k, .int .i64 i, .string s, .slice p n c] 30)) #[.int .i64 0, .int .i64 0, .string ⟨#[]⟩, .slice none 0 0] 30
      simpa using this
    have hS4 : Below w.heap.size w ((w.alloc (.cells #[.int .i64 k, .int .i64 i, .string s, .slice p n c] 30)).alloc (.cells #[.int .i64 0, .int .i64 0, .string ⟨#[]⟩, .slice none 0 0] 30)) := ((Below.refl _ _).alloc (Nat.le_refl _) _).alloc (by simp) _
    go_loopw [3, 4] (fun v x wr => ∃ (j : Nat) (g : Nat → VT), j ≤ n ∧ x = .int .i64 j ∧ OwnV (w.heap.size + 2) wr v j g ∧ (∀ q, q < j → VT.Alike (f q) (g q)) ∧ Box wr w.heap.size #[.int .i64 k, .int .i64 i, .string s, .slice p n c] 30 ∧
        Box wr (w.heap.size + 1) #[.int .i64 0, .int .i64 0, .string ⟨#[]⟩, .slice none 0 0] 30 ∧ Below w.heap.size w wr) (fun _ x _ => n - (intOf x).toNat)
    case atStart => exact ⟨0, f, Nat.zero_le _, rfl, OwnV.nil _ _ _, fun q hq => absurd hq (by omega), hS2, hS3, hS4⟩
    case round =>
      obtain ⟨j, g, hj, rfl, hO, hal, hB0, hB1, hbel⟩ := hrel
      clear hS1 hS2 hS3 hS4
      have b0 := hB0.cell 0
      have b1 := hB0.cell 1
      have b2 := hB0.cell 2
      have b3 := hB0.cell 3
      simp at b0 b1 b2 b3
      have hlt1 := hB1.lt
      by_cases hlt : j < n
      · have hlt' : (j : Int) < (n : Int) := by omega
        obtain ⟨bb, o, hp, hSb, hbl, hat⟩ := HI.out.at_ (show 0 < (VT.mk k i s n p c f).n from by simp only [VT.n]; omega)
        simp only [VT.p] at hp
        subst hp
        have hA := (hat j hlt).kept (hbel.block bb hbl)
        obtain ⟨c0, c1, c2, c3⟩ := hA
        simp only [VT.item] at c0 c1 c2 c3
        have HC : Hid (Calls Try.prog 76 #[(f j).val] wr fun e w' => ∃ u, e = .returned u.val ∧ VT.Alike (f j) u ∧ VT.In w' (fun b => wr.heap.size ≤ b) u ∧ Below wr.heap.size wr w') :=
          ih j wr (fun b => S b ∧ b < w.heap.size) (((HI.out.sub hlt).mono fun b hb hl => ⟨hb, hl⟩).kept hbel.size (fun b hb _ => hbel.block b hb.2)) (HTot.out j hlt)
        unfold VT.val at HC
        have HAl : Hid (∀ q, q < j → VT.Alike (f q) (g q)) := hal
        clear hat hal
        go_wp2_with fail
        refine HC.out.mono ?_
        rintro e w2_ ⟨u, rfl, hal2, hin2_, hb2_⟩
        obtain ⟨k', i', s', n', p', c', f', rfl⟩ := hin2_.mk_
        simp only [VT.kind_mk, VT.int_mk, VT.text_mk, VT.p_mk, VT.n_mk, VT.c_mk]
        obtain ⟨w2, hw2⟩ : ∃ V, V = w2_.alloc (.cells #[.int .i64 k', .int .i64 i', .string s', .slice p' n' c'] 30) := ⟨_, rfl⟩
        have hbx : Below w2_.heap.size w2_ w2 := by rw [hw2]; exact (Below.refl _ _).alloc (Nat.le_refl _) _
        have hxb : Box w2 w2_.heap.size #[.int .i64 k', .int .i64 i', .string s', .slice p' n' c'] 30 := by rw [hw2]; exact Box.new _ _ _
        have hb2 : Below wr.heap.size wr w2 := hb2_.trans (hbx.mono hb2_.size)
        have hin2 := hin2_.below hbx
        have q0 := hxb.cell 0
        have q1 := hxb.cell 1
        have q2 := hxb.cell 2
        have q3 := hxb.cell 3
        have ql := hxb.lt
        simp at q0 q1 q2 q3
        have HW2 := hid hw2
        clear hw2 hbx hxb hb2_ hin2_
        have hO2 := hO.below hb2
        have hB02 := hB0.below hb2
        have hB12 := hB1.below hb2
        have hbel2 := hbel.trans (hb2.mono hbel.size)
        have hsz2 := hb2.size
        have hu2 : VT.In w2 (fun b => w.heap.size + 2 ≤ b ∧ u3.ownBlock ≠ some b) (.mk k' i' s' n' p' c' f') := by
          refine hin2.mono fun b hb hl => ⟨by omega, fun e => ?_⟩
          have := (hO.own.lt b e).2
          omega
        have HX : Hid (OwnV (w.heap.size + 2) w2 u3 j g ∧ VT.In w2 (fun b => w.heap.size + 2 ≤ b ∧ u3.ownBlock ≠ some b) (.mk k' i' s' n' p' c' f') ∧ VT.Alike (f j) (.mk k' i' s' n' p' c' f')) := ⟨hO2, hu2, hal2⟩
        have hR := hO2.own
        have hsz1 : w.heap.size + 2 ≤ w2.heap.size := by omega
        have HBe : Hid (Below w.heap.size w w2) := hbel2
        clear hO hin2 hO2 hu2 hal2 hbel hb2 hB0 hB1 b0 b1 b2 b3 c0 c1 c2 c3 HC hbel2
        go_upto_region 6 with fail
        rw [← HW2.out]
        go_wp2_with (at_builtin; refine wpList_app rfl (.tmp 19) (.tmp 21) 28 30 i0 _ 4 56 Kd rfl (w.heap.size + 2) u3 j _ rfl (hR.alloc _) ⟨w2.heap.size, 0, none⟩ 1 1 [.int .i64 k', .int .i64 i', .string s', .slice p' n' c'] rfl rfl (news4 _ _ _ _ _ _) ?_ ?_ ?_ ?_ ?_)
        · exact oneCell_cells (.mk k' i' s' n' p' c' f')
        · omega
        · omega
        · simp; omega
        · intro v3 w3 ho3 hg3 hn3
          obtain ⟨hO2, hu2, hal2⟩ := HX.out
          have ha : Below w2.heap.size w2 (w2.alloc (.cells #[.int .i64 k', .int .i64 i', .string s', .slice p' n' c'] 30)) := (Below.refl _ _).alloc (Nat.le_refl _) _
          have hO3 := (hO2.below ha).push (hu2.below ha) ho3 hg3 hn3
          have hne : ∀ x, x < w.heap.size + 2 → (w2.alloc (.cells #[.int .i64 k', .int .i64 i', .string s', .slice p' n' c'] 30)).heap[x]? = w3.heap[x]? := fun x hx => (hg3.block x (by simp; omega) (fun e => by have := (hO2.own.lt x e.symm).1; omega)).symm
          have hB03 : Box w3 w.heap.size _ _ := (hB02.below ha).kept (hne _ (by omega)).symm
          have hB13 : Box w3 (w.heap.size + 1) _ _ := (hB12.below ha).kept (hne _ (by omega)).symm
          have hbel3 : Below w.heap.size w w3 := (HBe.out.trans (ha.mono (by omega))).grown hg3 (by simp; omega) (fun k hk => by have := (hO2.own.lt k hk).1; omega)
          have HX3 : Hid (OwnV (w.heap.size + 2) w3 v3 (j + 1) (fun q => if q < j then g q else .mk k' i' s' n' p' c' f')) := hO3
          have HA3 : Hid (∀ q, q < j + 1 → VT.Alike (f q) (if q < j then g q else .mk k' i' s' n' p' c' f')) := by
            intro q hq
            by_cases hqj : q < j
            · rw [if_pos hqj]; exact HAl.out q hqj
            · rw [if_neg hqj]
              obtain rfl : q = j := by omega
              exact hal2
          clear hO3 ho3 hg3 hn3 hne ha hO2 hu2 hal2 hR HX
          go_wp2
          go_roundw
          case rel => exact ⟨j + 1, _, by omega, by go_num, HX3.out, HA3.out, hB03, hB13, hbel3⟩
          case measure => simp [intOf]; omega
      · obtain rfl : j = n := by omega
        obtain ⟨p3, c3, hv, h1, h2, h3, h4, h5⟩ := hO.in_
        have HL : Hid (VT.Alike (.mk k i s j p c f) (.mk k i s j p3 c3 g) ∧ VT.In wr (fun b => w.heap.size + 2 ≤ b) (.mk k i s j p3 c3 g)) :=
          ⟨⟨rfl, rfl, rfl, rfl, hal⟩, ⟨⟨HF.k0, HF.k1, HF.i0, HF.i1, HF.s1, h1, HF.nn, h2, h3⟩, h4, h5⟩⟩
        have f3 := hB0.frozen 3
        have g0 := hB1.frozen 0
        have g1 := hB1.frozen 1
        have g2 := hB1.frozen 2
        have g3 := hB1.frozen 3
        have d0 := hB1.cell 0
        have d1 := hB1.cell 1
        have d2 := hB1.cell 2
        have d3 := hB1.cell 3
        simp at d0 d1 d2 d3
        subst hv
        clear h4 h5 hO HI hal ih
        go_wp2
        have hk : But (fun x => x = w.heap.size ∨ x = w.heap.size + 1) wr (((((wr.setCell ⟨w.heap.size, 3, none⟩ (.slice p3 j c3)).setCell ⟨w.heap.size + 1, 0, none⟩ (.int .i64 k)).setCell ⟨w.heap.size + 1, 1, none⟩ (.int .i64 i)).setCell ⟨w.heap.size + 1, 2, none⟩ (.string s)).setCell ⟨w.heap.size + 1, 3, none⟩ (.slice p3 j c3)) :=
          (((((But.refl _ wr).setCell (fun _ => Or.inl rfl) _).setCell (fun _ => Or.inr rfl) _).setCell (fun _ => Or.inr rfl) _).setCell (fun _ => Or.inr rfl) _).setCell (fun _ => Or.inr rfl) _
        refine bodyPost_ret (v := .agg #[.int .i64 k, .int .i64 i, .string s, .slice p3 j c3]) (by simp [results, Try.results76, go_sem, d0, d1, d2, d3]) rfl ⟨.mk k i s j p3 c3 g, rfl, HL.out.1, ?_, ?_⟩
        · exact (HL.out.2.but hk (fun b hb _ => by omega)).mono fun b hb _ => by omega
        · exact hbel.trans (hk.below (by omega) (fun x hx => by omega))
structure LAlk {α : Type} (R : α → α → Prop) (l u : LT α) : Prop where
  n : u.n = l.n
  item : ∀ j, j < l.n → R (l.item j) (u.item j)
theorem TwoK.grown {w0 w w' : World} {a b : Array Value} {t : TypeId} {row : Option Nat} (h : TwoK w0 w a b t) (hg : w.grownBy w' row) (hr : ∀ j, row = some j → w0.heap.size + 2 ≤ j) : TwoK w0 w' a b t :=
  ⟨h.ba.kept (hg.block _ h.ba.lt (fun e => by have := hr _ e.symm; omega)), h.bb.kept (hg.block _ h.bb.lt (fun e => by have := hr _ e.symm; omega)), h.bel.trans ⟨hg.os, hg.tape, hg.output, hg.size, fun k hk => hg.block k (Nat.lt_of_lt_of_le hk h.bel.size) (fun e => by have := hr _ e.symm; omega)⟩⟩
set_option maxHeartbeats 4000000 in
theorem rr5 (r : RT) (w : World) (S : Nat → Prop) (hin : RT.In w S r) (ht : r.size ≤ 10000) :
    Calls Try.prog 61 #[.agg #[.string r.key, .int .i64 r.v.kind, .int .i64 r.v.int, .string r.v.text, .slice r.v.p r.v.n r.v.c, .slice r.p r.n r.c]] w fun e w' => ∃ u : RT, e = .returned (.agg #[.string u.key, .int .i64 u.v.kind, .int .i64 u.v.int, .string u.v.text, .slice u.v.p u.v.n u.v.c, .slice u.p u.n u.c]) ∧ RT.Alike r u ∧ RT.In w' (fun b => w.heap.size ≤ b) u ∧ Below w.heap.size w w' := by
  obtain ⟨i0, Kd⟩ := kindIc
  unfold RT.size at ht
  have hn1 : r.n ≤ 10000 := by omega
  have HV : Hid (∀ W, Below w.heap.size w W → Calls Try.prog 76 #[.agg #[.int .i64 r.v.kind, .int .i64 r.v.int, .string r.v.text, .slice r.v.p r.v.n r.v.c]] W fun e w' => ∃ u : VT, e = .returned u.val ∧ VT.Alike r.v u ∧ VT.In w' (fun b => W.heap.size ≤ b) u ∧ Below W.heap.size W w') := fun W hW =>
    rv5 r.v W (fun b => S b ∧ b < w.heap.size) ((hin.v.mono fun b hb hl => ⟨hb, hl⟩).kept hW.size (fun b hb _ => hW.block b hb.2)) (by omega)
  unfold VT.val at HV
  have HI := hid hin.l
  have HF := hid hin.l.fit
  have HK := hid hin.k
  have HT := hid (TwoK.start w #[.string r.key, .int .i64 r.v.kind, .int .i64 r.v.int, .string r.v.text, .slice r.v.p r.v.n r.v.c, .slice r.p r.n r.c] #[.string ⟨#[]⟩, .int .i64 0, .int .i64 0, .string ⟨#[]⟩, .slice none 0 0, .slice none 0 0] 33)
  have HKd := hid Kd
  clear hin ht Kd
  go_enter Try.func61, Try.ntmps61
  go_wp2_with fail
  go_loopw [3, 4] (fun v x wr => ∃ k : Nat, k ≤ r.n ∧ x = .int .i64 (k : Int) ∧ wr.ownsRow (w.heap.size + 2) 3 1 v k ((List.range k).map fun j => .int .i64 (r.loop j)) ∧ TwoK w wr #[.string r.key, .int .i64 r.v.kind, .int .i64 r.v.int, .string r.v.text, .slice r.v.p r.v.n r.v.c, .slice r.p r.n r.c] #[.string ⟨#[]⟩, .int .i64 0, .int .i64 0, .string ⟨#[]⟩, .slice none 0 0, .slice none 0 0] 33) (fun _ x _ => r.n - (intOf x).toNat)
  case atStart => exact ⟨0, Nat.zero_le _, rfl, World.ownsRow_nil _ _ _ _, HT.out⟩
  case round =>
    obtain ⟨k, hk, rfl, hO, hT⟩ := hrel
    have HO := hid hO
    have HT1 := hid hT
    have x5 := hT.ba.cell 5
    have l0 := hT.ba.lt
    have l1 := hT.bb.lt
    simp at x5
    clear hO hT HT
    by_cases hlt : k < r.n
    · have hlt' : (k : Int) < (r.n : Int) := by omega
      obtain ⟨bb, o, hp, hSb, hbb, hat⟩ := HI.out.at_ (by omega)
      have c0 := (World.cell?_of_block (a := ⟨bb, o + k, none⟩) (HT1.out.bel.block bb hbb)).trans (hat k hlt)
      rw [hp] at x5
      clear hp
      have ha : Below wr.heap.size wr (wr.alloc (.cells #[.int .i64 (r.loop k)] 3)) := (Below.refl _ _).alloc (Nat.le_refl _) _
      have HAl := hid ha
      have HNw : Hid (∀ j u', ([.int .i64 (r.loop k)] : List Value)[j]? = some u' → (wr.alloc (.cells #[.int .i64 (r.loop k)] 3)).cell? ((⟨wr.heap.size, 0, none⟩ : Addr).add j) = some u') := fun j u' hu => by
        rw [Go.WideShapes.add_plain, (Box.new wr #[.int .i64 (r.loop k)] 3).cell]
        rw [show 0 + j = j by omega]
        simpa using hu
      have hsz := HT1.out.bel.size
      have hsz2 : w.heap.size + 2 ≤ wr.heap.size := by omega
      clear ha hat
      go_wp2_with (at_builtin; refine wpList_app rfl (.tmp 12) (.tmp 18) 31 3 i0 _ 1 8 HKd.out rfl (w.heap.size + 2) u3 k _ rfl (HO.out.alloc _) ⟨wr.heap.size, 0, none⟩ 1 1 [.int .i64 (r.loop k)] rfl rfl HNw.out (fun u hu => by simp at hu; rw [hu]; rfl) (by omega) (by omega) (by simp; omega) ?_)
      intro v3 w3 ho3 hg3 hn3
      have HO3 : Hid (w3.ownsRow (w.heap.size + 2) 3 1 v3 (k + 1) ((List.range (k + 1)).map fun j => .int .i64 (r.loop j))) := by
        unfold Hid
        rw [List.range_succ, List.map_append]
        exact ho3
      have HT3 := hid ((HT1.out.below HAl.out).grown hg3 (fun j hj => (HO.out.lt j hj).1))
      clear ho3 hg3 hn3 HNw HAl
      go_wp2
      go_roundw
      case rel => exact ⟨k + 1, by omega, by go_num, HO3.out, HT3.out⟩
      case measure => simp [intOf]; omega
    · obtain rfl : k = r.n := by omega
      have hlt' : ¬ (r.n : Int) < (r.n : Int) := by omega
      obtain ⟨p1, c1, rfl, hI1⟩ := Ints.own HO.out (by omega) HF.out
      have HI1 := hid hI1
      have hsz1 : w.heap.size + 2 ≤ wr.heap.size := by have := HT1.out.bb.lt; omega
      have x1 := HT1.out.ba.cell 1
      have x2 := HT1.out.ba.cell 2
      have x3 := HT1.out.ba.cell 3
      have x4 := HT1.out.ba.cell 4
      have x5 := HT1.out.ba.cell 5
      have f5 := HT1.out.ba.frozen 5
      simp at x1 x2 x3 x4 x5
      clear x5 hI1
      have x5 := HT1.out.ba.cell 5
      simp at x5
      go_wp2_with fail
      have HT2 := hid (HT1.out.setA 5 (.slice p1 r.n c1))
      refine (HV.out _ HT2.out.bel).mono ?_
      rintro e w2 ⟨u, rfl, hal, hin2, hb2⟩
      have HT3 := hid (HT2.out.below hb2)
      have hbt1 : But (fun x => x = w.heap.size) wr (wr.setCell ⟨w.heap.size, 5, none⟩ (.slice p1 r.n c1)) := (But.one wr _).setAt 5 _
      have HU := hid (And.intro hal (And.intro (hin2.mono (S' := fun b => wr.heap.size ≤ b) (fun b hb _ => by simpa [World.setCell] using hb)) ((HI1.out.kept hbt1.size (fun b hb hl => hbt1.block b hl (by omega))).kept hb2.size (fun b _ hl => hb2.block b hl))))
      have m0 := HT3.out.ba.lt
      have m1 := HT3.out.bb.lt
      have y0 := HT3.out.ba.cell 0
      have y1 := HT3.out.ba.cell 1
      have y2 := HT3.out.ba.cell 2
      have y3 := HT3.out.ba.cell 3
      have y4 := HT3.out.ba.cell 4
      have y5 := HT3.out.ba.cell 5
      have g1 := HT3.out.ba.frozen 1
      have g2 := HT3.out.ba.frozen 2
      have g3 := HT3.out.ba.frozen 3
      have g4 := HT3.out.ba.frozen 4
      have z0 := HT3.out.bb.cell 0
      have z1 := HT3.out.bb.cell 1
      have z2 := HT3.out.bb.cell 2
      have z3 := HT3.out.bb.cell 3
      have z4 := HT3.out.bb.cell 4
      have z5 := HT3.out.bb.cell 5
      have k0 := HT3.out.bb.frozen 0
      have k1 := HT3.out.bb.frozen 1
      have k2 := HT3.out.bb.frozen 2
      have k3 := HT3.out.bb.frozen 3
      have k4 := HT3.out.bb.frozen 4
      have k5 := HT3.out.bb.frozen 5
      simp at y0 y1 y2 y3 y4 y5 z0 z1 z2 z3 z4 z5
      clear hal hin2 hb2 hbt1 HT1 HT2 HV x1 x2 x3 x4 x5 f5 HI1
      go_wp2
      have HT6 := ((((((((((HT3.out.setA 1 (.int .i64 u.kind)).setA 2 (.int .i64 u.int)).setA 3 (.string u.text)).setA 4 (.slice u.p u.n u.c)).setB 0 (.string r.key)).setB 1 (.int .i64 u.kind)).setB 2 (.int .i64 u.int)).setB 3 (.string u.text)).setB 4 (.slice u.p u.n u.c)).setB 5 (.slice p1 r.n c1))
      have hbt : But (fun x => x = w.heap.size ∨ x = w.heap.size + 1) w2 ((((((((((w2.setCell ⟨w.heap.size, 1, none⟩ (.int .i64 u.kind)).setCell ⟨w.heap.size, 2, none⟩ (.int .i64 u.int)).setCell ⟨w.heap.size, 3, none⟩ (.string u.text)).setCell ⟨w.heap.size, 4, none⟩ (.slice u.p u.n u.c)).setCell ⟨w.heap.size + 1, 0, none⟩ (.string r.key)).setCell ⟨w.heap.size + 1, 1, none⟩ (.int .i64 u.kind)).setCell ⟨w.heap.size + 1, 2, none⟩ (.int .i64 u.int)).setCell ⟨w.heap.size + 1, 3, none⟩ (.string u.text)).setCell ⟨w.heap.size + 1, 4, none⟩ (.slice u.p u.n u.c)).setCell ⟨w.heap.size + 1, 5, none⟩ (.slice p1 r.n c1)) :=
        ((((((((((But.refl _ w2).setCell (fun _ => Or.inl rfl) _).setCell (fun _ => Or.inl rfl) _).setCell (fun _ => Or.inl rfl) _).setCell (fun _ => Or.inl rfl) _).setCell (fun _ => Or.inr rfl) _).setCell (fun _ => Or.inr rfl) _).setCell (fun _ => Or.inr rfl) _).setCell (fun _ => Or.inr rfl) _).setCell (fun _ => Or.inr rfl) _).setCell (fun _ => Or.inr rfl) _
      refine bodyPost_ret (v := .agg #[.string r.key, .int .i64 u.kind, .int .i64 u.int, .string u.text, .slice u.p u.n u.c, .slice p1 r.n c1]) (by simp [results, Try.results61, go_sem, z0, z1, z2, z3, z4, z5]) rfl ⟨⟨r.key, u, p1, r.n, c1, r.loop⟩, rfl, ⟨rfl, HU.out.1, rfl, fun _ _ => rfl⟩, ⟨?_, ?_, HK.out⟩, HT6.bel⟩
      · exact (HU.out.2.1.kept hbt.size (fun b hb hl => hbt.block b hl (by omega))).mono fun b hb _ => by omega
      · exact (HU.out.2.2.kept hbt.size (fun b hb hl => hbt.block b hl (by omega))).mono fun b hb _ => by omega
set_option maxHeartbeats 4000000 in
theorem rrs5 (l : LT RT) (w : World) (S : Nat → Prop) (hin : LT.In elRec w S l) (hn1 : l.n ≤ 10000) (hs : ∀ j, j < l.n → (l.item j).size ≤ 10000) :
    Calls Try.prog 51 #[.slice l.p l.n l.c] w fun e w' => ∃ u : LT RT, e = .returned (.slice u.p u.n u.c) ∧ LAlk RT.Alike l u ∧ LT.In elRec w' (fun b => w.heap.size ≤ b) u ∧ Below w.heap.size w w' := by
  obtain ⟨i0, Kd⟩ := kindRs
  have HKd := hid Kd
  have HI := hid hin
  have HS := hid hs
  clear hin hs Kd
  go_enter Try.func51, Try.ntmps51
  go_wp2_with fail
  go_loopw [3, 4] (fun v x wr => ∃ (k : Nat) (g : Nat → RT), k ≤ l.n ∧ x = .int .i64 (k : Int) ∧ OwnL elRec w.heap.size wr v k g ∧ (∀ q, q < k → RT.Alike (l.item q) (g q)) ∧ Below w.heap.size w wr) (fun _ x _ => l.n - (intOf x).toNat)
  case atStart => exact ⟨0, l.item, Nat.zero_le _, rfl, ⟨World.ownsRow_nil _ _ _ _, fun j hj => absurd hj (by omega)⟩, fun q hq => absurd hq (by omega), Below.refl _ _⟩
  case round =>
    obtain ⟨k, g, hk, rfl, hO, hal, hbel⟩ := hrel
    have HO := hid hO
    have HA := hid hal
    have HB := hid hbel
    clear hO hal hbel
    by_cases hlt : k < l.n
    · have hlt' : (k : Int) < (l.n : Int) := by omega
      obtain ⟨bb, o, hp, hSb, hbb, hat⟩ := HI.out.at_ (by omega)
      rw [hp]
      have hcell : ∀ r u, (elRec.cells (l.item k))[r]? = some u → wr.cell? ⟨bb, o + k * 6 + r, none⟩ = some u := fun r u hu => (World.cell?_of_block (a := ⟨bb, o + k * 6 + r, none⟩) (HB.out.block bb hbb)).trans (hat k hlt r u hu)
      have c0 : wr.cell? ⟨bb, o + k * 6, none⟩ = some (.string (l.item k).key) := hcell 0 _ rfl
      have c1 : wr.cell? ⟨bb, o + k * 6 + 1, none⟩ = some (.int .i64 (l.item k).v.kind) := hcell 1 _ rfl
      have c2 : wr.cell? ⟨bb, o + k * 6 + 2, none⟩ = some (.int .i64 (l.item k).v.int) := hcell 2 _ rfl
      have c3 : wr.cell? ⟨bb, o + k * 6 + 3, none⟩ = some (.string (l.item k).v.text) := hcell 3 _ rfl
      have c4 : wr.cell? ⟨bb, o + k * 6 + 4, none⟩ = some (.slice (l.item k).v.p (l.item k).v.n (l.item k).v.c) := hcell 4 _ rfl
      have c5 : wr.cell? ⟨bb, o + k * 6 + 5, none⟩ = some (.slice (l.item k).p (l.item k).n (l.item k).c) := hcell 5 _ rfl
      have HC := hid (rr5 (l.item k) wr (fun b => S b ∧ b < w.heap.size) ((RT.In.mono (HI.out.each k hlt) fun b hb hl => ⟨hb, hl⟩).kept HB.out.size (fun b hb _ => HB.out.block b hb.2)) (HS.out k hlt))
      skip
      clear hcell hat
      go_wp2_with fail
      refine HC.out.mono ?_
      rintro e w2_ ⟨u, rfl, hal2, hin2_, hb2_⟩
      obtain ⟨w2, hw2⟩ : ∃ V, V = w2_.alloc (.cells #[.string u.key, .int .i64 u.v.kind, .int .i64 u.v.int, .string u.v.text, .slice u.v.p u.v.n u.v.c, .slice u.p u.n u.c] 33) := ⟨_, rfl⟩
      have hbx : Below w2_.heap.size w2_ w2 := by rw [hw2]; exact (Below.refl _ _).alloc (Nat.le_refl _) _
      have hxb : Box w2 w2_.heap.size #[.string u.key, .int .i64 u.v.kind, .int .i64 u.v.int, .string u.v.text, .slice u.v.p u.v.n u.v.c, .slice u.p u.n u.c] 33 := by rw [hw2]; exact Box.new _ _ _
      have hb2 : Below wr.heap.size wr w2 := hb2_.trans (hbx.mono hb2_.size)
      have hin2 := hin2_.below hbx
      have q0 := hxb.cell 0
      have q1 := hxb.cell 1
      have q2 := hxb.cell 2
      have q3 := hxb.cell 3
      have q4 := hxb.cell 4
      have q5 := hxb.cell 5
      have ql := hxb.lt
      simp at q0 q1 q2 q3 q4 q5
      have HW2 := hid hw2
      clear hw2 hbx hxb hb2_ hin2_
      have hO2 := HO.out.keep hb2.size (fun k _ hl => hb2.block k hl)
      have hu2 : RT.In w2 (fun b => w.heap.size ≤ b ∧ u3.ownBlock ≠ some b) u := hin2.mono fun b hb _ => ⟨Nat.le_trans HB.out.size hb, fun e => by have := (HO.out.own.lt b e).2; omega⟩
      have hsz : w.heap.size ≤ w2.heap.size := Nat.le_trans HB.out.size hb2.size
      have H2 := hid (And.intro hO2 (And.intro hu2 (And.intro hal2 (HB.out.trans (hb2.mono HB.out.size)))))
      have ha : Below w2.heap.size w2 (w2.alloc (.cells #[.string u.key, .int .i64 u.v.kind, .int .i64 u.v.int, .string u.v.text, .slice u.v.p u.v.n u.v.c, .slice u.p u.n u.c] 33)) := (Below.refl _ _).alloc (Nat.le_refl _) _
      have HAl := hid ha
      have HNw : Hid (∀ j u', (elRec.cells u)[j]? = some u' → (w2.alloc (.cells #[.string u.key, .int .i64 u.v.kind, .int .i64 u.v.int, .string u.v.text, .slice u.v.p u.v.n u.v.c, .slice u.p u.n u.c] 33)).cell? ((⟨w2.heap.size, 0, none⟩ : Addr).add j) = some u') := fun j u' hu => by
        rw [Go.WideShapes.add_plain, (Box.new w2 #[.string u.key, .int .i64 u.v.kind, .int .i64 u.v.int, .string u.v.text, .slice u.v.p u.v.n u.v.c, .slice u.p u.n u.c] 33).cell]
        rw [show 0 + j = j by omega]
        simpa [elRec, RT.cells, VT.cells] using hu
      clear hO2 hu2 hal2 hin2 hb2 ha HC c0 c1 c2 c3 c4 c5
      go_upto_region 6 with fail
      rw [← HW2.out]
      go_wp2_with (at_builtin; refine wpList_app rfl (.tmp 17) (.tmp 19) 38 33 i0 _ 6 96 HKd.out rfl w.heap.size u3 k _ rfl (H2.out.1.own.alloc _) ⟨w2.heap.size, 0, none⟩ 1 1 (elRec.cells u) rfl rfl HNw.out (elRec.one u) (by omega) (by omega) (by simp; omega) ?_)
      intro v3 w3 ho3 hg3 hn3
      obtain ⟨hO2, hu2, hal2, hbel2⟩ := H2.out
      have HO3 := hid ((hO2.keep HAl.out.size (fun k _ hl => HAl.out.block k hl)).push (hu2.below HAl.out) ho3 hg3 hn3)
      have HB3 : Hid (Below w.heap.size w w3) := (hbel2.trans (HAl.out.mono hsz)).grown hg3 (by simp; omega) (fun k hk => (hO2.own.lt k hk).1)
      have HA3 : Hid (∀ q, q < k + 1 → RT.Alike (l.item q) (if q < k then g q else u)) := by
        intro q hq
        by_cases hqk : q < k
        · rw [if_pos hqk]; exact HA.out q hqk
        · rw [if_neg hqk]
          obtain rfl : q = k := by omega
          exact hal2
      clear ho3 hg3 hn3 hO2 hu2 hal2 hbel2 H2 HAl HNw
      go_wp2
      go_roundw
      case rel => exact ⟨k + 1, _, by omega, by go_num, HO3.out, HA3.out, HB3.out⟩
      case measure => simp [intOf]; omega
    · obtain rfl : k = l.n := by omega
      have hlt' : ¬ (l.n : Int) < (l.n : Int) := by omega
      obtain ⟨p3, c3, hv, hL⟩ := HO.out.in_ (by omega)
      have HL := hid hL
      subst hv
      clear hL
      go_wp2
      refine bodyPost_ret (v := .slice p3 l.n c3) (by simp [results, Try.results51, go_sem]) rfl ⟨⟨p3, l.n, c3, g⟩, rfl, ⟨rfl, HA.out⟩, HL.out, HB.out⟩
end Go.Proofs.Ytpldokahoamdpaa

namespace Go.Proofs.Ytpldokahoamdpaa
open Go.RowKit Go.Conc
set_option maxRecDepth 8000
set_option maxRecDepth 60000 in
set_option maxHeartbeats 4000000 in
theorem receive_shut (w : World) (b : Nat) (room : Int) (h : LnS w b room) : Calls Try.prog 35 #[.pointer (some ⟨b, 0, none⟩)] w fun e w' => e = .returned (.tuple #[zI, .bool false]) ∧ Below w.heap.size w w' := by
  obtain ⟨W, hW⟩ : ∃ W, W = w.alloc (.cells #[.int .i64 0, .string ⟨#[]⟩, .int .i64 0, .int .i64 0, .string ⟨#[]⟩, .slice none 0 0, .slice none 0 0] 35) := ⟨_, rfl⟩
  have hB : Below w.heap.size w W := by rw [hW]; exact (Below.refl _ _).alloc (Nat.le_refl _) _
  have hX : Box W w.heap.size #[.int .i64 0, .string ⟨#[]⟩, .int .i64 0, .int .i64 0, .string ⟨#[]⟩, .slice none 0 0, .slice none 0 0] 35 := by rw [hW]; exact Box.new _ _ _
  have hI2 := Box.below h hB
  have c2 : W.cell? ⟨b, 2, none⟩ = some (.pointer none) := by rw [hI2.cell]; rfl
  have c3 : W.cell? ⟨b, 3, none⟩ = some (.chan none) := by rw [hI2.cell]; rfl
  have bl := hI2.lt
  have HB := hid hB
  have HW := hid hW
  have f0 := hX.frozen 0
  have f1 := hX.frozen 1
  have f2 := hX.frozen 2
  have f3 := hX.frozen 3
  have f4 := hX.frozen 4
  have f5 := hX.frozen 5
  have f6 := hX.frozen 6
  have z0 := hX.cell 0
  have z1 := hX.cell 1
  have z2 := hX.cell 2
  have z3 := hX.cell 3
  have z4 := hX.cell 4
  have z5 := hX.cell 5
  have z6 := hX.cell 6
  simp at z0 z1 z2 z3 z4 z5 z6
  have xl := hX.lt
  clear h hI2 hB hW hX
  go_enter Try.func35, Try.ntmps35
  go_upto_region 1 with fail
  rw [← HW.out]
  go_upto_region 6 with fail
  refine wp_comm1 (cases := #[rcaseNil zI]) (blocking := false) (shape := .select) (w1 := W) (v := .tuple #[goInt (-1), .bool false, zI]) (w2 := W) rfl (by simp [go_sem, execOp, rcaseNil, Act.eval, zI]) (fun fr cs es h => step_lone_select_recv_nil h) ?_
  go_wp2
  have hbt := (((((((But.one W w.heap.size).setAt 0 (.int .i64 0)).setAt 1 (.string ⟨#[]⟩)).setAt 2 (.int .i64 0)).setAt 3 (.int .i64 0)).setAt 4 (.string ⟨#[]⟩)).setAt 5 (.slice none 0 0)).setAt 6 (.slice none 0 0)
  refine bodyPost_ret (v := .tuple #[zI, .bool false]) (by simp [results, Try.results35, go_sem, z0, z1, z2, z3, z4, z5, z6, zI]) rfl ⟨rfl, HB.out.trans (hbt.below HB.out.size (fun k hk e => by omega))⟩
theorem peek_shut (w : World) (b : Nat) (room : Int) (h : LnS w b room) : Calls Try.prog 48 #[.pointer (some ⟨b, 0, none⟩)] w fun e w' => e = .returned (.tuple #[zI, .bool false]) ∧ Below w.heap.size w w' :=
  peek_none' w b fun W hB => receive_shut W b room (Box.below h hB)
set_option maxRecDepth 60000 in
set_option maxHeartbeats 4000000 in
theorem take_shut (w : World) (b : Nat) (room : Int) (h : LnS w b room) : Calls Try.prog 13 #[.pointer (some ⟨b, 0, none⟩)] w fun e w' => e = .returned (.tuple #[zI, .bool false]) ∧ Below w.heap.size w w' := by
  obtain ⟨W, hW⟩ : ∃ W, W = w.alloc (.cells #[.int .i64 0, .string ⟨#[]⟩, .int .i64 0, .int .i64 0, .string ⟨#[]⟩, .slice none 0 0, .slice none 0 0] 35) := ⟨_, rfl⟩
  have hB : Below w.heap.size w W := by rw [hW]; exact (Below.refl _ _).alloc (Nat.le_refl _) _
  have hX : Box W w.heap.size #[.int .i64 0, .string ⟨#[]⟩, .int .i64 0, .int .i64 0, .string ⟨#[]⟩, .slice none 0 0, .slice none 0 0] 35 := by rw [hW]; exact Box.new _ _ _
  have HRc := hid (receive_shut W b room (Box.below h hB))
  have HB := hid hB
  have HW := hid hW
  have HX := hid hX
  clear h hB hX hW
  go_enter Try.func13, Try.ntmps13
  go_upto_region 1 with fail
  rw [← HW.out]
  go_wp2_with fail
  refine HRc.out.mono ?_
  rintro e w1 ⟨rfl, hB1⟩
  have hX1 := HX.out.below hB1
  have HB1 := hid (HB.out.trans (hB1.mono HB.out.size))
  have z0 := hX1.cell 0
  have z1 := hX1.cell 1
  have z2 := hX1.cell 2
  have z3 := hX1.cell 3
  have z4 := hX1.cell 4
  have z5 := hX1.cell 5
  have z6 := hX1.cell 6
  simp at z0 z1 z2 z3 z4 z5 z6
  have f0 := hX1.frozen 0
  have f1 := hX1.frozen 1
  have f2 := hX1.frozen 2
  have f3 := hX1.frozen 3
  have f4 := hX1.frozen 4
  have f5 := hX1.frozen 5
  have f6 := hX1.frozen 6
  have zl := hX1.lt
  have hs1 := hB1.size
  have hs0 := HB.out.size
  clear hB1 hX1
  unfold zI
  go_wp2
  have hp := put7_but w1 w.heap.size ⟨0, rz⟩
  refine bodyPost_ret (v := .tuple #[zI, .bool false]) (by simp [results, Try.results13, go_sem, z0, z1, z2, z3, z4, z5, z6, zl, zI]) rfl ⟨rfl, ?_⟩
  change Below w.heap.size w ((put7 w1 w.heap.size ⟨0, rz⟩).alloc _)
  exact (HB1.out.trans (hp.below (by omega) (fun k hk e => by omega))).alloc (by have := hp.size; omega) _
set_option maxHeartbeats 1000000 in
theorem count_shut (w : World) (b : Nat) (room : Int) (h : LnS w b room) : Calls Try.prog 32 #[.pointer (some ⟨b, 0, none⟩)] w fun e w' => e = .returned (.int .i64 0) ∧ w' = w := by
  have c2 : w.cell? ⟨b, 2, none⟩ = some (.pointer none) := by rw [Box.cell h]; rfl
  have c3 : w.cell? ⟨b, 3, none⟩ = some (.chan none) := by rw [Box.cell h]; rfl
  have bl := Box.lt h
  have hlc : (Builtin.len_ #[71] 3 #[.chan none]).run Try.prog w = .ok (goInt 0) w := by simp [Builtin.len_, run_underlying Try.underlying71]
  clear h
  go_enter Try.func32, Try.ntmps32
  go_wp2
  refine bodyPost_ret (v := .int .i64 0) (by simp [results, Try.results32, go_sem]) rfl ⟨rfl, rfl⟩
set_option maxHeartbeats 1000000 in
theorem close_shut (w : World) (b : Nat) (room : Int) (h : LnS w b room) : Calls Try.prog 20 #[.pointer (some ⟨b, 0, none⟩)] w fun e w' => e = .returned (.slice none 0 0) ∧ w' = w := by
  have HS := hid (shut_yes w b room h)
  clear h
  go_enter Try.func20, Try.ntmps20
  go_wp2_with fail
  refine HS.out.mono ?_
  rintro e w0 ⟨rfl, hw0⟩
  subst w0
  go_wp2
  refine bodyPost_ret (v := .slice none 0 0) (by simp [results, Try.results20, go_sem]) rfl ⟨rfl, rfl⟩
set_option maxRecDepth 60000 in
set_option maxHeartbeats 4000000 in
theorem pull_shut (w : World) (b : Nat) (room : Int) (h : LnS w b room) : Calls Try.prog 11 #[.pointer (some ⟨b, 0, none⟩)] w fun e w' => e = .returned (.tuple #[.int .i64 0, .slice none 0 0]) ∧ Below w.heap.size w w' := by
  have HC : Hid (∀ W, Below w.heap.size w W → Calls Try.prog 32 #[.pointer (some ⟨b, 0, none⟩)] W fun e w' => e = .returned (.int .i64 0) ∧ w' = W) := fun W hW => count_shut W b room (Box.below h hW)
  have c1 : w.cell? ⟨b, 1, none⟩ = some (.int .i64 0) := by rw [Box.cell h]; rfl
  have bl := Box.lt h
  have hd : ((0 : Int) == (0 : Int)) = true := by simp
  clear h
  go_enter Try.func11, Try.ntmps11
  go_upto_region 1 with fail
  refine wp_region_calmE 30 (fun wx => Below w.heap.size w wx) [(0, true), (2, true), (3, true), (4, true), (5, false)] (.one 1 true [(6, true)] .done) (by kernel_rfl) (by kernel_rfl) (Below.refl _ _).drew ?_
  refine wpPre_e rfl rfl (fun K1 hK1 => ?_)
  apply Exists.intro
  refine And.intro (fun wx hx => ?_) ?_
  · go_simp
    try rfl
  go_simp
  refine hK1 _ ?_
  clear hK1 K1
  refine wpPre_e rfl rfl (fun K1 hK1 => ?_)
  apply Exists.intro
  refine And.intro (fun wx hx => ?_) ?_
  · go_simp
    try rfl
  go_simp
  refine hK1 _ ?_
  clear hK1 K1
  refine wpPre_e rfl rfl (fun K1 hK1 => ?_)
  apply Exists.intro
  refine And.intro (fun wx hx => ?_) ?_
  · go_simp
    try rfl
  go_simp
  refine hK1 _ ?_
  clear hK1 K1
  refine wpPre_e rfl rfl (fun K1 hK1 => ?_)
  apply Exists.intro
  refine And.intro (fun wx hx => ?_) ?_
  · go_simp
    try rfl
  go_simp
  refine hK1 _ ?_
  clear hK1 K1
  refine wpPre_e rfl rfl (fun K1 hK1 => ?_)
  apply Exists.intro
  refine And.intro (fun wx hx => ?_) ?_
  · have e0 := below_fact hx rfl c1
    go_simp
    try rfl
  go_simp
  refine hK1 _ ?_
  clear hK1 K1
  refine wpPre_nil ?_
  refine wpTr_e rfl (fun K1 hK1 => ?_)
  refine step_call rfl 32 #[.tmp 8] _ rfl Try.f32 Try.func32 (by kernel_rfl) rfl #[.pointer (some ⟨b, 0, none⟩)] rfl _ (HC.out _ (Below.refl _ _).drew) (fun e w4 h4 => ?_)
  obtain ⟨rfl, rfl⟩ := h4
  refine ⟨_, rfl, ?_⟩
  go_simp
  refine hK1 _ _ (fun _ => (Below.refl _ _).drew) ?_
  clear hK1 K1
  refine wpPre_e rfl rfl (fun K1 hK1 => ?_)
  apply Exists.intro
  refine And.intro (fun wx hx => ?_) ?_
  · go_simp
    try rfl
  go_simp
  refine hK1 _ ?_
  clear hK1 K1
  refine wpPre_nil ?_
  refine wpTr_done ?_
  go_wp2
  refine bodyPost_ret (v := .tuple #[.int .i64 0, .slice none 0 0]) (by simp [results, Try.results11, go_sem]) rfl ⟨rfl, (Below.refl _ _).drew⟩
set_option maxRecDepth 60000 in
set_option maxHeartbeats 4000000 in
theorem list_shut (w : World) (b : Nat) (room : Int) (h : LnS w b room) : Calls Try.prog 16 #[.pointer (some ⟨b, 0, none⟩)] w fun e w' => ∃ p, e = .returned (.slice p 0 0) ∧ Below w.heap.size w w' := by
  obtain ⟨i0, Kd⟩ := kindIt
  have HC := hid (count_shut w b room h)
  obtain ⟨W, hmk, r1, r2⟩ := run_make_own (P := Try.prog) w w.heap.size 22 35 i0 _ 7 Kd.ht Kd.hi Kd.hz Kd.hsize .i64 .i64 0 (by rw [Kd.hby]; omega) (by unfold maxLen; omega) (Nat.le_refl _)
  have hB : Below w.heap.size w W := (Below.refl _ _).grown r2 (Nat.le_refl _) fun k hk => by cases hk
  simp only [show ((0 : Nat) : Int) = 0 from rfl] at hmk
  have HC2 := hid (count_shut W b room (Box.below h hB))
  have HB := hid hB
  clear h r1 r2 hB Kd
  go_enter Try.func16, Try.ntmps16
  go_wp2_with fail
  refine HC.out.mono ?_
  rintro e w0 ⟨rfl, hw0⟩
  subst w0
  go_wp2_with fail
  refine HC2.out.mono ?_
  rintro e w0 ⟨rfl, hw0⟩
  subst w0
  clear hmk HC HC2
  go_wp2_with fail
  go_loopw [3, 11] (fun v x wr => x = .int .i64 0 ∧ v = .slice (some ⟨w.heap.size, 0, none⟩) 0 0 ∧ wr = W) (fun _ x _ => 0)
  case atStart => exact ⟨rfl, rfl, rfl⟩
  case round =>
    obtain ⟨rfl, rfl, hw⟩ := hrel
    subst wr
    go_wp2
    refine bodyPost_ret (v := .slice (some ⟨w.heap.size, 0, none⟩) 0 0) (by simp [results, Try.results16, go_sem]) rfl ⟨_, rfl, HB.out⟩
theorem full_shut (w : World) (b : Nat) (room : Int) (h : LnS w b room) (_h0 : 0 ≤ room) : Calls Try.prog 18 #[.pointer (some ⟨b, 0, none⟩)] w fun e w' => e = .returned (.bool false) ∧ Below w.heap.size w w' := by
  have e0 : fullB room 0 = false := by unfold fullB; by_cases hr : 0 < room <;> simp [hr] <;> omega
  have := full_cells w b room 0 (by rw [Box.cell h]; rfl) (by rw [Box.cell h]; rfl) (Box.lt h)
  rwa [e0] at this
end Go.Proofs.Ytpldokahoamdpaa
