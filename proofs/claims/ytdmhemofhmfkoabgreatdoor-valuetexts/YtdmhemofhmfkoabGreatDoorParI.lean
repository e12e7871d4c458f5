import Derived.Test.YtdmhemofhmfkoabGreatDoorPack19
import Derived.Test.YtdmhemofhmfkoabGreatDoorParG
import Derived.WalkMore
import Derived.Deep.CutRange
namespace Go.Proofs.YtdmhemofhmfkoabGreatDoor
open Go.RowKit
set_option maxRecDepth 8000

/-- what reading a part comes to -/
def TPost (w : World) (rb : Nat) (s : ByteArray) (r : TR) (x : Ending) (w' : World) : Prop :=
  (∀ t a' q', r = .ok (t, a', q') → ∃ u, x = .returned u.val ∧ VT.Alike t u ∧ VT.In w' (fun b => w.heap.size ≤ b) u ∧ Rd w' rb s a' q' ∧ But (fun y => y = rb) w w') ∧ (∀ p e, r = .error (p, e) → FailsAt p e x ∧ But (fun y => y = rb) w w')
theorem tpost_ok {w W2 Wf : World} {rb : Nat} {s : ByteArray} {R : TR} {t u : VT} {a' q' : Nat} (hr : R = .ok (t, a', q')) (hal : VT.Alike t u) (hin : VT.In W2 (fun b => w.heap.size + 1 ≤ b) u) (hb : Rd W2 rb s a' q') (hk : But (fun y => y = rb) w W2) (hf : But (fun y => y = w.heap.size) W2 Wf) (hrb : rb < w.heap.size) : TPost w rb s R (.returned u.val) Wf := by
  refine ⟨fun t2 a2 q2 h => ?_, fun p e h => by rw [hr] at h; cases h⟩
  rw [hr] at h
  cases h
  refine ⟨u, rfl, hal, (hin.but hf fun b hb2 _ e => by omega).mono fun b hb2 _ => by omega, Box.but hb hf (by omega), ⟨hf.os.trans hk.os, hf.tape.trans hk.tape, hf.output.trans hk.output, Nat.le_trans hk.size hf.size, fun b hb2 hx => (hf.block b (Nat.lt_of_lt_of_le hb2 hk.size) (by omega)).trans (hk.block b hb2 hx)⟩⟩
theorem tpost_err {w Wf : World} {rb : Nat} {s : ByteArray} {R : TR} {p e : Nat} {x : Ending} (hr : R = .error (p, e)) (hx : FailsAt p e x) (hk : But (fun y => y = rb) w Wf) : TPost w rb s R x Wf :=
  ⟨fun t a q h => (by rw [hr] at h; cases h), fun p2 e2 h => (by rw [hr] at h; cases h; exact ⟨hx, hk⟩)⟩
/-- the contract of reading a part that stands in d lists -/
def ItemT (B rb : Nat) (s : ByteArray) (d : Nat) (g : Nat → Nat → TR) : Prop :=
  ∀ (w : World) (a q : Nat), Rd w rb s a q → a ≤ s.size → q ≤ 12 → Tabs B w → Errs B w →
    Calls Tryz.prog 36 #[.pointer (some ⟨rb, 0, none⟩), .int .i64 (d : Int)] w fun x w' => TPost w rb s (g a q) x w'
/-- how long the list of a box is -/
def vlen (w : World) (b : Nat) : Nat := match w.cell? ⟨b, 3, none⟩ with
  | some (.slice _ n _) => n
  | _ => 0
theorem vlen_box {w : World} {b : Nat} {x0 x1 x2 : Value} {p : Option Addr} {n c : Nat} {e : TypeId} (h : Box w b #[x0, x1, x2, .slice p n c] e) : vlen w b = n := by
  have h3 := h.cell 3
  simp at h3
  unfold vlen
  rw [h3]
/-- one item more -/
theorem list_pushT {V rb sz : Nat} {w w5 w6 : World} {v v6 : Value} {j : Nat} {gf : Nat → VT} {u : VT} {X Z : Array Value} {tx : TypeId} (hO : OwnV (V + 1) w5 v j gf) (hBv : Box w5 V #[.int .i64 3, .int .i64 0, .string ⟨#[]⟩, v] 24) (hBd : Box w5 rb X tx) (hBr : Box w5 w.heap.size Z 24) (hdb : rb < w.heap.size) (hk : But (fun y => y = rb) w w5) (hwB : w.heap.size < V)
    (hin : VT.In w5 (fun b => sz ≤ b) u) (hsz : V + 1 ≤ sz) (hvs : ∀ b, v.ownBlock = some b → b < sz) (ho : w6.ownsRow (V + 1) 24 4 v6 (j + 1) (((List.range j).flatMap fun j => (gf j).cells) ++ u.cells))
    (hg : (w5.alloc (.cells #[.int .i64 u.kind, .int .i64 u.int, .string u.text, .slice u.p u.n u.c] 24)).grownBy w6 v.ownBlock) (hn : Near (w5.alloc (.cells #[.int .i64 u.kind, .int .i64 u.int, .string u.text, .slice u.p u.n u.c] 24)) v v6) :
    OwnV (V + 1) (w6.setCell ⟨V, 3, none⟩ v6) v6 (j + 1) (fun z => if z < j then gf z else u) ∧ Box (w6.setCell ⟨V, 3, none⟩ v6) V #[.int .i64 3, .int .i64 0, .string ⟨#[]⟩, v6] 24 ∧ Box (w6.setCell ⟨V, 3, none⟩ v6) rb X tx ∧ Box (w6.setCell ⟨V, 3, none⟩ v6) w.heap.size Z 24 ∧ But (fun y => y = rb) w (w6.setCell ⟨V, 3, none⟩ v6) := by
  have ha : Below w5.heap.size w5 (w5.alloc (.cells #[.int .i64 u.kind, .int .i64 u.int, .string u.text, .slice u.p u.n u.c] 24)) := (Below.refl _ _).alloc (Nat.le_refl _) _
  have hu : VT.In w5 (fun b => V + 1 ≤ b ∧ v.ownBlock ≠ some b) u := hin.mono fun b hb _ => ⟨by omega, fun e => by have := hvs b e; omega⟩
  have hO6 := (hO.below ha).push (hu.below ha) ho hg hn
  have key : ∀ k x e, k < V + 1 → Box w5 k x e → Box w6 k x e := fun k x e hk2 hx => (hx.below ha).kept (hg.block _ (by have := hx.lt; simp; omega) (fun e2 => by have := (hO.own.lt _ e2.symm).1; omega))
  have h1 : Box w6 V #[.int .i64 3, .int .i64 0, .string ⟨#[]⟩, v] 24 := key _ _ _ (by omega) hBv
  refine ⟨hO6.keep (by simp [World.setCell]) fun k hk2 _ => Below.heap_setCell _ _ _ _ (show k ≠ V by omega), h1.set 3 v6, (key _ _ _ (by omega) hBd).kept (Below.heap_setCell _ _ _ _ (show rb ≠ V by omega)), (key _ _ _ (by omega) hBr).kept (Below.heap_setCell _ _ _ _ (show w.heap.size ≠ V by omega)), ?_⟩
  exact ((hk.alloc _).grown hg fun k hk2 hl => absurd (hO.own.lt k hk2).1 (by omega)).setCell (p := ⟨V, 3, none⟩) (fun h => absurd h (by show ¬ V < w.heap.size; omega)) _

/-- behind an item -/
def Mid (w : World) (rb : Nat) (s : ByteArray) (L : List VT) (a q : Nat) (wx : World) : Prop :=
  ∃ (p : Option Addr) (c : Nat) (gf : Nat → VT), OwnV (w.heap.size + 1 + 1) wx (.slice p L.length c) L.length gf ∧ (∀ z, z < L.length → VT.Alike (L.getD z .nil) (gf z)) ∧ Box wx (w.heap.size + 1) #[.int .i64 3, .int .i64 0, .string ⟨#[]⟩, .slice p L.length c] 24 ∧ Rd wx rb s a q ∧ Box wx w.heap.size #[.int .i64 0, .int .i64 0, .string ⟨#[]⟩, .slice none 0 0] 24 ∧ But (fun y => y = rb) w wx

set_option maxHeartbeats 4000000 in
theorem list_any (B rb : Nat) (s : ByteArray) (d a q : Nat) (hd : d ≤ 3) (w : World) (g : Nat → Nat → TR) (hg : d < 3 → ItemT B rb s (d + 1) g) (hgr : d < 3 → ∀ a q, a ≤ s.size → q ≤ 12 → Read s (d + 1) (g a q) q)
    (hb0 : Rd w rb s a q) (ha : a < s.size) (hq : q ≤ 12) (hs : s.size ≤ 140737488355328) (hB : B ≤ rb) (hT : Tabs B w) (hEr : Errs B w) :
    Calls Tryz.prog 68 #[.pointer (some ⟨rb, 0, none⟩), .int .i64 (d : Int)] w fun x w' => TPost w rb s (listS s g d a q) x w' := by
  obtain ⟨i0, Kd⟩ := kindV
  have hrb := hb0.lt
  have hal : Below w.heap.size w (w.alloc (.cells #[.int .i64 0, .int .i64 0, .string ⟨#[]⟩, .slice none 0 0] 24)) := (Below.refl _ _).alloc (Nat.le_refl _) _
  have hR0 := Box.below hb0 hal
  have x1 := hR0.cell 1
  have f1 := hR0.frozen 1
  have xx1 := hb0.cell 1
  have ff1 := hb0.frozen 1
  simp at x1 xx1
  have HT := hid (And.intro hT hEr)
  obtain ⟨R, hR⟩ : ∃ R, R = listS s g d a q := ⟨_, rfl⟩
  rw [← hR]
  by_cases hd3 : 3 ≤ d
  · have hd3' : (3 : Int) ≤ (d : Int) := by omega
    have HX : Hid (R = .error (a, 23)) := by unfold Hid; rw [hR]; unfold listS; rw [if_pos hd3]
    have HG := hid (fun W => giveUp_any ((a : Nat) : Int) 23 W)
    have HK := hid ((But.one w rb).trans (But.ofBelow hal))
    clear hR hb0 hal hT hEr hR0 hg hgr
    go_enter Tryz.func68, Tryz.ntmps68
    go_wp2_with fail
    go_step3
    go_wp2_with fail
    refine (HG.out _).mono ?_
    rintro e w5 ⟨rfl, hw5⟩
    subst w5
    exact ⟨rfl, tpost_err HX.out rfl HK.out⟩
  have hd3' : ¬ (3 : Int) ≤ (d : Int) := by omega
  have HItem := hid (hg (by omega))
  have hgr := hgr (by omega)
  have hRl : R = if pk s (skS s (a + 1)) = 93 then .ok (mkL [], skS s (a + 1) + 1, q) else lstS s g 6 (skS s (a + 1)) q [] := by rw [hR]; unfold listS; rw [if_neg hd3]
  have hA0 := skS_le (s := s) (a := a + 1) ha
  have hw1 : IntKind.i64.wrap ((a : Int) + 1) = (a : Int) + 1 := by rw [IntKind.wrap_i64]; omega
  have hwz : (w.setCell ⟨rb, 1, none⟩ (.int .i64 ((a : Int) + 1))).heap.size = w.heap.size := by simp [World.setCell]
  have ha1 := (Below.refl _ (w.setCell ⟨rb, 1, none⟩ (.int .i64 ((a : Int) + 1)))).alloc (Nat.le_refl _) (.cells #[.int .i64 0, .int .i64 0, .string ⟨#[]⟩, .slice none 0 0] 24)
  have hZ1 := Box.new (w.setCell ⟨rb, 1, none⟩ (.int .i64 ((a : Int) + 1))) #[.int .i64 0, .int .i64 0, .string ⟨#[]⟩, .slice none 0 0] 24
  have hR1 := Box.below (Rd.to hb0 ((a : Int) + 1) (a + 1) (by omega)) ha1
  have hK1 := ((But.one w rb).setAt 1 (.int .i64 ((a : Int) + 1))).alloc (.cells #[.int .i64 0, .int .i64 0, .string ⟨#[]⟩, .slice none 0 0] 24)
  have hV2 := Box.new ((w.setCell ⟨rb, 1, none⟩ (.int .i64 ((a : Int) + 1))).alloc (.cells #[.int .i64 0, .int .i64 0, .string ⟨#[]⟩, .slice none 0 0] 24)) #[.int .i64 3, .int .i64 0, .string ⟨#[]⟩, .slice none 0 0] 24
  have hwz2 : ((w.setCell ⟨rb, 1, none⟩ (.int .i64 ((a : Int) + 1))).alloc (.cells #[.int .i64 0, .int .i64 0, .string ⟨#[]⟩, .slice none 0 0] 24)).heap.size = w.heap.size + 1 := by simp [World.setCell]
  have ha2 := (Below.refl _ ((w.setCell ⟨rb, 1, none⟩ (.int .i64 ((a : Int) + 1))).alloc (.cells #[.int .i64 0, .int .i64 0, .string ⟨#[]⟩, .slice none 0 0] 24))).alloc (Nat.le_refl _) (.cells #[.int .i64 3, .int .i64 0, .string ⟨#[]⟩, .slice none 0 0] 24)
  rw [hwz] at hZ1
  rw [hwz2] at hV2
  have hZ2 := hZ1.below ha2
  have hR2 := Box.below hR1 ha2
  have hK2 := hK1.alloc (.cells #[.int .i64 3, .int .i64 0, .string ⟨#[]⟩, .slice none 0 0] 24)
  have HSk := hid (skipBlanks_any rb s (a + 1) q _ hR2 ha hs)
  have H2 := hid (And.intro hZ2 (And.intro hV2 hK2))
  have HRl := hid hRl
  have HGr := hid hgr
  clear hR hb0 hal hT hEr hR0 hg hgr hRl hwz ha1 hZ1 hR1 hK1 hV2 hwz2 ha2 hZ2 hR2 hK2
  go_enter Tryz.func68, Tryz.ntmps68
  go_wp2_with fail
  go_step3
  go_wp2_with fail
  refine HSk.out.mono ?_
  rintro e w1 ⟨rfl, hrd1, hk1⟩
  have hZ1 := H2.out.1.but hk1 (show w.heap.size ≠ rb by omega)
  have hV1 := H2.out.2.1.but hk1 (show w.heap.size + 1 ≠ rb by omega)
  have hK1 := H2.out.2.2.trans hk1
  have HPk := hid (peek_any rb s (skS s (a + 1)) q w1 hrd1 hA0)
  have HA := hid (And.intro hrd1 (And.intro hZ1 (And.intro hV1 hK1)))
  obtain ⟨A0, hA0e⟩ : ∃ A0, skS s (a + 1) = A0 := ⟨_, rfl⟩
  rw [hA0e] at HPk HA HRl hA0
  obtain ⟨c0, hc0⟩ : ∃ c0, pk s A0 = c0 := ⟨_, rfl⟩
  rw [hc0] at HPk HRl
  have hp0 : c0 ≠ 0 → A0 < s.size := fun h => pk_pos (by rw [hc0]; exact h)
  clear hrd1 hk1 hZ1 hV1 hK1 H2 HSk hA0e hc0 x1 f1 xx1 ff1
  go_wp2_with fail
  refine HPk.out.mono ?_
  rintro e w2 ⟨rfl, hb2⟩
  have hs2 := hb2.size
  have HA2 := hid (And.intro (HA.out.1.below hb2) (And.intro (HA.out.2.1.below hb2) (And.intro (HA.out.2.2.1.below hb2) (HA.out.2.2.2.trans (But.ofBelow hb2)))))
  clear HA HPk hb2
  have hnv1 : w.heap.size + 1 ≠ rb := by omega
  have hnv2 : rb ≠ w.heap.size + 1 := by omega
  have hnv3 : w.heap.size ≠ rb := by omega
  have hnv4 : rb ≠ w.heap.size := by omega
  have hnv5 : w.heap.size ≠ w.heap.size + 1 := by omega
  have hnv6 : w.heap.size + 1 ≠ w.heap.size := by omega
  by_cases h93 : c0 = 93
  · subst h93
    have hlt := hp0 (by decide)
    have hRe : R = .ok (mkL [], A0 + 1, q) := by have h := HRl.out; rw [if_pos rfl] at h; exact h
    obtain ⟨hrd2, hZ2, hV2, hK2⟩ := HA2.out
    have hw2 : IntKind.i64.wrap ((A0 : Int) + 1) = (A0 : Int) + 1 := by rw [IntKind.wrap_i64]; omega
    have hRs := Rd.to hrd2 ((A0 : Int) + 1) (A0 + 1) (by omega)
    have hKs := hK2.setAt 1 (.int .i64 ((A0 : Int) + 1))
    have hZs := Box.but hZ2 ((But.one _ rb).setAt 1 (.int .i64 ((A0 : Int) + 1))) hnv3
    have y1 := hrd2.cell 1
    have g1 := hrd2.frozen 1
    have v0 := hV2.cell 0
    have v1 := hV2.cell 1
    have v2 := hV2.cell 2
    have v3 := hV2.cell 3
    have s0 := hZ2.cell 0
    have s1 := hZ2.cell 1
    have s2 := hZ2.cell 2
    have s3 := hZ2.cell 3
    have sf0 := hZ2.frozen 0
    have sf1 := hZ2.frozen 1
    have sf2 := hZ2.frozen 2
    have sf3 := hZ2.frozen 3
    simp at y1 v0 v1 v2 v3 s0 s1 s2 s3
    have HRes := hid (setV_box hZs (.int .i64 3) (.int .i64 0) (.string ⟨#[]⟩) (.slice none 0 0))
    have hkf : But (fun y => y = w.heap.size) (w2.setCell ⟨rb, 1, none⟩ (.int .i64 ((A0 : Int) + 1))) (((((w2.setCell ⟨rb, 1, none⟩ (.int .i64 ((A0 : Int) + 1))).setCell ⟨w.heap.size, 0, none⟩ (.int .i64 3)).setCell ⟨w.heap.size, 1, none⟩ (.int .i64 0)).setCell ⟨w.heap.size, 2, none⟩ (.string ⟨#[]⟩)).setCell ⟨w.heap.size, 3, none⟩ (.slice none 0 0)) := ((((But.one _ w.heap.size).setAt 0 _).setAt 1 _).setAt 2 _).setAt 3 _
    have HD := hid (tpost_ok (u := .mk 3 0 ⟨#[]⟩ 0 none 0 (fun _ => .nil)) hRe ⟨rfl, rfl, rfl, rfl, fun z hz => absurd hz (Nat.not_lt_zero _)⟩ (small_in _ _ 3 0 ⟨#[]⟩ (by omega) (by omega) (by omega) (by omega) (by decide)) hRs hKs hkf hrb)
    clear hrd2 hZ2 hV2 hK2 HA2 hRs hKs hZs hkf hRe HRl HItem HGr
    go_wp2
    have r0 := HRes.out.cell 0
    have r1 := HRes.out.cell 1
    have r2 := HRes.out.cell 2
    have r3 := HRes.out.cell 3
    simp only [List.getElem?_toArray, List.getElem?_cons_zero, List.getElem?_cons_succ] at r0 r1 r2 r3
    refine bodyPost_ret (v := .agg #[.int .i64 3, .int .i64 0, .string ⟨#[]⟩, .slice none 0 0]) (by simp [results, Tryz.results68, go_sem, r0, r1, r2, r3]) rfl ?_
    exact HD.out
  have e93 : ((c0 : Int) == 93) = false := by simp; omega
  have hRe : lstS s g 6 A0 q [] = R := by have h := HRl.out; rw [if_neg h93] at h; exact h.symm
  have HRe := hid hRe
  clear hRe HRl h93 hp0
  go_wp2_with fail
  go_step3
  go_wp2_with fail
  go_loopw [] (fun wr => ∃ (A Q m : Nat) (l : List VT) (v : Value) (gf : Nat → VT), A ≤ s.size ∧ Q ≤ 12 ∧ m + 1 + l.length = 6 ∧ lstS s g (m + 1) A Q l = R ∧ OwnV (w.heap.size + 1 + 1) wr v l.length gf ∧ (∀ z, z < l.length → VT.Alike (l.getD z .nil) (gf z)) ∧ Box wr (w.heap.size + 1) #[.int .i64 3, .int .i64 0, .string ⟨#[]⟩, v] 24 ∧ Rd wr rb s A Q ∧ Box wr w.heap.size #[.int .i64 0, .int .i64 0, .string ⟨#[]⟩, .slice none 0 0] 24 ∧ But (fun y => y = rb) w wr) (fun wr => 6 - vlen wr (w.heap.size + 1))
  case atStart => exact ⟨A0, q, 5, [], _, fun _ => .nil, hA0, hq, rfl, HRe.out, OwnV.nil _ _ _, fun z hz => absurd hz (Nat.not_lt_zero _), HA2.out.2.2.1, HA2.out.1, HA2.out.2.1, HA2.out.2.2.2⟩
  case round =>
    obtain ⟨A, Q, m, l, v, gf, hA, hQ, hm, hlst, hO, hall, hBv, hBd, hBr, hkr⟩ := hrel
    clear HA2 HRe e93
    have hbel : Below B w wr := hkr.below (by omega) (fun j hj => by omega)
    have hwd : ((d + 1 : Nat) : Int) = IntKind.i64.wrap ((d : Int) + 1) := by rw [IntKind.wrap_i64]; omega
    have hC0 := HItem.out wr.drew A Q (Box.below hBd (Below.refl _ _).drew) hA hQ (HT.out.1.on hbel.drew) (HT.out.2.on hbel.drew)
    rw [hwd] at hC0
    have HC := hid hC0
    clear hC0 hwd
    have y3 := hBv.cell 3
    simp at y3
    have hvl := hBv.lt
    have hml : Hid (vlen wr (w.heap.size + 1) = l.length) := by
      obtain ⟨p3, c3, hv, _⟩ := hO.in_
      subst hv
      exact vlen_box hBv
    unfold lstS at hlst
    have hRd := HGr.out A Q hA hQ
    cases hga : g A Q with
    | error pe =>
      obtain ⟨pp, ee⟩ := pe
      have HX : Hid (R = .error (pp, ee)) := by unfold Hid; rw [hga] at hlst; exact hlst.symm
      rw [hga] at HC
      have HKr := hid hkr
      clear hlst hO hall hBv hBd hBr hkr hbel HItem HGr hRd hga
      go_wp2_with fail
      go_region_dies
      all_goals (go_at_call 36; (refine HC.out.mono ?_; intro x5 w5 hP5; obtain ⟨hx5, hk5⟩ := hP5.2 pp ee rfl; unfold FailsAt at hx5; subst hx5))
      all_goals exact ⟨rfl, tpost_err HX.out rfl (HKr.out.drew.trans hk5)⟩
    | ok tt =>
      obtain ⟨t, a2, q2⟩ := tt
      obtain ⟨_, hbd, hq2⟩ := hRd.ok t a2 q2 hga
      rw [hga] at hlst HC
      simp only at hlst
      have HL := hid hlst
      have HAll := hid (And.intro hO (And.intro hall (And.intro hBv (And.intro hBr hkr))))
      have hwl := hkr.size
      have hbr := hBr.lt
      clear hlst hO hall hBv hBd hBr hkr hbel hRd hga
      have hL7 : (l ++ [t]).length = l.length + 1 := by simp
      obtain ⟨L7, hL7e⟩ : ∃ L7, L7 = l ++ [t] := ⟨_, rfl⟩
      rw [← hL7e] at HL hL7
      go_wp2_with fail
      go_cut [5] from 34 to 73 (fun s5 wx => s5 = .pointer (some ⟨w.heap.size + 1, 0, none⟩) ∧ Mid w rb s L7 a2 q2 wx)
      case first =>
       go_region_law (first
         | (refine step_call rfl 36 #[.tmp 36, .tmp 38] _ rfl Tryz.f36 Tryz.func36 (by kernel_rfl) rfl #[.pointer (some ⟨rb, 0, none⟩), .int .i64 (IntKind.i64.wrap ((d : Int) + 1))] rfl _ HC.out ?_
            intro x5 w5 hP5
            obtain ⟨u, hx5, hau, hiu, hbd5, hk5⟩ := hP5.1 t a2 q2 rfl
            refine ⟨_, hx5, ?_⟩
            have hkr5 : But (fun y => y = rb) wr w5 := ((But.refl _ wr).drew).trans hk5
            have hO5 : OwnV (w.heap.size + 1 + 1) w5 v l.length gf := HAll.out.1.keep hkr5.size fun k hk2 hl => hkr5.block k hl (by omega)
            have hBv5 := HAll.out.2.2.1.but hkr5 hnv1
            have hBr5 := HAll.out.2.2.2.1.but hkr5 hnv3
            have hRow := hO5.own
            have y5 := hBv5.cell 3
            have y5l := hBv5.lt
            have hs5 := hkr5.size
            simp at y5
            simp only [VT.val])
         | (refine step_app rfl (.tmp 35) (.tmp 40) 22 24 i0 _ 4 56 Kd rfl (w.heap.size + 1 + 1) v l.length _ rfl (hRow.alloc _) ⟨w5.heap.size, 0, none⟩ 1 1 [.int .i64 u.kind, .int .i64 u.int, .string u.text, .slice u.p u.n u.c] rfl rfl (news4 _ _ _ _ _ _) (oneCell_cells u) (by omega) (by omega) (by simp; omega) ?_
            intro v6 w6 ho6 hg6 hn6
            obtain ⟨p6, c6, rfl⟩ := ownsRow_slice ho6
            have hBv6 : Box w6 (w.heap.size + 1) #[.int .i64 3, .int .i64 0, .string ⟨#[]⟩, v] 24 := (hBv5.below ((Below.refl _ _).alloc (Nat.le_refl _) _)).kept (hg6.block _ (by simp; omega) (fun e2 => by have := (hO5.own.lt _ e2.symm).1; omega))
            have z63 := hBv6.cell 3
            have z6f := hBv6.frozen 3
            have z6l := hBv6.lt
            simp at z63))
       all_goals
         have HP := list_pushT (sz := wr.heap.size) (v6 := .slice p6 (l.length + 1) c6) (w := w) hO5 hBv5 hbd5 hBr5 hrb (HAll.out.2.2.2.2.trans hkr5) (by omega) hiu (by omega) (fun b e2 => (HAll.out.1.own.lt b e2).2) ho6 hg6 hn6
         have HA6 : ∀ z, z < (l ++ [t]).length → VT.Alike ((l ++ [t]).getD z .nil) (if z < l.length then gf z else u) := by
          intro z hz
          rw [List.length_append, List.length_singleton] at hz
          by_cases hzj : z < l.length
          · rw [if_pos hzj]
            have h7 := HAll.out.2.1 z hzj
            rw [List.getD_eq_getElem?_getD] at h7 ⊢
            rw [List.getElem?_append_left hzj]
            exact h7
          · rw [if_neg hzj]
            obtain rfl : z = l.length := by omega
            rw [List.getD_eq_getElem?_getD, List.getElem?_append_right (Nat.le_refl _)]
            simpa using hau
         have HMid : Hid (Mid w rb s L7 a2 q2 (w6.setCell ⟨w.heap.size + 1, 3, none⟩ (.slice p6 (l.length + 1) c6))) := by
          refine ⟨p6, c6, _, ?_, (by rw [hL7e]; exact HA6), ?_, HP.2.2.1, HP.2.2.2.1, HP.2.2.2.2⟩
          · rw [hL7]; exact HP.1
          · rw [hL7]; exact HP.2.1
         clear HAll hO5 hBv5 hbd5 hBr5 hiu hg6 hn6 hkr5 hk5 hP5 hRow hau ho6 HA6 HP
         go_wp2_with fail
         go_meet
         exact ⟨rfl, HMid.out⟩
      case rest =>
        obtain ⟨h5, p6, c6, gf7, hO7, hA7, hV7, hR7, hZ7, hK7⟩ := hcut
        subst h5
        have hL7a : L7.length ≤ l.length + 1 := by omega
        have hL7b : l.length + 1 ≤ L7.length := by omega
        have HA7 := hid hA7
        have HP := hid (And.intro hO7 (And.intro hV7 (And.intro hR7 (And.intro hZ7 hK7))))
        clear hO7 hA7 hV7 hR7 hZ7 hK7 hL7 hL7e HAll y3
        generalize hw7 : wc = w7 at *
        clear hw7
        have HSk := hid (skipBlanks_any rb s a2 q2 w7 HP.out.2.2.1 hbd hs)
        go_wp2_with fail
        refine HSk.out.mono ?_
        rintro e w8 ⟨rfl, hrd8, hk8⟩
        have hsk := skS_le (s := s) hbd
        have HPk := hid (peek_any rb s (skS s a2) q2 w8 hrd8 hsk)
        have hs8 := hk8.size
        have hO8 : OwnV (w.heap.size + 1 + 1) w8 (.slice p6 L7.length c6) L7.length gf7 := HP.out.1.keep hk8.size fun k hk2 hl => hk8.block k hl (by omega)
        have H8 := hid (And.intro hrd8 (And.intro hO8 (And.intro (HP.out.2.1.but hk8 hnv1) (And.intro (HP.out.2.2.2.1.but hk8 hnv3) (HP.out.2.2.2.2.trans hk8)))))
        have HL8 : Hid (sepS s (fun a3 => lstS s g m a3 q2 L7) L7 a2 q2 = R) := HL.out
        unfold sepS at HL8
        obtain ⟨A2, hA2⟩ : ∃ A2, skS s a2 = A2 := ⟨_, rfl⟩
        rw [hA2] at HPk H8 HL8 hsk
        obtain ⟨c2, hc2⟩ : ∃ c2, pk s A2 = c2 := ⟨_, rfl⟩
        rw [hc2] at HPk HL8
        have hp2 : c2 ≠ 0 → A2 < s.size := fun h => pk_pos (by rw [hc2]; exact h)
        clear hrd8 hk8 hO8 HSk HP hA2 hc2 HL
        go_wp2_with fail
        refine HPk.out.mono ?_
        rintro e w9 ⟨rfl, hb9⟩
        have hs9 := hb9.size
        have H9 := hid (And.intro (H8.out.1.below hb9) (And.intro (H8.out.2.1.below hb9) (And.intro (H8.out.2.2.1.below hb9) (And.intro (H8.out.2.2.2.1.below hb9) (H8.out.2.2.2.2.trans (But.ofBelow hb9))))))
        clear H8 HPk hb9
        obtain ⟨hrd9, hO9, hV9, hZ9, hK9⟩ := H9.out
        have y1 := hrd9.cell 1
        have g1 := hrd9.frozen 1
        have v0 := hV9.cell 0
        have v1 := hV9.cell 1
        have v2 := hV9.cell 2
        have v3 := hV9.cell 3
        simp at y1 v0 v1 v2 v3
        have hw2 : IntKind.i64.wrap ((A2 : Int) + 1) = (A2 : Int) + 1 := by rw [IntKind.wrap_i64]; omega
        have hRs := Rd.to hrd9 ((A2 : Int) + 1) (A2 + 1) (by omega)
        have hKs := hK9.setAt 1 (.int .i64 ((A2 : Int) + 1))
        have hZs := Box.but hZ9 ((But.one _ rb).setAt 1 (.int .i64 ((A2 : Int) + 1))) hnv3
        have hVs := Box.but hV9 ((But.one _ rb).setAt 1 (.int .i64 ((A2 : Int) + 1))) hnv1
        have hOs : OwnV (w.heap.size + 1 + 1) (w9.setCell ⟨rb, 1, none⟩ (.int .i64 ((A2 : Int) + 1))) (.slice p6 L7.length c6) L7.length gf7 := hO9.keep (by simp [World.setCell]) fun k hk2 _ => Below.heap_setCell _ _ _ _ (show k ≠ rb by omega)
        by_cases h93 : c2 = 93
        · subst h93
          have hlt := hp2 (by decide)
          have hRe : R = .ok (mkL L7, A2 + 1, q2) := by have h := HL8.out; rw [if_pos rfl] at h; exact h.symm
          obtain ⟨p3, c3, hv, g1', g2', g3', g4', g5'⟩ := hOs.in_
          simp only [Value.slice.injEq] at hv
          obtain ⟨rfl, _, rfl⟩ := hv
          have s0 := hZ9.cell 0
          have s1 := hZ9.cell 1
          have s2 := hZ9.cell 2
          have s3 := hZ9.cell 3
          have sf0 := hZ9.frozen 0
          have sf1 := hZ9.frozen 1
          have sf2 := hZ9.frozen 2
          have sf3 := hZ9.frozen 3
          simp at s0 s1 s2 s3
          have hin : VT.In (w9.setCell ⟨rb, 1, none⟩ (.int .i64 ((A2 : Int) + 1))) (fun b => w.heap.size + 1 ≤ b) (.mk 3 0 ⟨#[]⟩ L7.length p6 c6 gf7) := VT.In.mono (S := fun b => w.heap.size + 1 + 1 ≤ b) ⟨⟨(show (_ : Int) ≤ 3 by omega), (show (3 : Int) ≤ _ by omega), (show (_ : Int) ≤ 0 by omega), (show (0 : Int) ≤ _ by omega), (show (⟨#[]⟩ : ByteArray).size ≤ _ by decide), g1', (show L7.length ≤ _ by omega), g2', g3'⟩, g4', g5'⟩ fun b hb _ => by omega
          have hal2 : VT.Alike (mkL L7) (.mk 3 0 ⟨#[]⟩ L7.length p6 c6 gf7) := ⟨rfl, rfl, rfl, rfl, fun z hz => HA7.out z hz⟩
          have HRes := hid (setV_box hZs (.int .i64 3) (.int .i64 0) (.string ⟨#[]⟩) (.slice p6 L7.length c6))
          have hkf : But (fun y => y = w.heap.size) (w9.setCell ⟨rb, 1, none⟩ (.int .i64 ((A2 : Int) + 1))) (((((w9.setCell ⟨rb, 1, none⟩ (.int .i64 ((A2 : Int) + 1))).setCell ⟨w.heap.size, 0, none⟩ (.int .i64 3)).setCell ⟨w.heap.size, 1, none⟩ (.int .i64 0)).setCell ⟨w.heap.size, 2, none⟩ (.string ⟨#[]⟩)).setCell ⟨w.heap.size, 3, none⟩ (.slice p6 L7.length c6)) := ((((But.one _ w.heap.size).setAt 0 _).setAt 1 _).setAt 2 _).setAt 3 _
          have HD := hid (tpost_ok hRe hal2 hin hRs hKs hkf hrb)
          clear hrd9 hO9 hV9 hZ9 hK9 H9 hRs hKs hZs hVs hOs hin hal2 hkf hRe HL8 g4' g5' g1' g2' g3' HA7 HItem HGr
          go_wp2
          have r0 := HRes.out.cell 0
          have r1 := HRes.out.cell 1
          have r2 := HRes.out.cell 2
          have r3 := HRes.out.cell 3
          simp only [List.getElem?_toArray, List.getElem?_cons_zero, List.getElem?_cons_succ] at r0 r1 r2 r3
          refine bodyPost_ret (v := .agg #[.int .i64 3, .int .i64 0, .string ⟨#[]⟩, .slice p6 L7.length c6]) (by simp [results, Tryz.results68, go_sem, r0, r1, r2, r3]) rfl ?_
          exact HD.out
        have e93 : ((c2 : Int) == 93) = false := by simp; omega
        by_cases h44 : c2 = 44
        · subst h44
          have hlt := hp2 (by decide)
          by_cases h6 : L7.length = 6
          · have hRe : R = .error (A2, 22) := by have h := HL8.out; rw [if_neg (by decide), if_pos rfl, if_pos h6] at h; exact h.symm
            have h6' : ((L7.length : Int) == 6) = true := by rw [h6]; rfl
            have HX := hid hRe
            have HG := hid (fun W => giveUp_any ((A2 : Nat) : Int) 22 W)
            have HK9 := hid hK9
            clear hrd9 hO9 hV9 hZ9 hK9 H9 hRs hKs hZs hVs hOs hRe HL8 h6 HA7 HItem HGr
            go_wp2_with fail
            refine (HG.out _).mono ?_
            rintro e w5 ⟨rfl, hw5⟩
            subst w5
            exact ⟨rfl, tpost_err HX.out rfl HK9.out⟩
          · have h6' : ((L7.length : Int) == 6) = false := by simp; omega
            obtain ⟨m, rfl⟩ : ∃ m', m = m' + 1 := ⟨m - 1, by omega⟩
            have HLn : Hid (lstS s g (m + 1) (skS s (A2 + 1)) q2 L7 = R) := by unfold Hid; have h := HL8.out; rw [if_neg (by decide), if_pos rfl, if_neg h6] at h; exact h
            have HSk := hid (skipBlanks_any rb s (A2 + 1) q2 _ hRs hlt hs)
            have hsk3 := skS_le (s := s) (a := A2 + 1) hlt
            have H10 := hid (And.intro hOs (And.intro hVs (And.intro hZs hKs)))
            clear hrd9 hO9 hV9 hZ9 hK9 H9 hRs hKs hZs hVs hOs HL8
            go_wp2_with fail
            refine HSk.out.mono ?_
            rintro e w10 ⟨rfl, hrd10, hk10⟩
            have hO10 : OwnV (w.heap.size + 1 + 1) w10 (.slice p6 L7.length c6) L7.length gf7 := H10.out.1.keep hk10.size fun k hk2 hl => hk10.block k hl (by omega)
            have hV10 := H10.out.2.1.but hk10 hnv1
            have HR := hid (show ∃ (A Q m : Nat) (l : List VT) (v : Value) (gf : Nat → VT), A ≤ s.size ∧ Q ≤ 12 ∧ m + 1 + l.length = 6 ∧ lstS s g (m + 1) A Q l = R ∧ OwnV (w.heap.size + 1 + 1) w10 v l.length gf ∧ (∀ z, z < l.length → VT.Alike (l.getD z .nil) (gf z)) ∧ Box w10 (w.heap.size + 1) #[.int .i64 3, .int .i64 0, .string ⟨#[]⟩, v] 24 ∧ Rd w10 rb s A Q ∧ Box w10 w.heap.size #[.int .i64 0, .int .i64 0, .string ⟨#[]⟩, .slice none 0 0] 24 ∧ But (fun y => y = rb) w w10 from ⟨skS s (A2 + 1), q2, m, L7, _, gf7, hsk3, hq2, by omega, HLn.out, hO10, HA7.out, hV10, hrd10, H10.out.2.2.1.but hk10 hnv3, H10.out.2.2.2.trans hk10⟩)
            have HM : Hid (6 - vlen w10 (w.heap.size + 1) < 6 - vlen wr (w.heap.size + 1)) := by unfold Hid; rw [vlen_box hV10, hml.out]; omega
            clear hrd10 hk10 hO10 hV10 H10 HSk HLn
            go_wp2
            go_roundw
            case rel => exact HR.out
            case measure => exact HM.out
        · have e44 : ((c2 : Int) == 44) = false := by simp; omega
          have hRe : R = .error (A2, 28) := by have h := HL8.out; rw [if_neg h93, if_neg h44] at h; exact h.symm
          have HX := hid hRe
          have HG := hid (fun W => giveUp_any ((A2 : Nat) : Int) 28 W)
          have HK9 := hid hK9
          clear hrd9 hO9 hV9 hZ9 hK9 H9 hRs hKs hZs hVs hOs hRe HL8 HA7 HItem HGr
          go_wp2_with fail
          refine (HG.out _).mono ?_
          rintro e w5 ⟨rfl, hw5⟩
          subst w5
          exact ⟨rfl, tpost_err HX.out rfl HK9.out⟩
end Go.Proofs.YtdmhemofhmfkoabGreatDoor
