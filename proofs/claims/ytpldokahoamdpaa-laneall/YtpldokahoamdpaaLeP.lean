import Derived.Test.YtpldokahoamdpaaPack31
import Derived.Test.YtpldokahoamdpaaPack37
import Derived.Test.YtpldokahoamdpaaLeO
namespace Go.Proofs.Ytpldokahoamdpaa
open Go.RowKit Go.Conc
set_option maxRecDepth 8000
/-- a room that holds nothing -/
def rs0 (rb : Nat) : RS := ⟨rb, fun _ => .slice none 0 0, fun _ => []⟩
theorem Rm.new (base : Nat) (w : World) (hb : base ≤ w.heap.size) : Rm base (w.alloc (.cells #[.slice none 0 0, .slice none 0 0, .slice none 0 0, .slice none 0 0, .slice none 0 0, .slice none 0 0, .slice none 0 0, .slice none 0 0, .slice none 0 0, .slice none 0 0] 97)) (rs0 w.heap.size) := by
  refine ⟨Box.new _ _ _, fun i _ => ⟨by simp [rs0], .inl ⟨rfl, rfl⟩⟩, hb, fun i _ x hx => by simp [rs0] at hx, fun i j _ _ _ b h => by simp [rs0, Value.ownBlock] at h, fun i _ h => by simp [rs0, Value.ownBlock] at h, fun i _ => by simp [rs0]⟩
theorem rs0_hot {rb k : Nat} (h : (rs0 rb).hot k) : k = rb := by
  rcases h with h | ⟨i, _, h⟩
  · exact h
  · simp [rs0, Value.ownBlock] at h
theorem rs0_foot {rb k : Nat} (h : (rs0 rb).foot k) : k = rb := by
  rcases h with h | ⟨i, _, x, hx, _⟩
  · exact rs0_hot h
  · simp [rs0] at hx
set_option maxRecDepth 60000 in
set_option maxHeartbeats 8000000 in
theorem putOK : PutOK := by
  intro w Z b d s h hZ o S hk hin hS hsum hlen
  have hnn : o.its.n ≤ 10000 := Nat.le_trans (o.its.sumI_le o.its.n) hsum
  have hsz : ∀ j, j < o.its.n → (o.its.item j).r.size ≤ 10000 := fun j hj => by have := o.its.sumI_each hj; unfold RT.size; omega
  obtain ⟨W, hW⟩ : ∃ W, W = w.alloc (.cells #[.int .i64 o.kind, .bool o.sec, .slice o.its.p o.its.n o.its.c, .slice o.rcs.p o.rcs.n o.rcs.c] 60) := ⟨_, rfl⟩
  have hB : Below w.heap.size w W := by rw [hW]; exact (Below.refl _ _).alloc (Nat.le_refl _) _
  have hXb : Box W w.heap.size #[.int .i64 o.kind, .bool o.sec, .slice o.its.p o.its.n o.its.c, .slice o.rcs.p o.rcs.n o.rcs.c] 60 := by rw [hW]; exact Box.new _ _ _
  have hIn0 : LT.In elItem w (fun k => S k ∧ k < w.heap.size) o.its := LT.In.mono hin fun k hk hl => ⟨hk, hl⟩
  have HC := hid (copyItems_any o.its W _ (hIn0.below hB) hnn hsz)
  have HI0 := hid hIn0
  have HB := hid hB
  have HW := hid hW
  have HX := hid hXb
  have z0 : W.cell? ⟨w.heap.size, 0, none⟩ = some (.int .i64 1) := by rw [hXb.cell, ← hk]; rfl
  have z2 : W.cell? ⟨w.heap.size, 2, none⟩ = some (.slice o.its.p o.its.n o.its.c) := by rw [hXb.cell]; rfl
  have zl := hXb.lt
  have HCl : Hid (∀ k, s.C b d k → k < w.heap.size) := fun k hk => Pq.c_lt h hk
  have HS := hid hS
  have HZ := hid hZ
  have Hh := hid h
  have HSz := hid hsz
  have HSu := hid hsum
  have HLn := hid hlen
  clear h hZ hB hXb hW hk hin hS hsz hIn0 hsum hlen
  go_enter Try.func25, Try.ntmps25
  go_upto_region 1 with fail
  rw [← HW.out]
  go_wp2_with fail
  refine HC.out.mono ?_
  rintro e w0 ⟨u, rfl, ha, hu, hB0⟩
  obtain ⟨W2, hW2⟩ : ∃ V, V = w0.alloc (.cells #[.slice none 0 0, .slice none 0 0, .slice none 0 0, .slice none 0 0, .slice none 0 0, .slice none 0 0, .slice none 0 0, .slice none 0 0, .slice none 0 0, .slice none 0 0] 97) := ⟨_, rfl⟩
  have hB1 : Below w0.heap.size w0 W2 := by rw [hW2]; exact (Below.refl _ _).alloc (Nat.le_refl _) _
  have hsA := HB.out.size
  have hsB := hB0.size
  have hsC := hB1.size
  have hwW : w.heap.size < W.heap.size := HX.out.lt
  have hR0 : Rm w.heap.size W2 (rs0 w0.heap.size) := by rw [hW2]; exact Rm.new _ _ (by omega)
  have hBW : Below w.heap.size w W2 := (HB.out.trans (hB0.mono hsA)).trans (hB1.mono (by omega))
  have hX2 := (HX.out.below hB0).below hB1
  have y2 : W2.cell? ⟨w.heap.size, 2, none⟩ = some (.slice o.its.p o.its.n o.its.c) := by rw [hX2.cell]; rfl
  have yl := hX2.lt
  have HIt := hid (items_any o.its w.heap.size W2 (rs0 w0.heap.size) (fun k => S k ∧ k < w.heap.size) hR0 (by omega) (HI0.out.below hBW) (fun k hk hh => by have := rs0_hot hh; omega) HSu.out (fun i _ => by simp [rs0]))
  have HU := hid (And.intro ha ((LT.In.mono (S' := fun k => W.heap.size ≤ k ∧ k < w0.heap.size) hu fun k hk hl => ⟨hk, hl⟩).below hB1))
  have HBW := hid hBW
  have HX2 := hid hX2
  have HW2 := hid hW2
  have HSiz : Hid (w.heap.size < W.heap.size ∧ W.heap.size ≤ w0.heap.size ∧ w0.heap.size < W2.heap.size) := ⟨hwW, hsB, by rw [hW2]; simp⟩
  clear ha hu hB0 hB1 hR0 hBW hX2 hW2 hsA hsB hsC hwW z0 z2 zl HC
  go_upto_region 5 with fail
  rw [← HW2.out]
  go_wp2_with fail
  refine HIt.out.mono ?_
  rintro e w3 ⟨v, R3, rfl, hT⟩
  have hsz3 := hT.but.size
  obtain ⟨hq1, hq2, hq3⟩ := HSiz.out
  have hB3 : Below w.heap.size w w3 := HBW.out.trans (hT.but.below (by omega) fun k hk e => by have := rs0_hot e; omega)
  obtain ⟨g, cur, hvp, hgB, hgh, hgb, hgs, hgi⟩ := hT.blk
  have hZ3 : ∀ k, (Z k ∨ (w.heap.size ≤ k ∧ k < w3.heap.size)) → k < w3.heap.size := fun k hk => by
    rcases hk with e | e
    · have := HZ.out k e; omega
    · exact e.2
  have hI3 : s.I w3 (fun k => Z k ∨ (w.heap.size ≤ k ∧ k < w3.heap.size)) b d := Pq.below (Pq.z Hh.out fun k hk e => e.elim id fun e => by omega) hB3
  have hu3 : LT.In elItem w3 (fun k => W.heap.size ≤ k ∧ k < w0.heap.size) u := HU.out.2.but hT.but fun k hk _ e => by have := rs0_hot e; have := hk.2; omega
  have hD := duo_put hI3 hZ3 v u (fun k => w.heap.size ≤ k) (hT.in_.mono fun k hk _ => by have := hk.1; omega) (hu3.mono fun k hk _ => by have := hk.1; omega) (fun k _ hk e => by have := HCl.out k e; omega) (by rw [hT.n]; exact HU.out.1.n) (fun j hj => by
      have hj2 : j < o.its.n := by rw [← hT.n]; exact hj
      have h1 := hT.alike j hj2
      have h2 := HU.out.1.item j hj2
      exact ⟨by rw [h2.m, h1.m], RT.Alike.two h1.r h2.r (hT.in_.each j hj : IT.In _ _ _).r⟩) (fun j hj => by
      have hj2 : j < o.its.n := by rw [← hT.n]; exact hj
      rw [(hT.alike j hj2).r.size]; exact HSz.out j hj2) (by rw [hT.n]; exact HLn.out)
  have HD := hid hD
  have HT := hid hT
  have HB3 := hid hB3
  have HG : Hid (v.p = some ⟨g, 0, none⟩ ∧ W2.heap.size ≤ g ∧ Box w3 g cur 35 ∧ o.its.n * 7 ≤ cur.size) := ⟨hvp, hgB, hgb, hgs⟩
  have HX3 : Hid (Box w3 w.heap.size #[.int .i64 o.kind, .bool o.sec, .slice o.its.p o.its.n o.its.c, .slice o.rcs.p o.rcs.n o.rcs.c] 60) := HX2.out.but hT.but fun e => by have := rs0_hot e; omega
  have hcalm : ∀ k, w.heap.size ≤ k → ¬ s.C b d k := fun k hk e => by have := HCl.out k e; omega
  have HCa := hid hcalm
  have hg3 : g < w3.heap.size := hgb.lt
  have HG3 := hid hg3
  clear hD hT hB3 hZ3 hI3 hu3 hsz3 hq1 hq2 hq3 hvp hgB hgh hgb hgs hgi hcalm y2 yl HIt hg3
  go_wp2_with fail
  refine HD.out.mono ?_
  rintro e w4 ⟨m, er, rfl, hb4, hrest⟩
  have hX4 := HX3.out.but hb4 (HCa.out _ (Nat.le_refl _))
  have x2 : w4.cell? ⟨w.heap.size, 2, none⟩ = some (.slice o.its.p o.its.n o.its.c) := by rw [hX4.cell]; rfl
  have xl := hX4.lt
  obtain ⟨hq1, hq2, hq3⟩ := HSiz.out
  have hv4 : LT.In elItem w4 (fun k => W2.heap.size ≤ k ∧ ¬ R3.hot k) v := HT.out.in_.but hb4 fun k hk _ => HCa.out k (by have := hk.1; omega)
  have ho4 : LT.In elItem w4 (fun k => S k ∧ k < w.heap.size) o.its := (HI0.out.below HB3.out).but hb4 fun k hk _ => HS.out k hk.2 hk.1
  have HSa := hid (sameItems_yes v o.its w4 _ _ hv4 ho4 HT.out.n.symm fun j hj => by
    have hj2 : j < o.its.n := by rw [← HT.out.n]; exact hj
    have h1 := HT.out.alike j hj2
    exact ⟨h1.m.symm, h1.r.sy (hv4.each j hj : IT.In _ _ _).r⟩)
  have hrm4 : Rm w.heap.size w4 R3 := HT.out.rm.keep hb4.size fun k hk => hb4.block k (HT.out.rm.footlt hk) (HCa.out k (by
    rcases HT.out.nx.foot k hk with e | e
    · have := rs0_foot e; omega
    · omega))
  have hpl : R3.plainI := HT.out.nx.plain fun i _ _ _ _ _ => rfl
  have HHo : Hid (∀ V, Below w4.heap.size w4 V → Calls Try.prog 45 #[.pointer (some ⟨w0.heap.size, 0, none⟩)] V fun e w' => e = .returned (.bool true) ∧ Below V.heap.size V w') := fun V hV => by
    have h := holdI_any w.heap.size V R3 (hrm4.below hV) hpl
    rw [HT.out.nx.rb] at h
    exact h
  have HRe := hid hrest
  have HB4 := hid hb4
  clear hX4 hv4 ho4 hrm4 hpl hrest hb4 hq1 hq2 hq3 HD
  go_wp2_with fail
  refine HSa.out.mono ?_
  rintro e w5 ⟨rfl, hb5⟩
  have HHo5 := hid (HHo.out w5 hb5)
  have HB5 := hid hb5
  clear hb5 HHo x2 xl
  go_wp2_with fail
  refine HHo5.out.mono ?_
  rintro e w6 ⟨rfl, hb6⟩
  have HRe6 := hid (HRe.out w6 (HB5.out.trans (hb6.mono HB5.out.size)))
  clear hb6 HRe
  go_wp2_with fail
  refine HRe6.out.mono ?_
  rintro e w7 ⟨rfl, s', hS7, hl7, _⟩
  rw [HG.out.1, HT.out.n]
  have HS7 := hid hS7
  have HL7 := hid hl7
  obtain ⟨hq1, hq2, hq3⟩ := HSiz.out
  have hgw : w.heap.size ≤ g := by have := HG.out.2.1; omega
  have hb7 : Box w7 g cur 35 := HG.out.2.2.1.but hS7.but (HCa.out g hgw)
  have HB7 := hid hb7
  clear hS7 hl7 hq1 hq2 hq3 hb7 HRe6 HHo5
  have HGs := hid HG.out.2.2.2
  go_wp2_with fail
  go_loopw [15] (fun x wr => ∃ (k : Nat) (c : Array Value), k ≤ o.its.n ∧ x = .int .i64 (k : Int) ∧ Box wr g c 35 ∧ o.its.n * 7 ≤ c.size ∧ But (fun k => k = g) w7 wr) (fun x _ => o.its.n - (intOf x).toNat)
  case atStart => exact ⟨0, cur, Nat.zero_le _, rfl, HB7.out, HGs.out, But.refl _ _⟩
  case round =>
    obtain ⟨k, c, hk, rfl, hbx, hcs, hbt⟩ := hrel
    by_cases hlt : k < o.its.n
    · have hlt' : (k : Int) < (o.its.n : Int) := by omega
      have hget : ∀ r, r < 7 → wr.cell? ⟨g, 0 + k * 7 + r, none⟩ = some (c[k * 7 + r]!) := fun r hr => by
        rw [hbx.cell]
        rw [show 0 + k * 7 + r = k * 7 + r by omega]
        have : k * 7 + r < c.size := by omega
        rw [Array.getElem?_eq_getElem this, getElem!_pos c (k * 7 + r) this]
      have d0 := hget 0 (by omega)
      have d1 := hget 1 (by omega)
      have d2 := hget 2 (by omega)
      have d3 := hget 3 (by omega)
      have d4 := hget 4 (by omega)
      have d5 := hget 5 (by omega)
      have d6 := hget 6 (by omega)
      have f0 := hbx.frozen (k * 7)
      have f1 := hbx.frozen (k * 7 + 1)
      have f2 := hbx.frozen (k * 7 + 2)
      have f3 := hbx.frozen (k * 7 + 3)
      have f4 := hbx.frozen (k * 7 + 4)
      have f5 := hbx.frozen (k * 7 + 5)
      have f6 := hbx.frozen (k * 7 + 6)
      simp only [Nat.zero_add, Nat.add_zero] at d0 d1 d2 d3 d4 d5 d6
      have gl := hbx.lt
      have HBX := hid hbx
      have HCS := hid hcs
      have HBT := hid hbt
      clear hget hbx hcs hbt
      go_wp2
      go_roundw
      case rel => exact ⟨k + 1, _, by omega, by go_num, (((((((HBX.out.set (k * 7) (.int .i64 (-5))).set (k * 7 + 1) (.string ⟨#[]⟩)).set (k * 7 + 2) (.int .i64 0)).set (k * 7 + 3) (.int .i64 0)).set (k * 7 + 4) (.string ⟨#[]⟩)).set (k * 7 + 5) (.slice none 0 0)).set (k * 7 + 6) (.slice none 0 0)), by simpa using HCS.out, (((((((HBT.out.setAt (k * 7) (.int .i64 (-5))).setAt (k * 7 + 1) (.string ⟨#[]⟩)).setAt (k * 7 + 2) (.int .i64 0)).setAt (k * 7 + 3) (.int .i64 0)).setAt (k * 7 + 4) (.string ⟨#[]⟩)).setAt (k * 7 + 5) (.slice none 0 0)).setAt (k * 7 + 6) (.slice none 0 0))⟩
      case measure => simp [intOf]; omega
    · obtain rfl : k = o.its.n := by omega
      have hok : (m == m) = true := by simp
      have hok2 : (er == er) = true := by simp
      have HF : Hid (PqS w Z b d s wr s') := by
        have hI := Pq.but HS7.out.i hbt fun k _ e => .inr (by rw [e]; exact ⟨hgw, HG3.out⟩)
        refine ⟨Pq.z hI fun k _ e => .inl e, ⟨hbt.os.trans (HS7.out.but.os.trans HB3.out.os), hbt.tape.trans (HS7.out.but.tape.trans HB3.out.tape), hbt.output.trans (HS7.out.but.output.trans HB3.out.output), Nat.le_trans HB3.out.size (Nat.le_trans HS7.out.but.size hbt.size), fun k hk hn => ?_⟩, fun k hk => ?_⟩
        · have h1 := HB3.out.size
          have h2 := HS7.out.but.size
          exact ((hbt.block k (by omega) (by omega)).trans (HS7.out.but.block k (by omega) hn)).trans (HB3.out.block k hk)
        · rcases HS7.out.c k hk with e | e
          · exact .inl e
          · exact .inr (Nat.le_trans HB3.out.size e)
      have HLe : Hid (s'.len ≤ s.len + o.its.n) := by have := HL7.out; rw [HT.out.n] at this; exact this
      clear hbx hcs hbt
      go_wp2
      exact bodyPost_ret (v := .bool true) (by simp [results, Try.results25, go_sem]) rfl ⟨rfl, s', HF.out, HLe.out⟩
/-- LaneAll -/
theorem laneAll_walk (first second : Int) (s : LT OpL) (w : World) (hin : LT.In elOpL w (fun b => b < w.heap.size) s) : Calls Try.prog 6 #[.int .i64 first, .int .i64 second, .slice s.p s.n s.c] w fun e w' => e = .returned (.bool true) ∧ Below w.heap.size w w' := laneAll_put putOK first second s w hin
end Go.Proofs.Ytpldokahoamdpaa
