import Derived.Test.YtdmhemofhmfkoabGreatDoorPack0
import Derived.Test.YtdmhemofhmfkoabGreatDoorPack8
import Derived.Test.YtdmhemofhmfkoabGreatDoorPack5
namespace Go.Proofs.YtdmhemofhmfkoabGreatDoor
open Go.RowKit
set_option maxRecDepth 8000

theorem szOk_any (w : World) (b : Nat) (l : Int) (hb : Box w b #[.int .i64 l] 93) :
    Calls Tryz.prog 29 #[.pointer (some ⟨b, 0, none⟩)] w fun e w' => e = .returned (.bool (decide (0 ≤ l))) ∧ w' = w := by
  have hc : w.cell? ⟨b, 0, none⟩ = some (.int .i64 l) := hb.cell 0
  go_enter Tryz.func29, Tryz.ntmps29
  go_wp2
  go_ret
  exact ⟨by simp, rfl⟩

theorem szAdd_pos (w : World) (b : Nat) (l n : Int) (hb : Box w b #[.int .i64 l] 93) (hl : 0 ≤ l) (hl2 : l ≤ 10000) (hn : 0 ≤ n) (hn2 : n ≤ 281474976710656) :
    Calls Tryz.prog 58 #[.pointer (some ⟨b, 0, none⟩), .int .i64 n] w fun e w' => e = .returned (.bool (decide (0 ≤ l - n))) ∧ Box w' b #[.int .i64 (l - n)] 93 ∧ But (fun k => k = b) w w' := by
  have hc : w.cell? ⟨b, 0, none⟩ = some (.int .i64 l) := hb.cell 0
  have hf : w.frozen? ⟨b, 0, none⟩ = false := hb.frozen 0
  have hlt := hb.lt
  have H1 : Hid (Box (w.setCell ⟨b, 0, none⟩ (.int .i64 (l - n))) b #[.int .i64 (l - n)] 93) := by
    have := hb.set 0 (.int .i64 (l - n)); unfold Hid; simpa using this
  have H2 : Hid (But (fun k => k = b) w (w.setCell ⟨b, 0, none⟩ (.int .i64 (l - n)))) := by
    unfold Hid; exact (But.refl (fun k => k = b) w).setCell (p := ⟨b, 0, none⟩) (fun _ => rfl) _
  clear hb
  go_enter Tryz.func58, Tryz.ntmps58
  go_wp2
  go_ret
  exact ⟨by simp, H1.out, H2.out⟩

theorem szAdd_neg (w : World) (b : Nat) (l n : Int) (hb : Box w b #[.int .i64 l] 93) (hl : l < 0) :
    Calls Tryz.prog 58 #[.pointer (some ⟨b, 0, none⟩), .int .i64 n] w fun e w' => e = .returned (.bool false) ∧ w' = w := by
  have hc : w.cell? ⟨b, 0, none⟩ = some (.int .i64 l) := hb.cell 0
  clear hb
  go_enter Tryz.func58, Tryz.ntmps58
  go_wp2
  go_ret
  exact ⟨by simp; assumption, rfl⟩

/-- what the count says of the parts below t: it was l ahead of them and is m behind them -/
structure Told (l m : Int) (total : Nat) : Prop where
  ok : 0 ≤ m → 0 ≤ l ∧ m = l - total
  le : m ≤ l
  low : -1000000000000000 ≤ m

set_option maxHeartbeats 1000000 in
theorem szValues_any (t : VT) : ∀ (w : World) (S : Nat → Prop) (b : Nat) (l : Int), VT.In w S t → ¬ S b → Box w b #[.int .i64 l] 93 → 0 ≤ l → l ≤ 10000 →
    Calls Tryz.prog 28 #[.pointer (some ⟨b, 0, none⟩), t.row] w fun e w' => e = .returned (.tuple #[]) ∧ ∃ m, Box w' b #[.int .i64 m] 93 ∧ Told l m t.total ∧ But (fun k => k = b) w w' := by
  induction t with
  | nil => intro w S b l hin; exact hin.elim
  | mk k i s n p c f ih =>
    intro w S b l hin hS hb hl hl2
    have hfit := hin.fit
    have hcc := hfit.nn
    simp only [VT.n] at hcc
    have HT : Hid (∀ j, VT.upto (.mk k i s n p c f) (j + 1) = VT.upto (.mk k i s n p c f) j + (f j).total) := fun j => VT.upto_succ _ j
    have HE : Hid ((VT.mk k i s n p c f).total = n + VT.upto (.mk k i s n p c f) n) := VT.total_upto _
    have HA := szAdd_pos w b l (n : Int) hb hl hl2 (by omega) (by omega)
    simp only [VT.row, VT.p, VT.n, VT.c]
    clear hb
    go_enter Tryz.func28, Tryz.ntmps28
    go_wp2_with (go_at_call 58; refine HA.mono ?_; rintro e w1 ⟨rfl, hb1, hk1⟩)
    have HI : Hid (VT.In w S (.mk k i s n p c f)) := hin
    clear hin hfit HA
    go_loopw [4] (fun x wr => ∃ j : Nat, j ≤ n ∧ x = .int .i64 j ∧ ∃ m : Int, Box wr b #[.int .i64 m] 93 ∧ Told l m (n + VT.upto (.mk k i s n p c f) j) ∧ But (fun k => k = b) w wr) (fun x _ => n - (intOf x).toNat)
    case atStart => exact ⟨0, Nat.zero_le _, rfl, l - n, hb1, ⟨fun h => ⟨hl, by simp [VT.upto]⟩, by omega, by omega⟩, hk1⟩
    case round =>
      obtain ⟨j, hj, rfl, m, hbm, htold, hkm⟩ := hrel
      clear hb1 hk1
      have HO := szOk_any wr b m hbm
      by_cases hlt : j < n
      · have hlt' : (j : Int) < (n : Int) := by omega
        by_cases hm : 0 ≤ m
        · have hd : decide (0 ≤ m) = true := decide_eq_true hm
          rw [hd] at HO
          obtain ⟨bb, o, hp, hSb, hbl, hat⟩ := HI.out.at_ (show 0 < (VT.mk k i s n p c f).n from by simp only [VT.n]; omega)
          simp only [VT.p] at hp
          subst hp
          have hne : bb ≠ b := fun e => hS (e ▸ hSb)
          have c3 := ((hat j hlt).kept (hkm.block bb hbl hne)).c3
          simp only [VT.item] at c3
          have HC : Hid (Calls Tryz.prog 28 #[.pointer (some ⟨b, 0, none⟩), (f j).row] wr fun e w' => e = .returned (.tuple #[]) ∧ ∃ m', Box w' b #[.int .i64 m'] 93 ∧ Told m m' (f j).total ∧ But (fun k => k = b) wr w') :=
            ih j wr S b m ((HI.out.sub hlt).but hkm (fun x hx _ e => hS (e ▸ hx))) hS hbm hm (by have := htold.le; omega)
          unfold VT.row at HC
          clear hat
          go_wp2_with (first | (go_at_call 29; refine HO.mono ?_; rintro e w2 ⟨rfl, rfl⟩) | (go_at_call 28; refine HC.out.mono ?_; rintro e w3 ⟨rfl, m', hb3, ht3, hk3⟩))
          go_roundw
          case rel =>
            have hu := HT.out j
            refine ⟨j + 1, by omega, by go_num, m', hb3, ⟨fun h => ?_, ?_, ?_⟩, hkm.trans hk3⟩
            · have a1 := ht3.ok h
              have a2 := htold.ok hm
              refine ⟨a2.1, ?_⟩
              rw [hu]; omega
            · have a1 := ht3.le
              have a2 := htold.le
              omega
            · exact ht3.low
          case measure => simp [intOf]; omega
        · have hd : decide (0 ≤ m) = false := decide_eq_false hm
          rw [hd] at HO
          go_wp2_with (go_at_call 29; refine HO.mono ?_; rintro e w2 ⟨rfl, rfl⟩)
          go_end0
          exact ⟨rfl, m, hbm, ⟨fun h => absurd h (by omega), htold.le, htold.low⟩, hkm⟩
      · obtain rfl : j = n := by omega
        go_wp2_with fail
        go_end0
        refine ⟨rfl, m, hbm, ?_, hkm⟩
        rw [HE.out]
        exact htold

set_option maxHeartbeats 400000 in
theorem sizes_any (t : VT) (w : World) (S : Nat → Prop) (hin : VT.In w S t) (hS : ∀ b, S b → b < w.heap.size) :
    Calls Tryz.prog 6 #[t.row] w fun e w' => ∃ r, e = .returned (.bool r) ∧ (r = true → t.total ≤ 10000) ∧ Below w.heap.size w w' := by
  have HN : Hid (∀ w' : World, Calls Tryz.prog 27 #[] w' fun e w1 => e = .returned (.pointer (some ⟨w'.heap.size, 0, none⟩)) ∧ w1 = w'.alloc (.cells #[.int .i64 10000] 93)) := by
    unfold Hid
    intro w'
    go_enter Tryz.func27, Tryz.ntmps27
    go_wp2
    go_ret
    exact ⟨rfl, rfl⟩
  have hw1 : Below w.heap.size w (w.alloc (.cells #[.int .i64 10000] 93)) := (Below.refl _ _).alloc (Nat.le_refl _) _
  have HV := szValues_any t (w.alloc (.cells #[.int .i64 10000] 93)) S w.heap.size 10000 (hin.below hw1) (fun h => absurd (hS _ h) (by omega)) (Box.new _ _ _) (by omega) (by omega)
  unfold VT.row at HV ⊢
  have HH : Hid (∀ k, k < w.heap.size → ¬ (k = w.heap.size)) := fun k hk => by omega
  have HW : Hid (Below w.heap.size w (w.alloc (.cells #[.int .i64 10000] 93))) := hw1
  have hsz : w.heap.size ≤ (w.alloc (.cells #[.int .i64 10000] 93)).heap.size := hw1.size
  have HSz : Hid (w.heap.size ≤ (w.alloc (.cells #[.int .i64 10000] 93)).heap.size) := hsz
  clear hin hS hw1 hsz
  go_enter Tryz.func6, Tryz.ntmps6
  go_wp2_with (first | (go_at_call 27; refine (HN.out _).mono ?_; rintro e w1 ⟨rfl, rfl⟩) | (go_at_call 28; refine HV.mono ?_; rintro e w2 ⟨rfl, m, hb2, ht2, hk2⟩))
  have HO := szOk_any w2 _ m hb2
  go_wp2_with (go_at_call 29; refine HO.mono ?_; rintro e w3 ⟨rfl, rfl⟩)
  go_ret
  refine ⟨_, rfl, fun h => ?_, HW.out.trans (hk2.below HSz.out HH.out)⟩
  have h0 : 0 ≤ m := of_decide_eq_true h
  have := ht2.ok h0
  omega
end Go.Proofs.YtdmhemofhmfkoabGreatDoor

namespace Go.Proofs.YtdmhemofhmfkoabGreatDoor
open Go.RowKit
set_option maxRecDepth 8000

set_option maxHeartbeats 1000000 in
theorem same_any (t : VT) : ∀ (u : VT) (w : World) (S R : Nat → Prop), VT.In w S t → VT.In w R u → VT.Alike t u →
    Calls Tryz.prog 10 #[t.val, u.val] w fun e w' => e = .returned (.bool true) ∧ Below w.heap.size w w' := by
  induction t with
  | nil => intro u w S R hin; exact hin.elim
  | mk k i s n p c f ih =>
    intro u w S R hin hiu hal
    obtain ⟨k2, i2, s2, n2, p2, c2, f2, rfl⟩ := hiu.mk_
    obtain ⟨h1, h2, h3, h4, hal⟩ := hal
    simp only [VT.kind_mk, VT.int_mk, VT.text_mk, VT.n_mk, VT.item_mk] at h1 h2 h3 h4 hal
    subst h1 h2 h3 h4
    have hnn := hin.fit.nn
    simp only [VT.n_mk] at hnn
    simp only [VT.val, VT.kind_mk, VT.int_mk, VT.text_mk, VT.p_mk, VT.n_mk, VT.c_mk]
    have HI : Hid (VT.In w S (.mk k2 i2 s2 n2 p c f)) := hin
    have HU : Hid (VT.In w R (.mk k2 i2 s2 n2 p2 c2 f2)) := hiu
    have HA : Hid (∀ j, j < n2 → VT.Alike (f j) (f2 j)) := hal
    clear hin hiu hal
    go_enter Tryz.func10, Tryz.ntmps10
    go_wp2_with fail
    have hS1 : Box (w.alloc (.cells #[.int .i64 k2, .int .i64 i2, .string s2, .slice p n2 c] 24)) w.heap.size #[.int .i64 k2, .int .i64 i2, .string s2, .slice p n2 c] 24 := Box.new _ _ _
    have hS2 := hS1.below ((Below.refl _ _).alloc (Nat.le_refl _) (.cells #[.int .i64 k2, .int .i64 i2, .string s2, .slice p2 n2 c2] 24))
    have hS3 : Box ((w.alloc (.cells #[.int .i64 k2, .int .i64 i2, .string s2, .slice p n2 c] 24)).alloc (.cells #[.int .i64 k2, .int .i64 i2, .string s2, .slice p2 n2 c2] 24)) (w.heap.size + 1) #[.int .i64 k2, .int .i64 i2, .string s2, .slice p2 n2 c2] 24 := by
      have := Box.new (w.alloc (.cells #[.int .i64 k2, .int .i64 i2, .string s2, .slice p n2 c] 24)) #[.int .i64 k2, .int .i64 i2, .string s2, .slice p2 n2 c2] 24
      simpa using this
    have hS4 : Below w.heap.size w ((w.alloc (.cells #[.int .i64 k2, .int .i64 i2, .string s2, .slice p n2 c] 24)).alloc (.cells #[.int .i64 k2, .int .i64 i2, .string s2, .slice p2 n2 c2] 24)) := ((Below.refl _ _).alloc (Nat.le_refl _) _).alloc (by simp) _
    go_loopw [5] (fun x wr => ∃ j : Nat, j ≤ n2 ∧ x = .int .i64 j ∧ Box wr w.heap.size #[.int .i64 k2, .int .i64 i2, .string s2, .slice p n2 c] 24 ∧ Box wr (w.heap.size + 1) #[.int .i64 k2, .int .i64 i2, .string s2, .slice p2 n2 c2] 24 ∧ Below w.heap.size w wr) (fun x _ => n2 - (intOf x).toNat)
    case atStart => exact ⟨0, Nat.zero_le _, rfl, hS2, hS3, hS4⟩
    case round =>
      obtain ⟨j, hj, rfl, hB0, hB1, hbel⟩ := hrel
      clear hS1 hS2 hS3 hS4
      have x3 := hB0.cell 3
      have y3 := hB1.cell 3
      simp at x3 y3
      by_cases hlt : j < n2
      · have hlt' : (j : Int) < (n2 : Int) := by omega
        obtain ⟨bb, o, hp, hSb, hbl, hat⟩ := HI.out.at_ (show 0 < (VT.mk k2 i2 s2 n2 p c f).n from by simp only [VT.n]; omega)
        obtain ⟨bb2, o2, hp2, hSb2, hbl2, hat2⟩ := HU.out.at_ (show 0 < (VT.mk k2 i2 s2 n2 p2 c2 f2).n from by simp only [VT.n]; omega)
        simp only [VT.p_mk] at hp hp2
        subst hp hp2
        obtain ⟨a0, a1, a2, a3⟩ := (hat j hlt).kept (hbel.block bb hbl)
        obtain ⟨b0, b1, b2, b3⟩ := (hat2 j hlt).kept (hbel.block bb2 hbl2)
        simp only [VT.item_mk] at a0 a1 a2 a3 b0 b1 b2 b3
        have HC : Hid (∀ W, Below wr.heap.size wr W → Calls Tryz.prog 10 #[(f j).val, (f2 j).val] W fun e w' => e = .returned (.bool true) ∧ Below W.heap.size W w') := fun W hW =>
          ih j (f2 j) W (fun b => S b ∧ b < w.heap.size) (fun b => R b ∧ b < w.heap.size) ((((HI.out.sub hlt).mono fun b hb hl => ⟨hb, hl⟩).kept hbel.size (fun b hb _ => hbel.block b hb.2)).below hW) ((((HU.out.sub hlt).mono fun b hb hl => ⟨hb, hl⟩).kept hbel.size (fun b hb _ => hbel.block b hb.2)).below hW) (HA.out j hlt)
        unfold VT.val at HC
        have HB : Hid (Box wr w.heap.size #[.int .i64 k2, .int .i64 i2, .string s2, .slice (some ⟨bb, o, none⟩) n2 c] 24 ∧ Box wr (w.heap.size + 1) #[.int .i64 k2, .int .i64 i2, .string s2, .slice (some ⟨bb2, o2, none⟩) n2 c2] 24) := ⟨hB0, hB1⟩
        obtain ⟨xk, xi, xs, xn, xp, xc, xf, hx⟩ := (HI.out.sub hlt).mk_
        obtain ⟨yk, yi, ys, yn, yp, yc, yf, hy⟩ := (HU.out.sub hlt).mk_
        simp only [VT.item_mk] at hx hy
        clear hat hat2 ih HI HU HA hB0 hB1
        rw [hx] at a0 a1 a2 a3 HC
        rw [hy] at b0 b1 b2 b3 HC
        clear hx hy
        simp only [VT.kind_mk, VT.int_mk, VT.text_mk, VT.p_mk, VT.n_mk, VT.c_mk] at a0 a1 a2 a3 b0 b1 b2 b3 HC
        go_wp2_with fail
        go_region_with (go_at_call 10; refine (HC.out _ ?_).mono ?_; exact (Below.refl _ _).drew; rintro e w4 ⟨rfl, hb4⟩)
        all_goals
          have hk : Below wr.heap.size wr w4 := (Below.refl wr.heap.size wr).drew.trans hb4
          have hbl : Below w.heap.size w w4 := hbel.trans (hk.mono hbel.size)
          go_wp2
          go_roundw
          case rel => exact ⟨j + 1, by omega, by go_num, HB.out.1.below hk, HB.out.2.below hk, hbl⟩
          case measure => simp [intOf]; omega
      · obtain rfl : j = n2 := by omega
        clear ih HI HU HA hB0 hB1
        go_wp2
        go_ret
        exact ⟨rfl, hbel⟩
end Go.Proofs.YtdmhemofhmfkoabGreatDoor

namespace Go.Proofs.YtdmhemofhmfkoabGreatDoor
open Go.RowKit
set_option maxRecDepth 8000
/-- where the blanks from a place on end -/
def blE (s : ByteArray) (a : Nat) : Nat := a + blL (s.data.toList.drop a)
theorem blE_at {s : ByteArray} {a : Nat} (h : a < s.size) : blE s a = if pk s a = 32 ∨ pk s a = 9 then blE s (a + 1) else a := by
  have hl : a < s.data.toList.length := by simpa using h
  have e : s.data.toList.drop a = s.data.toList[a] :: s.data.toList.drop (a + 1) := List.drop_eq_getElem_cons hl
  have hp : pk s a = (s.data.toList[a]).toNat := by
    unfold pk
    rw [Array.getElem?_eq_getElem (show a < s.data.size from h)]
    simp
  unfold blE
  rw [e, blL, hp]
  have k1 : ((s.data.toList[a]).toNat = 32 ↔ s.data.toList[a] = 32) := ⟨fun q => UInt8.toNat_inj.1 q, fun q => by rw [q]; rfl⟩
  have k2 : ((s.data.toList[a]).toNat = 9 ↔ s.data.toList[a] = 9) := ⟨fun q => UInt8.toNat_inj.1 q, fun q => by rw [q]; rfl⟩
  by_cases hq : s.data.toList[a] = 32 ∨ s.data.toList[a] = 9
  · rw [if_pos hq, if_pos (hq.imp k1.2 k2.2)]; omega
  · rw [if_neg hq, if_neg (fun z => hq (z.imp k1.1 k2.1))]; omega
theorem blE_end {s : ByteArray} {a : Nat} (h : ¬ a < s.size) : blE s a = a := by
  unfold blE
  rw [List.drop_eq_nil_of_le (by simpa using h)]
  rfl
theorem pk_get {s : ByteArray} {a : Nat} (h : a < s.size) : ((s[a]'h).toNat : Int) = (pk s a : Int) := by
  unfold pk
  rw [Array.getElem?_eq_getElem (show a < s.data.size from h)]
  rfl
set_option maxHeartbeats 1000000 in
theorem refBlanks_any (s : ByteArray) (a : Nat) (w : World) (ha : a ≤ s.size) (hs : s.size ≤ 140737488355328) :
    Calls Tryz.prog 53 #[.string s, .int .i64 (a : Int)] w fun x w' => x = .returned (.int .i64 (blE s a : Nat)) ∧ Below w.heap.size w w' := by
  obtain ⟨E, hE⟩ : ∃ E, blE s a = E := ⟨_, rfl⟩
  rw [hE]
  have HE := hid hE
  clear hE
  go_enter Tryz.func53, Tryz.ntmps53
  go_wp2_with fail
  go_loopw [1] (fun x wr => ∃ p : Nat, x = .int .i64 (p : Int) ∧ p ≤ s.size ∧ blE s p = E ∧ Below w.heap.size w wr) (fun x _ => s.size - (intOf x).toNat)
  case atStart => exact ⟨a, rfl, ha, HE.out, Below.refl _ _⟩
  case round =>
    obtain ⟨p, rfl, hp, hpE, hb⟩ := hrel
    have HB := hid hb
    clear hb
    by_cases hlt : p < s.size
    · have hlt' : (p : Int) < (s.size : Int) := by omega
      rw [blE_at hlt] at hpE
      have hg := pk_get hlt
      have hk := pk_lt s p
      obtain ⟨c, hc⟩ : ∃ c, pk s p = c := ⟨_, rfl⟩
      rw [hc] at hg hk hpE
      have HQ := hid hpE
      clear hpE hc
      by_cases h32 : c = 32 ∨ c = 9
      · have HQ2 := hid ((if_pos h32).symm.trans HQ.out)
        have hw : IntKind.i64.wrap ((p : Int) + 1) = ((p + 1 : Nat) : Int) := by rw [IntKind.wrap_i64]; omega
        have hor : ((c : Int) == 32) = true ∨ ((c : Int) == 32) = false ∧ ((c : Int) == 9) = true := by
          rcases h32 with rfl | rfl
          · exact .inl rfl
          · exact .inr ⟨rfl, rfl⟩
        clear h32 HQ
        rcases hor with h1 | ⟨h1, h2⟩
        · go_wp2_with fail
          exact ⟨⟨p + 1, rfl, by omega, HQ2.out, HB.out⟩, by simp only [intOf]; omega⟩
        · go_wp2_with fail
          exact ⟨⟨p + 1, rfl, by omega, HQ2.out, HB.out⟩, by simp only [intOf]; omega⟩
      · have HQ2 := hid ((if_neg h32).symm.trans HQ.out)
        have h1 : ((c : Int) == 32) = false := by simp; omega
        have h2 : ((c : Int) == 9) = false := by simp; omega
        clear h32 HQ
        go_wp2_with fail
        go_ret
        exact ⟨by rw [← HQ2.out]; rfl, HB.out⟩
    · rw [blE_end hlt] at hpE
      have hlt' : ¬ (p : Int) < (s.size : Int) := by omega
      subst hpE
      go_wp2_with fail
      go_ret
      exact ⟨rfl, HB.out⟩
end Go.Proofs.YtdmhemofhmfkoabGreatDoor

namespace Go.Proofs.YtdmhemofhmfkoabGreatDoor
open Go.RowKit
set_option maxRecDepth 8000
def hexI : Option Nat → Int
  | none => -1
  | some h => (h : Int)
set_option maxHeartbeats 1000000 in
theorem refDigit_any (s : ByteArray) (a : Nat) (w : World) (_hs : s.size ≤ 140737488355328) :
    Calls Tryz.prog 123 #[.string s, .int .i64 (a : Int)] w fun x w' => x = .returned (.int .i64 (hexI (hexS (pk s a)))) ∧ Below w.heap.size w w' := by
  by_cases hlt : a < s.size
  · have hg := pk_get hlt
    have h1 : ¬ (s.size : Int) ≤ (a : Int) := by omega
    have hc := hexS_cases (pk s a)
    have hk := pk_lt s a
    obtain ⟨z, hz⟩ : ∃ z, pk s a = z := ⟨_, rfl⟩
    rw [hz] at hg hc hk ⊢
    clear hz
    rcases hc with ⟨a1, a2, e⟩ | ⟨a1, a2, e⟩ | ⟨a1, a2, e⟩ | ⟨a1, e⟩
    · rw [e]
      have HI : Hid (hexI (some (z - 48)) = (z : Int) - 48) := by unfold Hid hexI; simp only; omega
      have b1 : (48 : Int) ≤ (z : Int) := by omega
      have b2 : (z : Int) ≤ 57 := by omega
      clear e
      go_enter Tryz.func123, Tryz.ntmps123
      go_wp2
      go_ret
      exact ⟨by rw [HI.out]; rfl, Below.refl _ _⟩
    · rw [e]
      have HI : Hid (hexI (some (z - 87)) = (z : Int) - 97 + 10) := by unfold Hid hexI; simp only; omega
      have b0 : ¬ (z : Int) ≤ 57 := by omega
      have b3 : (48 : Int) ≤ (z : Int) := by omega
      have b1 : (97 : Int) ≤ (z : Int) := by omega
      have b2 : (z : Int) ≤ 102 := by omega
      clear e
      go_enter Tryz.func123, Tryz.ntmps123
      go_wp2
      go_ret
      exact ⟨by rw [HI.out]; rfl, Below.refl _ _⟩
    · rw [e]
      have HI : Hid (hexI (some (z - 55)) = (z : Int) - 65 + 10) := by unfold Hid hexI; simp only; omega
      have b0 : ¬ (z : Int) ≤ 57 := by omega
      have b3 : (48 : Int) ≤ (z : Int) := by omega
      have b4 : ¬ (97 : Int) ≤ (z : Int) := by omega
      have b1 : (65 : Int) ≤ (z : Int) := by omega
      have b2 : (z : Int) ≤ 70 := by omega
      clear e
      go_enter Tryz.func123, Tryz.ntmps123
      go_wp2
      go_ret
      exact ⟨by rw [HI.out]; rfl, Below.refl _ _⟩
    · rw [e]
      clear e
      rcases a1 with a1 | a1 | a1 | a1
      · have b0 : ¬ (48 : Int) ≤ (z : Int) := by omega
        have b4 : ¬ (97 : Int) ≤ (z : Int) := by omega
        have b1 : ¬ (65 : Int) ≤ (z : Int) := by omega
        go_enter Tryz.func123, Tryz.ntmps123
        go_wp2
        go_ret
        exact ⟨rfl, Below.refl _ _⟩
      · have b0 : (48 : Int) ≤ (z : Int) := by omega
        have b2 : ¬ (z : Int) ≤ 57 := by omega
        have b4 : ¬ (97 : Int) ≤ (z : Int) := by omega
        have b1 : ¬ (65 : Int) ≤ (z : Int) := by omega
        go_enter Tryz.func123, Tryz.ntmps123
        go_wp2
        go_ret
        exact ⟨rfl, Below.refl _ _⟩
      · have b0 : (48 : Int) ≤ (z : Int) := by omega
        have b2 : ¬ (z : Int) ≤ 57 := by omega
        have b4 : ¬ (97 : Int) ≤ (z : Int) := by omega
        have b1 : (65 : Int) ≤ (z : Int) := by omega
        have b5 : ¬ (z : Int) ≤ 70 := by omega
        go_enter Tryz.func123, Tryz.ntmps123
        go_wp2
        go_ret
        exact ⟨rfl, Below.refl _ _⟩
      · have b0 : (48 : Int) ≤ (z : Int) := by omega
        have b2 : ¬ (z : Int) ≤ 57 := by omega
        have b4 : (97 : Int) ≤ (z : Int) := by omega
        have b6 : ¬ (z : Int) ≤ 102 := by omega
        have b1 : (65 : Int) ≤ (z : Int) := by omega
        have b5 : ¬ (z : Int) ≤ 70 := by omega
        go_enter Tryz.func123, Tryz.ntmps123
        go_wp2
        go_ret
        exact ⟨rfl, Below.refl _ _⟩
  · have h1 : (s.size : Int) ≤ (a : Int) := by omega
    have hz : pk s a = 0 := by
      rcases Nat.eq_zero_or_pos (pk s a) with h | h
      · exact h
      · exact absurd (pk_pos (s := s) (a := a) (by omega)) hlt
    rw [hz]
    clear hz
    go_enter Tryz.func123, Tryz.ntmps123
    go_wp2
    go_ret
    exact ⟨rfl, Below.refl _ _⟩
end Go.Proofs.YtdmhemofhmfkoabGreatDoor

namespace Go.Proofs.YtdmhemofhmfkoabGreatDoor
open Go.RowKit
set_option maxRecDepth 8000
def EscP (a : Nat) (r : Except (Nat × Nat) (Nat × Nat)) (x : Ending) : Prop :=
  (∀ b a', r = .ok (b, a') → x = .returned (.tuple #[.int .u8 (b : Int), .int .i64 ((a' : Int) - (a : Int)), .int .i64 0])) ∧ (∀ p e, r = .error (p, e) → x = .returned (.tuple #[.int .u8 0, .int .i64 0, .int .i64 (p : Int)]))
theorem EscP.ok {a b a' : Nat} {r : Except (Nat × Nat) (Nat × Nat)} {x : Ending} (h : r = .ok (b, a')) (hx : x = .returned (.tuple #[.int .u8 (b : Int), .int .i64 ((a' : Int) - (a : Int)), .int .i64 0])) : EscP a r x :=
  ⟨fun b2 a2 h2 => (by rw [h] at h2; cases h2; exact hx), fun p e h2 => (by rw [h] at h2; cases h2)⟩
theorem EscP.err {a p e : Nat} {r : Except (Nat × Nat) (Nat × Nat)} {x : Ending} (h : r = .error (p, e)) (hx : x = .returned (.tuple #[.int .u8 0, .int .i64 0, .int .i64 (p : Int)])) : EscP a r x :=
  ⟨fun b2 a2 h2 => (by rw [h] at h2; cases h2), fun p2 e2 h2 => (by rw [h] at h2; cases h2; exact hx)⟩
set_option maxHeartbeats 2000000 in
theorem refEscape_any (s : ByteArray) (a : Nat) (w : World) (ha : a < s.size) (hs : s.size ≤ 140737488355328) :
    Calls Tryz.prog 113 #[.string s, .int .i64 (a : Int)] w fun x w' => EscP a (escS s a) x ∧ Below w.heap.size w w' := by
  have HD2 : Hid (∀ W, Calls Tryz.prog 123 #[.string s, .int .i64 ((a : Int) + 2)] W fun x w' => x = .returned (.int .i64 (hexI (hexS (pk s (a + 2))))) ∧ Below W.heap.size W w') := fun W => refDigit_any s (a + 2) W hs
  have HD3 : Hid (∀ W, Calls Tryz.prog 123 #[.string s, .int .i64 ((a : Int) + 3)] W fun x w' => x = .returned (.int .i64 (hexI (hexS (pk s (a + 3))))) ∧ Below W.heap.size W w') := fun W => refDigit_any s (a + 3) W hs
  obtain ⟨R, hR⟩ : ∃ R, escS s a = R := ⟨_, rfl⟩
  rw [hR]
  unfold escS at hR
  by_cases hlt : a + 1 < s.size
  · have hg := pk_get hlt
    have h1 : ¬ (s.size : Int) ≤ (a : Int) + 1 := by omega
    have h2 : (a : Int) + 1 < (s.size : Int) := by omega
    obtain ⟨z, hz⟩ : ∃ z, pk s (a + 1) = z := ⟨_, rfl⟩
    rw [hz] at hg hR
    clear hz
    by_cases k1 : z = 34
    · subst k1
      rw [if_pos (.inl rfl)] at hR
      have HR := hid hR.symm
      clear hR
      go_enter Tryz.func113, Tryz.ntmps113
      go_wp2
      exact bodyPost_ret (v := .tuple #[.int .u8 34, .int .i64 2, .int .i64 0]) (by simp [results, Tryz.results113, go_sem]) rfl ⟨EscP.ok HR.out (by congr 3; simp; omega), Below.refl _ _⟩
    by_cases k2 : z = 92
    · subst k2
      rw [if_pos (.inr rfl)] at hR
      have HR := hid hR.symm
      clear hR
      go_enter Tryz.func113, Tryz.ntmps113
      go_wp2
      exact bodyPost_ret (v := .tuple #[.int .u8 92, .int .i64 2, .int .i64 0]) (by simp [results, Tryz.results113, go_sem]) rfl ⟨EscP.ok HR.out (by congr 3; simp; omega), Below.refl _ _⟩
    rw [if_neg (by omega)] at hR
    have k1' : ¬ (z : Int) = 34 := by omega
    have k2' : ¬ (z : Int) = 92 := by omega
    by_cases k3 : z = 110
    · subst k3
      rw [if_pos rfl] at hR
      have HR := hid hR.symm
      clear hR
      go_enter Tryz.func113, Tryz.ntmps113
      go_wp2
      exact bodyPost_ret (v := .tuple #[.int .u8 10, .int .i64 2, .int .i64 0]) (by simp [results, Tryz.results113, go_sem]) rfl ⟨EscP.ok HR.out (by congr 3; simp; omega), Below.refl _ _⟩
    rw [if_neg k3] at hR
    have k3' : ¬ (z : Int) = 110 := by omega
    by_cases k4 : z = 116
    · subst k4
      rw [if_pos rfl] at hR
      have HR := hid hR.symm
      clear hR
      go_enter Tryz.func113, Tryz.ntmps113
      go_wp2
      exact bodyPost_ret (v := .tuple #[.int .u8 9, .int .i64 2, .int .i64 0]) (by simp [results, Tryz.results113, go_sem]) rfl ⟨EscP.ok HR.out (by congr 3; simp; omega), Below.refl _ _⟩
    rw [if_neg k4] at hR
    have k4' : ¬ (z : Int) = 116 := by omega
    by_cases k5 : z = 120
    · subst k5
      rw [if_pos rfl] at hR
      cases hx : hexS (pk s (a + 2)) with
      | none =>
        rw [hx] at hR HD2
        have HR := hid hR.symm
        clear hR hx
        simp only [hexI] at HD2
        go_enter Tryz.func113, Tryz.ntmps113
        go_wp2_with fail
        refine (HD2.out _).mono ?_
        rintro e w1 ⟨rfl, hb1⟩
        have HB := hid hb1
        clear hb1
        go_wp2
        exact bodyPost_ret (v := .tuple #[.int .u8 0, .int .i64 0, .int .i64 ((a : Int) + 2)]) (by simp [results, Tryz.results113, go_sem]) rfl ⟨EscP.err HR.out rfl, HB.out⟩
      | some x =>
        rw [hx] at hR HD2
        simp only [hexI] at HD2
        have hx16 := (hexS_some hx).2
        have hx0 : ¬ (x : Int) < 0 := by omega
        cases hy : hexS (pk s (a + 3)) with
        | none =>
          rw [hy] at hR HD3
          have HR := hid hR.symm
          clear hR hx hy
          simp only [hexI] at HD3
          go_enter Tryz.func113, Tryz.ntmps113
          go_wp2_with fail
          refine (HD2.out _).mono ?_
          rintro e w1 ⟨rfl, hb1⟩
          have HB := hid hb1
          clear hb1
          go_wp2_with fail
          refine (HD3.out _).mono ?_
          rintro e w2 ⟨rfl, hb2⟩
          have HB2 := hid (HB.out.trans (hb2.mono HB.out.size))
          clear hb2
          go_wp2
          exact bodyPost_ret (v := .tuple #[.int .u8 0, .int .i64 0, .int .i64 ((a : Int) + 3)]) (by simp [results, Tryz.results113, go_sem]) rfl ⟨EscP.err HR.out rfl, HB2.out⟩
        | some y =>
          rw [hy] at hR HD3
          have HR := hid hR.symm
          have hy16 := (hexS_some hy).2
          have hy0 : ¬ (y : Int) < 0 := by omega
          clear hR hx hy
          simp only [hexI] at HD3
          have hw8 : IntKind.u8.wrap ((x : Int) * 16 + (y : Int)) = (x : Int) * 16 + (y : Int) := by rw [IntKind.wrap_u8]; omega
          go_enter Tryz.func113, Tryz.ntmps113
          go_wp2_with fail
          refine (HD2.out _).mono ?_
          rintro e w1 ⟨rfl, hb1⟩
          have HB := hid hb1
          clear hb1
          go_wp2_with fail
          refine (HD3.out _).mono ?_
          rintro e w2 ⟨rfl, hb2⟩
          have HB2 := hid (HB.out.trans (hb2.mono HB.out.size))
          clear hb2
          go_wp2
          exact bodyPost_ret (v := .tuple #[.int .u8 ((x : Int) * 16 + (y : Int)), .int .i64 4, .int .i64 0]) (by simp [results, Tryz.results113, go_sem]) rfl ⟨EscP.ok HR.out (by congr 3; simp; omega), HB2.out⟩
    rw [if_neg k5] at hR
    have k5' : ¬ (z : Int) = 120 := by omega
    have HR := hid hR.symm
    clear hR
    go_enter Tryz.func113, Tryz.ntmps113
    go_wp2
    exact bodyPost_ret (v := .tuple #[.int .u8 0, .int .i64 0, .int .i64 ((a : Int) + 1)]) (by simp [results, Tryz.results113, go_sem]) rfl ⟨EscP.err HR.out rfl, Below.refl _ _⟩
  · have h1 : (s.size : Int) ≤ (a : Int) + 1 := by omega
    have hz : pk s (a + 1) = 0 := by
      rcases Nat.eq_zero_or_pos (pk s (a + 1)) with h | h
      · exact h
      · exact absurd (pk_pos (s := s) (a := a + 1) (by omega)) hlt
    rw [hz, if_neg (by omega), if_neg (by omega), if_neg (by omega), if_neg (by omega)] at hR
    have HR := hid hR.symm
    clear hR hz
    go_enter Tryz.func113, Tryz.ntmps113
    go_wp2
    exact bodyPost_ret (v := .tuple #[.int .u8 0, .int .i64 0, .int .i64 ((a : Int) + 1)]) (by simp [results, Tryz.results113, go_sem]) rfl ⟨EscP.err HR.out rfl, Below.refl _ _⟩
end Go.Proofs.YtdmhemofhmfkoabGreatDoor
