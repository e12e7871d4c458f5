import Derived.Test.YtbkikbhodgjijaaYH
namespace Go.Proofs.Ytbkikbhodgjijaa
open Go.RowKit
set_option maxRecDepth 8000
def CpQ (f : Nat → TR) (a b : Nat) (i k : Int) (e : Ending) : Prop := ∃ x : Int, e = .returned (.int .i64 x) ∧ ((x = -1 ∧ ¬ ∃ m, OneCp f a b i k m) ∨ ∃ m : Nat, x = (m : Int) ∧ OneCp f a b i k m)
set_option maxHeartbeats 8000000 in
theorem copyAt_any (l : LT TR) (a b : Nat) (i t : Int) (w : World) (S : Nat → Prop) (hl : LT.In elTr w S l) (hab : a ≤ b) (hb : b ≤ l.n) :
    Calls Try.prog 41 #[.slice l.p l.n l.c, .int .i64 (a : Int), .int .i64 (b : Int), .int .i64 i, .int .i64 t] w fun e w' => CpQ l.item a b i t e ∧ w' = w := by
  have hnn := hl.nn
  have H := hid hl
  clear hl
  go_enter Try.func41, Try.ntmps41
  go_wp2_with fail
  go_loopw [11, 12] (fun x y wr => ∃ (k : Nat) (z : Int), a ≤ k ∧ k ≤ b ∧ y = .int .i64 (k : Int) ∧ x = .int .i64 z ∧ CSeek l.item a i t k z ∧ wr = w) (fun _ y _ => b - (intOf y).toNat)
  case atStart => exact ⟨a, -1, Nat.le_refl _, hab, rfl, rfl, CSeek.start _ _ _ _, rfl⟩
  case round =>
    obtain ⟨k, z, hak, hk, rfl, rfl, hs, rfl⟩ := hrel
    have HS := hid hs
    clear hs
    by_cases hkb : k < b
    · have hlt : k < l.n := by omega
      have hlt' : (k : Int) < (l.n : Int) := by omega
      have hkb' : (k : Int) < (b : Int) := by omega
      obtain ⟨b1, o1, hp, _, hl1, ha⟩ := H.out.tr (by omega)
      obtain ⟨a0, a1, a2, a3⟩ := ha k hlt
      rw [hp]
      clear ha hp
      by_cases hc : (l.item k).cp i t
      · obtain ⟨h3, hi, ht⟩ := id hc
        have HC := hid hc
        rw [h3] at a0
        rw [hi] at a3
        rw [ht] at a1
        clear h3 hi ht hc
        by_cases hz : z < 0
        · go_wp2
          go_roundw
          case rel => exact ⟨k + 1, (k : Int), by omega, by omega, by go_num, rfl, HS.out.hit hak hz HC.out, by first | rfl | trivial⟩
          case measure => simp [intOf]; omega
        · go_wp2
          go_ret
          exact ⟨⟨-1, rfl, .inl ⟨rfl, HS.out.two (by omega) hak hkb HC.out⟩⟩, rfl⟩
      · have HC := hid hc
        by_cases h3 : (l.item k).kind = 3
        · by_cases hi : (l.item k).id = i
          · have ht : ¬ (l.item k).task = t := fun h => hc ⟨h3, hi, h⟩
            rw [h3] at a0
            rw [hi] at a3
            clear h3 hi hc
            go_wp2
            go_roundw
            case rel => exact ⟨k + 1, z, by omega, by omega, by go_num, rfl, HS.out.miss HC.out, by first | rfl | trivial⟩
            case measure => simp [intOf]; omega
          · rw [h3] at a0
            clear h3 hc
            go_wp2
            go_roundw
            case rel => exact ⟨k + 1, z, by omega, by omega, by go_num, rfl, HS.out.miss HC.out, by first | rfl | trivial⟩
            case measure => simp [intOf]; omega
        · clear hc
          go_wp2
          go_roundw
          case rel => exact ⟨k + 1, z, by omega, by omega, by go_num, rfl, HS.out.miss HC.out, by first | rfl | trivial⟩
          case measure => simp [intOf]; omega
    · obtain rfl : k = b := by omega
      go_wp2
      go_ret
      exact ⟨⟨z, rfl, HS.out.done⟩, rfl⟩
/-- the places of all tasks' copies -/
def CopsQ (f : Nat → TR) (a b : Nat) (i : Int) (T : Nat) (w : World) (e : Ending) (w' : World) : Prop := Below w.heap.size w w' ∧ ((∃ (m : Nat → Nat) (v : Value), e = .returned (.tuple #[v, .bool true]) ∧ InRow w.heap.size w' v ((List.range T).map fun k => (m k : Int)) ∧ ∀ k : Nat, k < T → OneCp f a b i (k : Int) (m k)) ∨ (¬ AllCp f a b i T ∧ e = .returned (.tuple #[.slice none 0 0, .bool false])))
set_option maxHeartbeats 8000000 in
theorem copies_any (l : LT TR) (a b : Nat) (i : Int) (T : Nat) (w : World) (S : Nat → Prop) (hl : LT.In elTr w S l) (hab : a ≤ b) (hb : b ≤ l.n) (hT : T ≤ 12) :
    Calls Try.prog 30 #[.slice l.p l.n l.c, .int .i64 (a : Int), .int .i64 (b : Int), .int .i64 i, .int .i64 (T : Int)] w fun e w' => CopsQ l.item a b i T w e w' := by
  have hnn := hl.nn
  have H := hid hl
  obtain ⟨i0, Kd⟩ := kindIn
  have HKd := hid Kd
  clear hl Kd
  go_enter Try.func30, Try.ntmps30
  go_wp2_with fail
  go_loopw [12, 13] (fun x y wr => ∃ (k : Nat) (m : Nat → Nat), k ≤ T ∧ y = .int .i64 (k : Int) ∧ InRow w.heap.size wr x ((List.range k).map fun k => (m k : Int)) ∧ (∀ q : Nat, q < k → OneCp l.item a b i (q : Int) (m q)) ∧ Below w.heap.size w wr) (fun _ y _ => T - (intOf y).toNat)
  case atStart => exact ⟨0, fun _ => 0, Nat.zero_le _, rfl, InRow.nil _ _, fun q hq => by omega, Below.refl _ _⟩
  case round =>
    obtain ⟨k, m, hk, rfl, hr, hm, hbl⟩ := hrel
    have HR := hid hr
    have HM := hid hm
    have HB := hid hbl
    obtain ⟨p0, c0, hv⟩ := ownsRow_slice hr
    have hlen : ((List.range k).map fun k => (m k : Int)).length = k := by simp
    rw [hlen] at hv
    have HV := hid hv
    clear hr hm hbl hlen hv
    by_cases hlt : k < T
    · have hlt' : (k : Int) < (T : Int) := by omega
      have HC := hid (copyAt_any l a b i (k : Int) wr S (H.out.below HB.out) hab hb)
      go_wp2_with fail
      refine HC.out.mono ?_
      rintro e w2 ⟨⟨x, rfl, hx⟩, rfl⟩
      rcases hx with ⟨rfl, hno⟩ | ⟨y, rfl, hy⟩
      · have HNo := hid hno
        clear hno HC
        go_wp2
        exact bodyPost_ret (v := .tuple #[.slice none 0 0, .bool false]) (by simp [results, Try.results30, go_sem]) rfl ⟨HB.out, .inr ⟨fun h => HNo.out (h k hlt), rfl⟩⟩
      · have HY := hid hy
        have hy0 : ¬ (y : Int) < 0 := by omega
        clear hy HC
        have hO : w2.ownsRow w.heap.size 3 1 u12 k (((List.range k).map fun k => (m k : Int)).flatMap elInt.cells) := by have := HR.out; unfold InRow at this; simpa using this
        have HO := hid hO
        have HNw : Hid (∀ j' u', [Value.int .i64 (y : Int)][j']? = some u' → (w2.alloc (.cells #[.int .i64 (y : Int)] 3)).cell? ((⟨w2.heap.size, 0, none⟩ : Addr).add j') = some u') := fun j' u' hu => by
          rw [Go.WideShapes.add_plain, (Box.new w2 #[.int .i64 (y : Int)] 3).cell]
          rw [show 0 + j' = j' by omega]
          simpa using hu
        have hsz : w.heap.size ≤ w2.heap.size := HB.out.size
        clear hO
        go_wp2_with (at_builtin; refine wpList_app rfl (.tmp 28) (.tmp 30) 23 3 i0 _ 1 8 HKd.out rfl w.heap.size u12 k _ rfl (HO.out.alloc _) ⟨w2.heap.size, 0, none⟩ 1 1 [.int .i64 (y : Int)] rfl rfl HNw.out (by simp [Value.oneCell']) (by omega) (by omega) (by simp; omega) ?_)
        intro v3 w3 ho3 hg3 hn3
        obtain ⟨pp, cc, rfl⟩ := ownsRow_slice ho3
        have HR3 : Hid (InRow w.heap.size w3 (.slice pp (k + 1) cc) ((List.range (k + 1)).map fun q => ((if q < k then m q else y : Nat) : Int))) := by
          have e1 : ((List.range (k + 1)).map fun q => ((if q < k then m q else y : Nat) : Int)) = ((List.range k).map fun q => (m q : Int)) ++ [(y : Int)] := by
            rw [List.range_succ, List.map_append]
            congr 1
            · apply List.map_congr_left
              intro q hq
              rw [if_pos (List.mem_range.1 hq)]
            · simp
          have e2 : ((List.range k).map fun q => (m q : Int)).length = k := by simp
          show InRow _ _ _ _
          rw [e1]
          exact InRow.push (by rw [e2]; exact ho3)
        have HB3 : Hid (Below w.heap.size w w3) := (HB.out.trans ((below1 _ _).mono HB.out.size)).grown hg3 (by simp; omega) (fun q hq => (HO.out.lt q hq).1)
        clear ho3 hg3 hn3 HO HNw
        go_wp2
        go_roundw
        case rel =>
          refine ⟨k + 1, fun q => if q < k then m q else y, by omega, by go_num, HR3.out, fun q hq => ?_, HB3.out⟩
          by_cases hqk : q < k
          · simp only [if_pos hqk]; exact HM.out q hqk
          · obtain rfl : q = k := by omega
            simp only [if_neg hqk]; exact HY.out
        case measure => simp [intOf]; omega
    · obtain rfl : k = T := by omega
      have hv := HV.out
      subst hv
      go_wp2
      exact bodyPost_ret (v := .tuple #[.slice p0 k c0, .bool true]) (by simp [results, Try.results30, go_sem]) rfl ⟨HB.out, .inl ⟨m, _, rfl, HR.out, HM.out⟩⟩
end Go.Proofs.Ytbkikbhodgjijaa
