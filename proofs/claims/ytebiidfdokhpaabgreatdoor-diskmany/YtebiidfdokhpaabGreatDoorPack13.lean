import Derived.Test.YtebiidfdokhpaabGreatDoorEbD
namespace Go.Proofs.YtebiidfdokhpaabGreatDoor
open Go.RowKit
set_option maxRecDepth 8000
set_option maxHeartbeats 4000000 in
theorem named_any (s : ByteArray) (w : World) (hmx : s.size ≤ 140737488355328) : Calls Tryz.prog 32 #[.string s] w fun e w' => e = .returned (.bool (nmB s)) ∧ w' = w := by
  by_cases h0 : s.size < 1
  · have h0' : (s.size : Int) < 1 := by omega
    have HNo : Hid (nmB s = false) := by show nmB s = false; simp [nmB]; omega
    go_enter Tryz.func32, Tryz.ntmps32
    go_wp2
    exact bodyPost_ret (v := .bool false) (by simp [results, Tryz.results32, go_sem]) rfl ⟨by rw [HNo.out], rfl⟩
  · have h0' : ¬ (s.size : Int) < 1 := by omega
    by_cases h1 : 12 < s.size
    · have h1' : (12 : Int) < (s.size : Int) := by omega
      have HNo : Hid (nmB s = false) := by show nmB s = false; simp [nmB]; omega
      go_enter Tryz.func32, Tryz.ntmps32
      go_wp2
      exact bodyPost_ret (v := .bool false) (by simp [results, Tryz.results32, go_sem]) rfl ⟨by rw [HNo.out], rfl⟩
    · have h1' : ¬ (12 : Int) < (s.size : Int) := by omega
      go_enter Tryz.func32, Tryz.ntmps32
      go_wp2_with fail
      go_loopw [3] (fun x wr => ∃ i : Nat, i ≤ s.size ∧ x = .int .i64 (i : Int) ∧ (∀ j (hj : j < s.size), j < i → okB (s[j]).toNat = true) ∧ wr = w) (fun x _ => s.size - (intOf x).toNat)
      case atStart => exact ⟨0, Nat.zero_le _, rfl, fun j hj h => absurd h (by omega), rfl⟩
      case round =>
        obtain ⟨i, hi, rfl, hok, rfl⟩ := hrel
        have HOk := hid hok
        clear hok
        by_cases hlt : i < s.size
        · have hlt' : (i : Int) < (s.size : Int) := by omega
          have hb := (s[i]).toNat_lt
          have HGo : okB (s[i]).toNat = true → Hid (∀ j (hj : j < s.size), j < i + 1 → okB (s[j]).toNat = true) := fun h j hj hji => by
            by_cases hj2 : j < i
            · exact HOk.out j hj hj2
            · obtain rfl : j = i := by omega
              exact h
          by_cases a1 : 97 ≤ (s[i]).toNat ∧ (s[i]).toNat ≤ 122
          · have a2 : (97 : Int) ≤ ((s[i]).toNat : Int) := by omega
            have a3 : ((s[i]).toNat : Int) ≤ 122 := by omega
            have a4 : (48 : Int) ≤ ((s[i]).toNat : Int) := by omega
            have a5 : ¬ ((s[i]).toNat : Int) ≤ 57 := by omega
            have HG := HGo (by simp [okB, a1.1, a1.2])
            clear HGo hb a1
            go_wp2
            go_roundw
            case rel => exact ⟨i + 1, by omega, by go_num, HG.out, by first | rfl | trivial⟩
            case measure => simp [intOf]; omega
          · by_cases b1 : 48 ≤ (s[i]).toNat ∧ (s[i]).toNat ≤ 57
            · have a2 : ¬ (97 : Int) ≤ ((s[i]).toNat : Int) := by omega
              have a4 : (48 : Int) ≤ ((s[i]).toNat : Int) := by omega
              have a5 : ((s[i]).toNat : Int) ≤ 57 := by omega
              have HG := HGo (by simp [okB, b1.1, b1.2])
              clear HGo hb a1 b1
              go_wp2
              go_roundw
              case rel => exact ⟨i + 1, by omega, by go_num, HG.out, by first | rfl | trivial⟩
              case measure => simp [intOf]; omega
            · by_cases c1 : 97 ≤ (s[i]).toNat
              · have a2 : (97 : Int) ≤ ((s[i]).toNat : Int) := by omega
                have a3 : ¬ ((s[i]).toNat : Int) ≤ 122 := by omega
                have a4 : (48 : Int) ≤ ((s[i]).toNat : Int) := by omega
                have a5 : ¬ ((s[i]).toNat : Int) ≤ 57 := by omega
                have a6 : (((s[i]).toNat : Int) == 45) = false := by simp; omega
                have hno : okB (s[i]).toNat = false := by simp [okB]; omega
                have HNo : Hid (nmB s = false) := by
                  show nmB s = false
                  cases h : nmB s with
                  | false => rfl
                  | true => have h2 := ((nmB_iff s).1 h).ok i hlt; rw [hno] at h2; cases h2
                clear HGo hb a1 b1 hno
                go_wp2
                exact bodyPost_ret (v := .bool false) (by simp [results, Tryz.results32, go_sem]) rfl ⟨by rw [HNo.out], rfl⟩
              · have a2 : ¬ (97 : Int) ≤ ((s[i]).toNat : Int) := by omega
                by_cases c2 : 48 ≤ (s[i]).toNat
                · have a4 : (48 : Int) ≤ ((s[i]).toNat : Int) := by omega
                  have a5 : ¬ ((s[i]).toNat : Int) ≤ 57 := by omega
                  have a6 : (((s[i]).toNat : Int) == 45) = false := by simp; omega
                  have hno : okB (s[i]).toNat = false := by simp [okB]; omega
                  have HNo : Hid (nmB s = false) := by
                    show nmB s = false
                    cases h : nmB s with
                    | false => rfl
                    | true => have h2 := ((nmB_iff s).1 h).ok i hlt; rw [hno] at h2; cases h2
                  clear HGo hb a1 b1 hno
                  go_wp2
                  exact bodyPost_ret (v := .bool false) (by simp [results, Tryz.results32, go_sem]) rfl ⟨by rw [HNo.out], rfl⟩
                · have a4 : ¬ (48 : Int) ≤ ((s[i]).toNat : Int) := by omega
                  by_cases c3 : (s[i]).toNat = 45
                  · have a6 : (((s[i]).toNat : Int) == 45) = true := by simp; omega
                    have HG := HGo (by simp [okB, c3])
                    clear HGo hb a1 b1
                    go_wp2
                    go_roundw
                    case rel => exact ⟨i + 1, by omega, by go_num, HG.out, by first | rfl | trivial⟩
                    case measure => simp [intOf]; omega
                  · have a6 : (((s[i]).toNat : Int) == 45) = false := by simp; omega
                    have hno : okB (s[i]).toNat = false := by simp [okB]; omega
                    have HNo : Hid (nmB s = false) := by
                      show nmB s = false
                      cases h : nmB s with
                      | false => rfl
                      | true => have h2 := ((nmB_iff s).1 h).ok i hlt; rw [hno] at h2; cases h2
                    clear HGo hb a1 b1 hno
                    go_wp2
                    exact bodyPost_ret (v := .bool false) (by simp [results, Tryz.results32, go_sem]) rfl ⟨by rw [HNo.out], rfl⟩
        · have hlt' : ¬ (i : Int) < (s.size : Int) := by omega
          have HYes : Hid (nmB s = true) := (nmB_iff s).2 ⟨by omega, by omega, fun j hj => HOk.out j hj (by omega)⟩
          go_wp2
          exact bodyPost_ret (v := .bool true) (by simp [results, Tryz.results32, go_sem]) rfl ⟨by rw [HYes.out], rfl⟩
end Go.Proofs.YtebiidfdokhpaabGreatDoor

namespace Go.Proofs.YtebiidfdokhpaabGreatDoor
open Go.RowKit
set_option maxRecDepth 8000
set_option maxHeartbeats 4000000 in
/-- the reference's fresh -/
theorem rfresh_any (p : Option Addr) (n c lo hi : Nat) (f : Nat → Int) (w : World) (S : Nat → Prop) (hb : Byts w S p n c f) (h1 : lo ≤ hi) (h2 : hi ≤ n) (hn : n ≤ 65536) :
    Calls Tryz.prog 24 #[.slice p n c, .int .i64 (lo : Int), .int .i64 (hi : Int)] w fun e w' => ∃ (p' : Option Addr) (c' : Nat), e = .returned (.slice p' (hi - lo) c') ∧ OwnBy w.heap.size w' (.slice p' (hi - lo) c') ((List.range (hi - lo)).map fun j => f (lo + j)) ∧ Below w.heap.size w w' := by
  obtain ⟨i0, Kd⟩ := kindB
  have HKd := hid Kd
  have HBy := hid hb
  clear hb Kd
  go_enter Tryz.func24, Tryz.ntmps24
  go_wp2_with fail
  go_loopw [7, 8] (fun v x wr => ∃ k : Nat, k ≤ hi - lo ∧ x = .int .i64 ((lo + k : Nat) : Int) ∧ OwnBy w.heap.size wr v ((List.range k).map fun j => f (lo + j)) ∧ Below w.heap.size w wr) (fun _ x _ => hi - (intOf x).toNat)
  case atStart => exact ⟨0, Nat.zero_le _, by simp, World.ownsRow_nil _ _ _ _, Below.refl _ _⟩
  case round =>
    obtain ⟨k, hk, rfl, hO, hbel⟩ := hrel
    have HO := hid hO
    have HB := hid hbel
    clear hO hbel
    by_cases hlt : lo + k < hi
    · have hlt' : (lo : Int) + (k : Int) < (hi : Int) := by omega
      have hltn : (lo : Int) + (k : Int) < (n : Int) := by omega
      obtain ⟨bb, o, hp, _, hbb, hat⟩ := HBy.out.at_ (by omega)
      subst hp
      have c0 : wr.cell? ⟨bb, o + (lo + k), none⟩ = some (.int .u8 (f (lo + k))) := (World.cell?_of_block (a := ⟨bb, o + (lo + k), none⟩) (HB.out.block bb hbb)).trans (hat (lo + k) (by omega))
      have hal : Below wr.heap.size wr (wr.alloc (.cells #[.int .u8 (f (lo + k))] 5)) := (Below.refl _ _).alloc (Nat.le_refl _) _
      have hO2 : (wr.alloc (.cells #[.int .u8 (f (lo + k))] 5)).ownsRow w.heap.size 5 1 u7 k (((List.range k).map fun j => f (lo + j)).map (Value.int .u8)) := by
        have h := HO.out
        unfold OwnBy at h
        simp only [List.length_map, List.length_range] at h
        exact ownsRow_keep h fun g _ hl => hal.block g hl
      have hnw : ∀ j u', [Value.int .u8 (f (lo + k))][j]? = some u' → (wr.alloc (.cells #[.int .u8 (f (lo + k))] 5)).cell? ((⟨wr.heap.size, 0, none⟩ : Addr).add j) = some u' := fun j u' hu => by
        rw [Go.WideShapes.add_plain, (Box.new wr #[.int .u8 (f (lo + k))] 5).cell]
        rw [show 0 + j = j by omega]
        simpa using hu
      have HAl := hid (And.intro hal (And.intro hO2 hnw))
      have hsz := HB.out.size
      clear hal hO2 hnw hat
      go_wp2_with (at_builtin; refine wpList_app rfl (.tmp 15) (.tmp 20) 31 5 i0 _ 1 1 HKd.out rfl w.heap.size u7 k _ rfl HAl.out.2.1 ⟨wr.heap.size, 0, none⟩ 1 1 [.int .u8 (f (lo + k))] rfl rfl HAl.out.2.2 (fun u hu => by obtain rfl := List.mem_singleton.1 hu; rfl) (by omega) (by omega) (by simp; omega) ?_)
      intro v' w' ho hg hn'
      have HO3 : Hid (OwnBy w.heap.size w' v' ((List.range (k + 1)).map fun j => f (lo + j))) := by
        show World.ownsRow _ _ _ _ _ _ _
        rw [List.range_succ]
        simpa using ho
      have HB3 : Hid (Below w.heap.size w w') := (HB.out.trans (HAl.out.1.mono HB.out.size)).grown hg (by simp; omega) (fun g hg2 => (HAl.out.2.1.lt g hg2).1)
      clear ho hg hn' HAl
      go_wp2
      go_roundw
      case rel => exact ⟨k + 1, by omega, by go_num, HO3.out, HB3.out⟩
      case measure => simp [intOf]; omega
    · have hlt' : ¬ (lo : Int) + (k : Int) < (hi : Int) := by omega
      obtain rfl : k = hi - lo := by omega
      obtain ⟨p', c', hv⟩ := ownsRow_slice HO.out
      simp only [List.length_map, List.length_range] at hv
      subst hv
      go_wp2
      exact bodyPost_ret (v := .slice p' (hi - lo) c') (by simp [results, Tryz.results24, go_sem]) rfl ⟨p', c', rfl, HO.out, HB.out⟩
end Go.Proofs.YtebiidfdokhpaabGreatDoor

namespace Go.Proofs.YtebiidfdokhpaabGreatDoor
open Go.RowKit
set_option maxRecDepth 8000
/-- a file of the reference's disk -/
structure RO where
  name : ByteArray
  sp : Option Addr
  sn : Nat
  sc : Nat
  sf : Nat → Int
  lp : Option Addr
  ln : Nat
  lc : Nat
  lf : Nat → Int
def RO.zs (o : RO) : List Int := (List.range o.sn).map o.sf ++ (List.range o.ln).map o.lf
def RO.key (o : RO) : ByteArray × List Int × Int := (o.name, o.zs, (o.sn : Int))
def elO : El RO where
  ty := 77
  size := 3
  cells := fun d => [.string d.name, .slice d.sp d.sn d.sc, .slice d.lp d.ln d.lc]
  len := fun _ => rfl
  one := fun x u hu => by
    simp only [List.mem_cons, List.not_mem_nil, or_false] at hu
    rcases hu with rfl | rfl | rfl <;> rfl
  In := fun w S d => d.name.size ≤ 140737488355328 ∧ Byts w S d.sp d.sn d.sc d.sf ∧ Byts w S d.lp d.ln d.lc d.lf ∧ d.sn + d.ln ≤ 65536
  kept := fun h hs hb => ⟨h.1, h.2.1.kept hs hb, h.2.2.1.kept hs hb, h.2.2.2⟩
  mono := fun h hb => ⟨h.1, h.2.1.mono hb, h.2.2.1.mono hb, h.2.2.2⟩
theorem kindO : ∃ i, Kind 73 77 i (.agg #[.string ⟨#[]⟩, .slice none 0 0, .slice none 0 0]) 3 64 := by
  obtain ⟨i0, hi, hz0, hz1, hz2⟩ := info_parts (show (Tryz.prog.info? 77).map (fun i => (i.zero, i.size, i.bytes)) = some (some (.agg #[.string ⟨#[]⟩, .slice none 0 0, .slice none 0 0]), 3, 64) by kernel_rfl)
  exact ⟨i0, Tryz.underlying73, hi, hz0, hz1, hz2, rfl, by decide⟩
theorem streq (a b : ByteArray) : (a.toList == b.toList) = decide (a = b) := by
  rw [ByteArray.toList_eq, ByteArray.toList_eq]
  by_cases h : a = b
  · subst h; simp
  · have : a.data ≠ b.data := fun e => h (ByteArray.ext e)
    simp [h, this]
/-- is there a file of this name? -/
def hasN (A : LT RO) (s : ByteArray) : Bool := (List.range A.n).any fun j => decide ((A.item j).name = s)
set_option maxHeartbeats 4000000 in
theorem rfind_any (A : LT RO) (s : ByteArray) (w : World) (S : Nat → Prop) (rb : Nat) (hr : w.cell? ⟨rb, 0, none⟩ = some (.slice A.p A.n A.c)) (hA : LT.In elO w S A) :
    Calls Tryz.prog 28 #[.pointer (some ⟨rb, 0, none⟩), .string s] w fun e w' => ∃ r : Int, e = .returned (.int .i64 r) ∧ w' = w ∧ (hasN A s = true → 0 ≤ r) ∧ (hasN A s = false → r = -1) := by
  have HA := hid hA
  have hnn := hA.nn
  clear hA
  go_enter Tryz.func28, Tryz.ntmps28
  go_wp2_with fail
  go_loopw [5] (fun x wr => ∃ i : Nat, i ≤ A.n ∧ x = .int .i64 (i : Int) ∧ (∀ j, j < i → (A.item j).name ≠ s) ∧ wr = w) (fun x _ => A.n - (intOf x).toNat)
  case atStart => exact ⟨0, Nat.zero_le _, rfl, fun j hj => absurd hj (by omega), rfl⟩
  case round =>
    obtain ⟨i, hi, rfl, hno, rfl⟩ := hrel
    have HNo := hid hno
    clear hno
    by_cases hlt : i < A.n
    · have hlt' : (i : Int) < (A.n : Int) := by omega
      obtain ⟨bb, o, hp, _, hbb, hat⟩ := HA.out.at_ (by omega)
      rw [hp] at hr
      have c0 : wr.cell? ⟨bb, o + i * 3, none⟩ = some (.string (A.item i).name) := hat i hlt 0 _ rfl
      clear hat
      by_cases he : (A.item i).name = s
      · have hs : ((A.item i).name.toList == s.toList) = true := by rw [streq]; simpa using he
        have HY : Hid (hasN A s = true) := by
          show hasN A s = true
          exact List.any_eq_true.2 ⟨i, List.mem_range.2 hlt, by simpa using he⟩
        clear he
        go_wp2
        exact bodyPost_ret (v := .int .i64 (i : Int)) (by simp [results, Tryz.results28, go_sem]) rfl ⟨i, rfl, rfl, fun _ => by omega, (fun h => by rw [HY.out] at h; cases h)⟩
      · have hs : ((A.item i).name.toList == s.toList) = false := by rw [streq]; simpa using he
        have HN2 : Hid (∀ j, j < i + 1 → (A.item j).name ≠ s) := fun j hj => by
          by_cases hji : j < i
          · exact HNo.out j hji
          · obtain rfl : j = i := by omega
            exact he
        clear he
        go_wp2
        go_roundw
        case rel => exact ⟨i + 1, by omega, by go_num, HN2.out, by first | rfl | trivial⟩
        case measure => simp [intOf]; omega
    · have hlt' : ¬ (i : Int) < (A.n : Int) := by omega
      have HY : Hid (hasN A s = false) := by
        show hasN A s = false
        rw [hasN, List.any_eq_false]
        intro j hj
        simpa using HNo.out j (by have := List.mem_range.1 hj; omega)
      go_wp2
      exact bodyPost_ret (v := .int .i64 (-1)) (by simp [results, Tryz.results28, go_sem]) rfl ⟨-1, rfl, rfl, (fun h => by rw [HY.out] at h; cases h), fun _ => rfl⟩
end Go.Proofs.YtebiidfdokhpaabGreatDoor
