import Derived.Test.YtieknmpdmdbdlaaGreatDoorExM
namespace Go.Proofs.YtieknmpdmdbdlaaGreatDoor
open Go.RowKit
set_option maxRecDepth 8000

def joinN (lv : Int) (nm : ByteArray) (l r : Value) : Value := .iface 86 (.agg #[.int .i64 lv, .string nm, l, r])
/-- the names of signs in a slice are gone through without one that is ahead -/
def Misses (pb : Nat) (s : ByteArray) (u : St) (nv : Value) (w : World) : Prop :=
  ∀ w1, Only pb w w1 → At w1 pb s u → Calls Tryz.prog 20 #[.pointer (some ⟨pb, 0, none⟩), nv] w1 fun e w' => Below w1.heap.size w1 w' ∧ e = .returned (.string ⟨#[]⟩)
def Hits (pb : Nat) (s : ByteArray) (u v : St) (nv : Value) (nm : ByteArray) (w : World) : Prop :=
  ∀ w1, Only pb w w1 → At w1 pb s u → Calls Tryz.prog 20 #[.pointer (some ⟨pb, 0, none⟩), nv] w1 fun e w' => Only pb w1 w' ∧ At w' pb s v ∧ e = .returned (.string nm)

theorem chain_one (pb : Nat) (s : ByteArray) (t u : St) (lv : Int) (f : Nat) (b : Option Addr) (l c : Nat) (n : Value) (w : World) (hk : Enters f) (HS : Gives f pb s t u n) (h : At w pb s t) (hm : Misses pb s u (.slice b l c) w) :
    Calls Tryz.prog 31 #[.pointer (some ⟨pb, 0, none⟩), .int .i64 lv, .func (.func f) #[.pointer (some ⟨pb, 0, none⟩)] #[], .slice b l c] w fun e w' => Only pb w w' ∧ At w' pb s u ∧ e = .returned n := by
  have HH := hid HS
  have H := hid h
  have HM := hid hm
  clear h hm HS
  unfold Enters at hk
  go_enter Tryz.func31, Tryz.ntmps31
  go_wp2_with fail
  refine (HH.out _ H.out).mono ?_
  rintro e w1 ⟨ho, hp, rfl⟩
  have HO := hid ho
  have HP := hid hp
  clear ho hp
  go_wp2_with fail
  refine wp_loop_rounds 1 ?_
  rw [rounds_succ]
  go_wp2_with fail
  refine (HM.out w1 HO.out HP.out).mono ?_
  rintro e w2 ⟨hb, rfl⟩
  go_wp2_with fail
  go_ret
  exact ⟨HO.out.trans (.of_below hb), HP.out.on hb, rfl⟩

theorem chain_two (pb : Nat) (s : ByteArray) (t u v x : St) (lv : Int) (f : Nat) (b : Option Addr) (l c : Nat) (n1 m1 : TypeId) (n2 m2 : Value) (nm : ByteArray) (w : World) (hk : Enters f) (HS : Gives f pb s t u (.iface n1 n2)) (HS2 : Gives f pb s v x (.iface m1 m2)) (h : At w pb s t)
    (hh : Hits pb s u v (.slice b l c) nm w) (hm : Misses pb s x (.slice b l c) w) (hnm : (nm.toList == []) = false) :
    Calls Tryz.prog 31 #[.pointer (some ⟨pb, 0, none⟩), .int .i64 lv, .func (.func f) #[.pointer (some ⟨pb, 0, none⟩)] #[], .slice b l c] w fun e w' => Only pb w w' ∧ At w' pb s x ∧ e = .returned (joinN lv nm (.iface n1 n2) (.iface m1 m2)) := by
  have HH := hid HS
  have HH2 := hid HS2
  have H := hid h
  have HM := hid hm
  have HI := hid hh
  clear h hm HS HS2 hh
  unfold Enters at hk
  go_enter Tryz.func31, Tryz.ntmps31
  go_wp2_with fail
  refine (HH.out _ H.out).mono ?_
  rintro e w1 ⟨ho, hp, rfl⟩
  have HO := hid ho
  have HP := hid hp
  clear ho hp
  go_wp2_with fail
  refine wp_loop_rounds 2 ?_
  rw [rounds_succ]
  go_wp2_with fail
  refine (HI.out w1 HO.out HP.out).mono ?_
  rintro e w2 ⟨ho2, hp2, rfl⟩
  have HO2 := hid (HO.out.trans ho2)
  have HP2 := hid hp2
  clear ho2 hp2
  go_wp2_with fail
  refine (HH2.out w2 HP2.out).mono ?_
  rintro e w3 ⟨ho3, hp3, rfl⟩
  have HO3 := hid (HO2.out.trans ho3)
  have HP3 := hid hp3
  clear ho3 hp3
  go_wp2_with fail
  rw [rounds_succ]
  go_wp2_with fail
  refine (HM.out w3 HO3.out HP3.out).mono ?_
  rintro e w4 ⟨hb, rfl⟩
  go_wp2_with fail
  go_ret
  exact ⟨HO3.out.trans (.of_below hb), HP3.out.on hb, rfl⟩
end Go.Proofs.YtieknmpdmdbdlaaGreatDoor
