import Derived.Test.YtieknmpdmdbdlaaGreatDoorExF
import Derived.Test.YtieknmpdmdbdlaaGreatDoorStepX
import Derived.Deep.RegionLaw
namespace Go.Proofs.YtieknmpdmdbdlaaGreatDoor
open Go.RowKit
set_option maxRecDepth 8000

/-- a list begins with a sign of one byte -/
structure One (l : List UInt8) (c : UInt8) : Prop where
  hd : l.head? = some c
  h1 : (leB.data.toList.isPrefixOf l) = false
  h2 : (geB.data.toList.isPrefixOf l) = false
  h3 : (eqB.data.toList.isPrefixOf l) = false
  h4 : (neB.data.toList.isPrefixOf l) = false
  hi : 0 ≤ Lib.indexByte signS.data.toList c
theorem preB_of {r q : ByteArray} (h : q.data.toList.isPrefixOf r.data.toList = false) : preB r q = false := by
  cases hp : preB r q with
  | false => rfl
  | true =>
    unfold preB at hp
    simp only [Bool.and_eq_true, decide_eq_true_eq, beq_iff_eq] at hp
    have h2 : q.data.toList.isPrefixOf r.data.toList = true := by
      rw [List.isPrefixOf_iff_prefix, ← hp.2]
      exact List.take_prefix _ _
    exact absurd (h2.symm.trans h) (by decide)
theorem sign_size (r : ByteArray) (c : UInt8) (w : World) (h : One r.data.toList c) : Calls Tryz.prog 42 #[.string r] w fun e w' => Below w.heap.size w w' ∧ e = .returned (.int .i64 1) := by
  obtain ⟨t, ht⟩ : ∃ t, r.data.toList = c :: t := by
    have := h.hd
    cases hl : r.data.toList with
    | nil => rw [hl] at this; cases this
    | cons x t => rw [hl] at this; cases this; exact ⟨t, rfl⟩
  exact signSize_one r c t w ht h.hi (preB_of h.h1) (preB_of h.h2) (preB_of h.h3) (preB_of h.h4) (by rw [Lib.size_eq, ht]; simp)

theorem sign_any (pb : Nat) (s : ByteArray) (a : Nat) (c : UInt8) (w : World) (h : Sc w pb s a) (ha : a + 1 ≤ s.size) (hs : s.size ≤ 1000) (ho : One (s.data.toList.drop a) c) :
    Calls Tryz.prog 30 #[.pointer (some ⟨pb, 0, none⟩)] w fun e w' => Nx pb w w' (a + 1) ∧ e = .returned (nameT a ((tl s a).extract 0 1)) := by
  have HR := hid (rest_any pb s a)
  have HC := hid (cut_any pb s a 1)
  rw [← tl_list] at ho
  have HS := hid (fun w => sign_size (tl s a) c w ho)
  have H := hid h
  have c1 := h.c1
  clear h ho
  generalize tl s a = r at *
  unfold nameT
  have c1' := cell_al c1
  go_enter Tryz.func30, Tryz.ntmps30
  go_wp2_with fail
  have HZ0 := hid (Zt.new w)
  have HB0 := hid ((Below.refl w.heap.size w).alloc (Nat.le_refl _) (.cells #[.int .i64 0, .int .i64 0, .string ⟨#[]⟩, .int .i64 0, .int .i64 0, .string ⟨#[]⟩, .slice none 0 0] 53))
  have HP := hid (show pb < w.heap.size from cell_lt c1)
  generalize w.alloc (.cells #[.int .i64 0, .int .i64 0, .string ⟨#[]⟩, .int .i64 0, .int .i64 0, .string ⟨#[]⟩, .slice none 0 0] 53) = w0 at *
  have H0 := hid (H.out.on HB0.out)
  have N0 := hid (Nx.of_below H.out HB0.out)
  clear c1 c1'
  refine (HR.out w0 H0.out (by omega)).mono ?_
  rintro e w1 ⟨hb1, rfl⟩
  have H1 := hid (H0.out.on hb1)
  have N1 := hid (N0.out.trans (Nx.of_below H0.out hb1))
  have Z1 := hid (HZ0.out.below hb1)
  clear hb1
  go_wp2_with fail
  refine (HS.out w1).mono ?_
  rintro e w2 ⟨hb2, rfl⟩
  have H2 := hid (H1.out.on hb2)
  have N2 := hid (N1.out.trans (Nx.of_below H1.out hb2))
  have Z2 := hid (Z1.out.below hb2)
  clear hb2
  go_wp2_with fail
  refine (HC.out w2 H2.out ha hs).mono ?_
  rintro e w3 ⟨hn3, rfl⟩
  have N3 := hid (N2.out.trans hn3)
  have Z3 := hid (Z2.out.only hn3.only (by have := HP.out; omega))
  clear hn3
  obtain ⟨z0, z1, z2, z3, z4, z5, z6, zf⟩ := Z3.out
  generalize hq : w.heap.size = tb at *
  go_wp2
  refine bodyPost_ret (v := nameT a (r.extract 0 1)) (by simp [results, Tryz.results30, go_sem, nameT, z0, z1, z2, z3, z4, z5, z6]) rfl ⟨?_, rfl⟩
  have ht : w.heap.size ≤ tb := by omega
  have hp : pb < w.heap.size := by have := HP.out; omega
  exact ((((((N3.out.new ht hp _ _).new ht hp _ _).new ht hp _ _).new ht hp _ _).new ht hp _ _).new ht hp _ _).new ht hp _ _

end Go.Proofs.YtieknmpdmdbdlaaGreatDoor
