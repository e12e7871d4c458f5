import Derived.Test.YtieknmpdmdbdlaaGreatDoorExH
namespace Go.Proofs.YtieknmpdmdbdlaaGreatDoor
open Go.RowKit
set_option maxRecDepth 8000

/-- a sign of one byte begins here -/
theorem next_sign (pb : Nat) (s : ByteArray) (a : Nat) (c : UInt8) (w : World) (h : Sc w pb s a) (ha : a + 1 ≤ s.size) (hs : s.size ≤ 1000) (ho : One (s.data.toList.drop a) c) (hc : c ≠ 34)
    (hb : leadL blankS.data.toList (s.data.toList.drop a) = 0) (hd : leadL digitS.data.toList (s.data.toList.drop a) = 0) (hn : leadL letterS.data.toList (s.data.toList.drop a) = 0) :
    Calls Tryz.prog 19 #[.pointer (some ⟨pb, 0, none⟩)] w fun e w' => Nx pb w w' (a + 1) ∧ e = .returned (nameT a ((tl s a).extract 0 1)) := by
  have HN := hid (fun w h => sign_any pb s a c w h ha hs ho)
  rw [← tl_list] at hn hb hd ho
  have HR := hid (rest_any pb s a)
  have S1 := hid (span_any (tl s a) blankS)
  have S2 := hid (span_any (tl s a) digitS)
  have S3 := hid (span_any (tl s a) letterS)
  rw [hb] at S1
  rw [hd] at S2
  rw [hn] at S3
  obtain ⟨t, ht⟩ : ∃ t, (tl s a).data.toList = c :: t := by
    have := ho.hd
    cases hl : (tl s a).data.toList with
    | nil => rw [hl] at this; cases this
    | cons x t => rw [hl] at this; cases this; exact ⟨t, rfl⟩
  have HE : Hid (((tl s a).toList == []) = false) := nonempty_of ht
  have h0 : 0 < (tl s a).size := by rw [Lib.size_eq, ht]; simp
  have hg := get_head ht h0
  have hc' : ¬ ((c.toNat : Int) = 34) := by
    intro h
    exact hc (UInt8.toNat_inj.1 (by show c.toNat = 34; omega))
  have hz := tl_size s a
  have H := hid h
  have c1 := h.c1
  clear h hn hb hd ho ht hc
  generalize tl s a = r at *
  go_enter Tryz.func19, Tryz.ntmps19
  go_wp2_with fail
  have HZ0 := hid (Zt.new w)
  have HB0 := hid ((Below.refl w.heap.size w).alloc (Nat.le_refl _) (.cells #[.int .i64 0, .int .i64 0, .string ⟨#[]⟩, .int .i64 0, .int .i64 0, .string ⟨#[]⟩, .slice none 0 0] 53))
  have HP := hid (show pb < w.heap.size from cell_lt c1)
  generalize w.alloc (.cells #[.int .i64 0, .int .i64 0, .string ⟨#[]⟩, .int .i64 0, .int .i64 0, .string ⟨#[]⟩, .slice none 0 0] 53) = w0 at *
  have H0 := hid (H.out.on HB0.out)
  have N0 := hid (Nx.of_below H.out HB0.out)
  clear c1
  have c1 := H0.out.c1
  generalize hq : w.heap.size = tb at *
  have hw : IntKind.i64.wrap (a : Int) = (a : Int) := by rw [IntKind.wrap_i64]; omega
  go_region_law (first
                 | (refine step_call rfl 26 #[.tmp 8] _ rfl Tryz.f26 Tryz.func26 (by kernel_rfl) rfl #[.pointer (some ⟨pb, 0, none⟩)] rfl _ (HR.out _ ⟨H0.out.c0, H0.out.c1, H0.out.f1⟩ (by omega)) ?_
                    rintro e w1 ⟨hb1', rfl⟩
                    refine ⟨_, rfl, ?_⟩
                    have hb1 : Below w0.heap.size w0 w1 := ⟨hb1'.os, hb1'.tape, hb1'.output, hb1'.size, hb1'.block⟩
                    have y1 := (H0.out.on hb1).c1)
                 | (refine step_call rfl 25 #[.tmp 9, .const (.string ⟨#[32]⟩)] _ rfl Tryz.f25 Tryz.func25 (by kernel_rfl) rfl #[.string r, .string ⟨#[32]⟩] rfl _ (S1.out _ (by omega) (by decide) (by decide)) ?_
                    rintro e w2 ⟨rfl, hb2'⟩
                    refine ⟨_, rfl, ?_⟩
                    have hb2 : Below w0.heap.size w0 w2 := hb1.trans ((⟨hb2'.os, hb2'.tape, hb2'.output, hb2'.size, hb2'.block⟩ : Below w1.heap.size w1 w2).mono hb1.size)
                    have u1 := (H0.out.on hb2).c1
                    have g1 := (H0.out.on hb2).f1))
  all_goals
    clear hw
    have N3 := hid ((N0.out.trans (Nx.of_below H0.out hb2)).trans (Nx.set (H0.out.on hb2) a))
    have Z3 := hid ((HZ0.out.below hb2).only ((Only.refl pb w2).setCell 1 (.int .i64 (a : Int))) (by have := HP.out; omega))
    have H3 := hid (N3.out.sc H.out)
    generalize w2.setCell ⟨pb, 1, none⟩ (.int .i64 (a : Int)) = w3 at *
    clear hb1 hb1' hb2 hb2' y1 u1 g1 c1
    go_wp2_with fail
    refine (HR.out w3 H3.out (by omega)).mono ?_
    rintro e w4 ⟨hb4, rfl⟩
    have N4 := hid (N3.out.trans (Nx.of_below H3.out hb4))
    have Z4 := hid (Z3.out.below hb4)
    have H4 := hid (H3.out.on hb4)
    clear hb4
    have e0 : (r.toList == []) = false := HE.out
    go_wp2_with fail
    refine (S2.out w4 (by omega) (by decide) (by decide)).mono ?_
    rintro e w5 ⟨rfl, hb5⟩
    have N5 := hid (N4.out.trans (Nx.of_below H4.out hb5))
    have Z5 := hid (Z4.out.below hb5)
    have H5 := hid (H4.out.on hb5)
    clear hb5
    go_wp2_with fail
    refine (S3.out w5 (by omega) (by decide) (by decide)).mono ?_
    rintro e w6 ⟨rfl, hb6⟩
    have N6 := hid (N5.out.trans (Nx.of_below H5.out hb6))
    have Z6 := hid (Z5.out.below hb6)
    have H6 := hid (H5.out.on hb6)
    clear hb6
    go_wp2_with fail
    refine (HN.out w6 H6.out).mono ?_
    rintro e w7 ⟨hn7, rfl⟩
    have N7 := hid (N6.out.trans hn7)
    have Z7 := hid (Z6.out.only hn7.only (by have := HP.out; omega))
    clear hn7
    unfold nameT
    obtain ⟨z0, z1, z2, z3, z4, z5, z6, zf⟩ := Z7.out
    go_wp2
    refine bodyPost_ret (v := nameT a (r.extract 0 1)) (by simp [results, Tryz.results19, go_sem, nameT, z0, z1, z2, z3, z4, z5, z6]) rfl ⟨?_, rfl⟩
    have ht : w.heap.size ≤ tb := by omega
    have hp : pb < w.heap.size := by have := HP.out; omega
    exact ((((((N7.out.new ht hp _ _).new ht hp _ _).new ht hp _ _).new ht hp _ _).new ht hp _ _).new ht hp _ _).new ht hp _ _
end Go.Proofs.YtieknmpdmdbdlaaGreatDoor
