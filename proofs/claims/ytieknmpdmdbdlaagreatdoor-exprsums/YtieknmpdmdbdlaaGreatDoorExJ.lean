import Derived.Test.YtieknmpdmdbdlaaGreatDoorExG
namespace Go.Proofs.YtieknmpdmdbdlaaGreatDoor
open Go.RowKit
set_option maxRecDepth 8000

/-- the text ends here -/
theorem next_end (pb : Nat) (s : ByteArray) (w : World) (h : Sc w pb s s.size) (hs : s.size ≤ 1000) :
    Calls Tryz.prog 19 #[.pointer (some ⟨pb, 0, none⟩)] w fun e w' => Nx pb w w' s.size ∧ e = .returned (endT s.size) := by
  generalize ha' : s.size = a at *
  have ha : a ≤ s.size := by omega
  have HR := hid (rest_any pb s a)
  have S1 := hid (span_any (tl s a) blankS)
  have hl : (tl s a).data.toList = [] := by rw [tl_list, List.drop_eq_nil_of_le (by rw [← Lib.size_eq]; omega)]
  rw [hl, show leadL blankS.data.toList [] = 0 from rfl] at S1
  have HE : Hid (((tl s a).toList == []) = true) := by
    show ((tl s a).toList == []) = true
    rw [Lib.toList_data, hl]
    rfl
  have hz := tl_size s a
  have H := hid h
  have c1 := h.c1
  clear h hl
  generalize tl s a = r at *
  go_enter Tryz.func19, Tryz.ntmps19
  go_wp2_with fail
  have HZ0 := hid (Zt.new w)
  have HB0 := hid ((Below.refl w.heap.size w).alloc (Nat.le_refl _) (.cells #[.int .i64 0, .int .i64 0, .string ⟨#[]⟩, .int .i64 0, .int .i64 0, .string ⟨#[]⟩, .slice none 0 0] 53))
  have HP := hid (show pb < w.heap.size from cell_lt c1)
  generalize w.alloc (.cells #[.int .i64 0, .int .i64 0, .string ⟨#[]⟩, .int .i64 0, .int .i64 0, .string ⟨#[]⟩, .slice none 0 0] 53) = w0 at *
  have H0 := hid (H.out.on HB0.out)
  have N0 := hid (Nx.of_below H.out HB0.out)
  clear c1
  have c1 := H0.out.c1
  generalize hq : w.heap.size = tb at *
  have hw : IntKind.i64.wrap (a : Int) = (a : Int) := by rw [IntKind.wrap_i64]; omega
  go_region_law (first
                 | (refine step_call rfl 26 #[.tmp 8] _ rfl Tryz.f26 Tryz.func26 (by kernel_rfl) rfl #[.pointer (some ⟨pb, 0, none⟩)] rfl _ (HR.out _ ⟨H0.out.c0, H0.out.c1, H0.out.f1⟩ (by omega)) ?_
                    rintro e w1 ⟨hb1', rfl⟩
                    refine ⟨_, rfl, ?_⟩
                    have hb1 : Below w0.heap.size w0 w1 := ⟨hb1'.os, hb1'.tape, hb1'.output, hb1'.size, hb1'.block⟩
                    have y1 := (H0.out.on hb1).c1)
                 | (refine step_call rfl 25 #[.tmp 9, .const (.string ⟨#[32]⟩)] _ rfl Tryz.f25 Tryz.func25 (by kernel_rfl) rfl #[.string r, .string ⟨#[32]⟩] rfl _ (S1.out _ (by omega) (by decide) (by decide)) ?_
                    rintro e w2 ⟨rfl, hb2'⟩
                    refine ⟨_, rfl, ?_⟩
                    have hb2 : Below w0.heap.size w0 w2 := hb1.trans ((⟨hb2'.os, hb2'.tape, hb2'.output, hb2'.size, hb2'.block⟩ : Below w1.heap.size w1 w2).mono hb1.size)
                    have u1 := (H0.out.on hb2).c1
                    have g1 := (H0.out.on hb2).f1))
  all_goals
    clear hw
    have N3 := hid ((N0.out.trans (Nx.of_below H0.out hb2)).trans (Nx.set (H0.out.on hb2) a))
    have Z3 := hid ((HZ0.out.below hb2).only ((Only.refl pb w2).setCell 1 (.int .i64 (a : Int))) (by have := HP.out; omega))
    have H3 := hid (N3.out.sc H.out)
    generalize w2.setCell ⟨pb, 1, none⟩ (.int .i64 (a : Int)) = w3 at *
    clear hb1 hb1' hb2 hb2' y1 u1 g1 c1
    go_wp2_with fail
    refine (HR.out w3 H3.out (by omega)).mono ?_
    rintro e w4 ⟨hb4, rfl⟩
    have N4 := hid (N3.out.trans (Nx.of_below H3.out hb4))
    have Z4 := hid (Z3.out.below hb4)
    have H4 := hid (H3.out.on hb4)
    clear hb4
    have e0 : (r.toList == []) = true := HE.out
    have v1 := H4.out.c1
    obtain ⟨z0, z1, z2, z3, z4, z5, z6, zf⟩ := Z4.out
    go_wp2
    refine bodyPost_ret (v := endT a) (by simp [results, Tryz.results19, go_sem, endT, z0, z1, z2, z3, z4, z5, z6]) rfl ⟨?_, rfl⟩
    have ht : w.heap.size ≤ tb := by omega
    have hp : pb < w.heap.size := by have := HP.out; omega
    exact ((((((N4.out.new ht hp _ _).new ht hp _ _).new ht hp _ _).new ht hp _ _).new ht hp _ _).new ht hp _ _).new ht hp _ _
end Go.Proofs.YtieknmpdmdbdlaaGreatDoor
