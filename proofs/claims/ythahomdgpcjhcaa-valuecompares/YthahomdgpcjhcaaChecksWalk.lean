import Derived.Test.YthahomdgpcjhcaaHoldAll
import Derived.Test.YthahomdgpcjhcaaRoomV
import Derived.Test.YthahomdgpcjhcaaSize
import Derived.Test.YthahomdgpcjhcaaSameV
import Derived.Test.YthahomdgpcjhcaaCheckV
import Derived.Test.YthahomdgpcjhcaaCheckR
namespace Go.Proofs.Ythahomdgpcjhcaa
open Go.RowKit
set_option maxRecDepth 8000

/-- one value in a new list -/
def one (b : Nat) (t : VT) : VT := .mk 0 0 ⟨#[]⟩ 1 (some ⟨b, 0, none⟩) 1 (fun _ => t)
theorem one_total (b : Nat) (t : VT) : (one b t).total = 1 + t.total := by simp [one, VT.total]
theorem one_in {w : World} {S : Nat → Prop} {t : VT} {b : Nat} (h : VT.In w S t) (hb : VT.At w b 0 t) (hS : S b) (hl : b < w.heap.size) : VT.In w S (one b t) := by
  refine ⟨⟨?_, ?_, ?_, ?_, ?_, Nat.le_refl 1, ?_, ?_, fun h => by cases h⟩, fun _ => ⟨b, 0, rfl, hS, hl, fun j hj => ?_⟩, fun j _ => h⟩
  · show (-9223372036854775808 : Int) ≤ 0; omega
  · show (0 : Int) ≤ 9223372036854775807; omega
  · show (-9223372036854775808 : Int) ≤ 0; omega
  · show (0 : Int) ≤ 9223372036854775807; omega
  · show (⟨#[]⟩ : ByteArray).size ≤ 140737488355328; decide
  · show 1 ≤ 140737488355328; omega
  · show 1 ≤ maxLen; unfold maxLen; omega
  · obtain rfl : j = 0 := by omega
    simpa using hb
/-- a new room -/
def newRoom (b : Nat) : RS := ⟨b, fun _ => .slice none 0 0, fun _ => []⟩
theorem newRoom_rm (w : World) (base : Nat) (hb : base ≤ w.heap.size) : Rm base (w.alloc (.cells #[.slice none 0 0, .slice none 0 0, .slice none 0 0, .slice none 0 0, .slice none 0 0, .slice none 0 0, .slice none 0 0, .slice none 0 0, .slice none 0 0, .slice none 0 0] 37)) (newRoom w.heap.size) :=
  { box := Box.new _ _ _
    row := fun _ _ => World.ownsRow_nil _ _ _ _
    low := hb
    mark := fun _ _ x hx => absurd hx (List.not_mem_nil)
    apart := fun _ _ _ _ _ b h => absurd h (by simp [newRoom, Value.ownBlock])
    off := fun _ _ => by simp [newRoom, Value.ownBlock]
    few := fun _ _ => Nat.zero_le _ }

set_option maxHeartbeats 2000000 in
theorem checks_walk (t : VT) (w : World) (S : Nat → Prop) (hin : VT.In w S t) (hS : ∀ b, S b → b < w.heap.size) :
    Calls Try.prog 3 #[t.val] w fun e w' => e = .returned (.bool true) ∧ Below w.heap.size w w' := by
  have HI : Hid (VT.In w S t ∧ ∀ b, S b → b < w.heap.size) := ⟨hin, hS⟩
  obtain ⟨k, i, s, n, p, c, f, ht⟩ := hin.mk_
  clear hin hS
  simp only [VT.val, ht, VT.kind_mk, VT.int_mk, VT.text_mk, VT.p_mk, VT.n_mk, VT.c_mk]
  go_enter Try.func3, Try.ntmps3
  go_wp2_with fail
  have hW0 : Below w.heap.size w ((w.alloc (.cells #[.int .i64 k, .int .i64 i, .string s, .slice p n c] 24)).alloc (.cells #[.int .i64 k, .int .i64 i, .string s, .slice p n c] 24)) := ((Below.refl _ _).alloc (Nat.le_refl _) _).alloc (by simp) _
  have hV0 : Box ((w.alloc (.cells #[.int .i64 k, .int .i64 i, .string s, .slice p n c] 24)).alloc (.cells #[.int .i64 k, .int .i64 i, .string s, .slice p n c] 24)) w.heap.size #[.int .i64 k, .int .i64 i, .string s, .slice p n c] 24 := (Box.new w _ 24).below ((Below.refl _ _).alloc (Nat.le_refl _) _)
  have hV1 : Box ((w.alloc (.cells #[.int .i64 k, .int .i64 i, .string s, .slice p n c] 24)).alloc (.cells #[.int .i64 k, .int .i64 i, .string s, .slice p n c] 24)) (w.heap.size + 1) #[.int .i64 k, .int .i64 i, .string s, .slice p n c] 24 := by
    have h := Box.new (w.alloc (.cells #[.int .i64 k, .int .i64 i, .string s, .slice p n c] 24)) #[.int .i64 k, .int .i64 i, .string s, .slice p n c] 24
    rw [show (w.alloc (.cells #[.int .i64 k, .int .i64 i, .string s, .slice p n c] 24)).heap.size = w.heap.size + 1 by simp] at h
    exact h
  have HSz := sizes_any (one (w.heap.size + 1) t) ((w.alloc (.cells #[.int .i64 k, .int .i64 i, .string s, .slice p n c] 24)).alloc (.cells #[.int .i64 k, .int .i64 i, .string s, .slice p n c] 24)) (fun b => b < w.heap.size + 2)
    (one_in ((HI.out.1.below hW0).mono fun b hb _ => by have := HI.out.2 b hb; omega) (by rw [ht]; exact ⟨hV1.cell 0, hV1.cell 1, hV1.cell 2, hV1.cell 3⟩) (by omega) (by have := hV1.lt; exact this)) (fun b hb => by simpa using hb)
  rw [one_total] at HSz
  refine HSz.mono ?_
  rintro e w1 ⟨r, rfl, hr, hb1⟩
  have hbw1 : Below w.heap.size w w1 := hW0.trans (hb1.mono hW0.size)
  have hV := hV0.below hb1
  have hl1 := hV.lt
  clear HSz hV0 hV1 hb1 hW0
  cases r with
  | false =>
    go_wp2
    go_ret
    exact ⟨rfl, hbw1⟩
  | true =>
    have htot : t.total ≤ 9999 := by have := hr rfl; omega
    clear hr
    have x0 := hV.cell 0
    have x1 := hV.cell 1
    have x2 := hV.cell 2
    have x3 := hV.cell 3
    simp at x0 x1 x2 x3
    have HIn1 : Hid (VT.In w1 S t) := HI.out.1.kept hbw1.size fun b hb hl => hbw1.block b hl
    have HD := deep_any t w1 S HIn1.out (by omega)
    simp only [VT.val, ht, VT.kind_mk, VT.int_mk, VT.text_mk, VT.p_mk, VT.n_mk, VT.c_mk] at HD
    rw [← ht] at HD
    go_wp2_with fail
    refine HD.mono ?_
    rintro e w2 ⟨u, rfl, hal, hiu, hb2⟩
    have hbw2 : Below w.heap.size w w2 := hbw1.trans (hb2.mono hbw1.size)
    have hV2 := hV.below hb2
    clear x0 x1 x2 x3 HD hV
    have x0 := hV2.cell 0
    have x1 := hV2.cell 1
    have x2 := hV2.cell 2
    have x3 := hV2.cell 3
    simp at x0 x1 x2 x3
    have hl2 := hV2.lt
    go_wp2_with fail
    have hbk : Below w2.heap.size w2 ((w2.alloc (.cells #[.int .i64 u.kind, .int .i64 u.int, .string u.text, .slice u.p u.n u.c] 24)).alloc (.cells #[.slice none 0 0, .slice none 0 0, .slice none 0 0, .slice none 0 0, .slice none 0 0, .slice none 0 0, .slice none 0 0, .slice none 0 0, .slice none 0 0, .slice none 0 0] 37)) := ((Below.refl _ _).alloc (Nat.le_refl _) _).alloc (by simp) _
    have hRm : Rm w.heap.size ((w2.alloc (.cells #[.int .i64 u.kind, .int .i64 u.int, .string u.text, .slice u.p u.n u.c] 24)).alloc (.cells #[.slice none 0 0, .slice none 0 0, .slice none 0 0, .slice none 0 0, .slice none 0 0, .slice none 0 0, .slice none 0 0, .slice none 0 0, .slice none 0 0, .slice none 0 0] 37)) (newRoom (w2.heap.size + 1)) := by
      have h := newRoom_rm (w2.alloc (.cells #[.int .i64 u.kind, .int .i64 u.int, .string u.text, .slice u.p u.n u.c] 24)) w.heap.size (by simp; omega)
      rw [show (w2.alloc (.cells #[.int .i64 u.kind, .int .i64 u.int, .string u.text, .slice u.p u.n u.c] 24)).heap.size = w2.heap.size + 1 by simp] at h
      exact h
    have hKp : Box ((w2.alloc (.cells #[.int .i64 u.kind, .int .i64 u.int, .string u.text, .slice u.p u.n u.c] 24)).alloc (.cells #[.slice none 0 0, .slice none 0 0, .slice none 0 0, .slice none 0 0, .slice none 0 0, .slice none 0 0, .slice none 0 0, .slice none 0 0, .slice none 0 0, .slice none 0 0] 37)) w2.heap.size #[.int .i64 u.kind, .int .i64 u.int, .string u.text, .slice u.p u.n u.c] 24 := (Box.new w2 _ 24).below ((Below.refl _ _).alloc (Nat.le_refl _) _)
    have hbW := hbw2.trans (hbk.mono hbw2.size)
    have hVW := hV2.below hbk
    have hiW := (hiu.mono fun b hb hl => (show w1.heap.size ≤ b ∧ b < w2.heap.size from ⟨hb, hl⟩)).below hbk
    have htW : VT.In ((w2.alloc (.cells #[.int .i64 u.kind, .int .i64 u.int, .string u.text, .slice u.p u.n u.c] 24)).alloc (.cells #[.slice none 0 0, .slice none 0 0, .slice none 0 0, .slice none 0 0, .slice none 0 0, .slice none 0 0, .slice none 0 0, .slice none 0 0, .slice none 0 0, .slice none 0 0] 37)) S t := HI.out.1.kept hbW.size fun b _ hl => hbW.block b hl
    generalize hW3 : (w2.alloc (.cells #[.int .i64 u.kind, .int .i64 u.int, .string u.text, .slice u.p u.n u.c] 24)).alloc (.cells #[.slice none 0 0, .slice none 0 0, .slice none 0 0, .slice none 0 0, .slice none 0 0, .slice none 0 0, .slice none 0 0, .slice none 0 0, .slice none 0 0, .slice none 0 0] 37) = W3 at *
    have hs3 : w2.heap.size + 2 ≤ W3.heap.size := by rw [← hW3]; simp
    have HV := value_any t w.heap.size W3 (newRoom (w2.heap.size + 1)) S hRm (by omega) htW (fun b hb hh => by
      have := HI.out.2 b hb
      rcases hh with h | ⟨_, _, h⟩
      · have h2 : b = w2.heap.size + 1 := h
        omega
      · cases h) (fun q _ => by show 0 + 1 + t.total ≤ 100000; omega)
    simp only [VT.val, ht, VT.kind_mk, VT.int_mk, VT.text_mk, VT.p_mk, VT.n_mk, VT.c_mk] at HV
    rw [← ht] at HV
    refine HV.mono ?_
    intro e w4 hP
    obtain ⟨x, R1, rfl, hx⟩ := hP
    have hnot : ∀ b, b ≤ w2.heap.size → ¬ (newRoom (w2.heap.size + 1)).hot b := fun b hb hh => by
      rcases hh with h | ⟨_, _, h⟩
      · have h2 : b = w2.heap.size + 1 := h
        omega
      · cases h
    have hV4 := hVW.but hx.but (hnot _ (by omega))
    have hK4 := hKp.but hx.but (hnot _ (Nat.le_refl _))
    have hi4 := hiW.but hx.but (fun b hb _ => hnot b (by omega))
    have hb4 : Below w.heap.size w w4 := hbW.trans (hx.but.below (by omega) (fun b hb => hnot b (by omega)))
    have x0 := hV4.cell 0
    have x1 := hV4.cell 1
    have x2 := hV4.cell 2
    have x3 := hV4.cell 3
    have g0 := hV4.frozen 0
    have g1 := hV4.frozen 1
    have g2 := hV4.frozen 2
    have g3 := hV4.frozen 3
    have z4 := hV4.lt
    simp at x0 x1 x2 x3
    have HX : Hid (Roomed w.heap.size W3 (newRoom (w2.heap.size + 1)) t x w4 R1) := hx
    clear HV hV2 hVW hKp hiW htW hRm hbk hW3 hx
    simp only [VT.val]
    go_wp2_with fail
    have hk5 : But (fun b => b = w.heap.size) w4 ((((w4.setCell ⟨w.heap.size, 0, none⟩ (.int .i64 x.kind)).setCell ⟨w.heap.size, 1, none⟩ (.int .i64 x.int)).setCell ⟨w.heap.size, 2, none⟩ (.string x.text)).setCell ⟨w.heap.size, 3, none⟩ (.slice x.p x.n x.c)) := ((((But.refl (fun b => b = w.heap.size) w4).setCell (p := ⟨w.heap.size, 0, none⟩) (fun _ => rfl) _).setCell (p := ⟨w.heap.size, 1, none⟩) (fun _ => rfl) _).setCell (p := ⟨w.heap.size, 2, none⟩) (fun _ => rfl) _).setCell (p := ⟨w.heap.size, 3, none⟩) (fun _ => rfl) _
    have hV5 : Box ((((w4.setCell ⟨w.heap.size, 0, none⟩ (.int .i64 x.kind)).setCell ⟨w.heap.size, 1, none⟩ (.int .i64 x.int)).setCell ⟨w.heap.size, 2, none⟩ (.string x.text)).setCell ⟨w.heap.size, 3, none⟩ (.slice x.p x.n x.c)) w.heap.size #[.int .i64 x.kind, .int .i64 x.int, .string x.text, .slice x.p x.n x.c] 24 := by
      have h := (((hV4.set 0 (.int .i64 x.kind)).set 1 (.int .i64 x.int)).set 2 (.string x.text)).set 3 (.slice x.p x.n x.c)
      simpa using h
    generalize (((w4.setCell ⟨w.heap.size, 0, none⟩ (.int .i64 x.kind)).setCell ⟨w.heap.size, 1, none⟩ (.int .i64 x.int)).setCell ⟨w.heap.size, 2, none⟩ (.string x.text)).setCell ⟨w.heap.size, 3, none⟩ (.slice x.p x.n x.c) = W5 at *
    have hx := HX.out
    have hK5 := hK4.but hk5 (by omega)
    have hi5 := hi4.but hk5 (fun b hb _ => by have := hb.1; omega)
    have hx5 : VT.In W5 (fun b => W3.heap.size ≤ b ∧ ¬ R1.hot b) x := hx.in_.but hk5 (fun b hb _ => by have := hb.1; omega)
    have hR5 : Rm w.heap.size W5 R1 := hx.rm.keep hk5.size fun b hf => hk5.block b (hx.rm.footlt hf) fun e => by
      rcases hx.next.foot b hf with h | h
      · rcases h with h | ⟨_, _, y, hy, _⟩
        · exact hnot b (by omega) h
        · cases hy
      · omega
    have hb5 : Below w.heap.size w W5 := hb4.trans (hk5.below (by omega) (fun b hb => by omega))
    have hpl : R1.plainV := fun q _ h2 h3 => (hx.next.same q h2 h3).1
    have hax : VT.Alike t x := hx.alike
    have hrb1 : R1.rb = w2.heap.size + 1 := hx.next.rb
    clear hV4 hK4 hi4 HX hx x0 x1 x2 x3 g0 g1 g2 g3
    have HC := check_any x W5 (fun b => b < W5.heap.size) (hx5.mono fun b _ hl => hl) (fun b hb => hb)
    rw [← chk_alike t x 0 0 hax] at HC
    unfold VT.val at HC
    refine HC.mono ?_
    rintro e w6 ⟨rfl, hb6⟩
    have hV6 := hV5.below hb6
    have hK6 := hK5.below hb6
    have hi6 := hi5.below hb6
    have hx6 := hx5.below hb6
    have hR6 := hR5.below hb6
    have hbw6 : Below w.heap.size w w6 := hb5.trans (hb6.mono hb5.size)
    clear HC hV5 hK5 hi5 hx5 hR5 hb5 hb6 hk5
    have k0 := hK6.cell 0
    have k1 := hK6.cell 1
    have k2 := hK6.cell 2
    have k3 := hK6.cell 3
    simp at k0 k1 k2 k3
    have HC := refCheck_any u w6 _ hi6
    rw [← chk_alike t u 0 0 hal] at HC
    unfold VT.val at HC
    go_wp2_with fail
    refine HC.mono ?_
    rintro e w7 ⟨rfl, hb7⟩
    have hV7 := hV6.below hb7
    have hK7 := hK6.below hb7
    have hi7 := hi6.below hb7
    have hx7 := hx6.below hb7
    have hR7 := hR6.below hb7
    have hbw7 : Below w.heap.size w w7 := hbw6.trans (hb7.mono hbw6.size)
    clear HC hV6 hK6 hi6 hx6 hR6 hbw6 hb7 k0 k1 k2 k3
    have k0 := hK7.cell 0
    have k1 := hK7.cell 1
    have k2 := hK7.cell 2
    have k3 := hK7.cell 3
    have x0 := hV7.cell 0
    have x1 := hV7.cell 1
    have x2 := hV7.cell 2
    have x3 := hV7.cell 3
    simp at k0 k1 k2 k3 x0 x1 x2 x3
    have HC := same_any x u w7 _ _ hx7 hi7 ((hax.symm hx7).trans hal)
    unfold VT.val at HC
    go_wp2_with fail
    refine HC.mono ?_
    rintro e w8 ⟨rfl, hb8⟩
    have hR8 := hR7.below hb8
    have hbw8 : Below w.heap.size w w8 := hbw7.trans (hb8.mono hbw7.size)
    clear HC hV7 hK7 hi7 hx7 hR7 hbw7 hb8 k0 k1 k2 k3 x0 x1 x2 x3
    have HC := hold_any w.heap.size w8 R1 hR8 hpl
    rw [hrb1] at HC
    go_wp2_with fail
    refine HC.mono ?_
    rintro e w9 ⟨rfl, hb9⟩
    have hbw9 : Below w.heap.size w w9 := hbw8.trans (hb9.mono hbw8.size)
    clear HC hR8 hbw8 hb9
    go_wp2
    go_ret
    exact ⟨rfl, hbw9⟩
end Go.Proofs.Ythahomdgpcjhcaa
