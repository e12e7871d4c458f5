import Derived.Test.YtieknmpdmdbdlaaGreatDoorExO
namespace Go.Proofs.YtieknmpdmdbdlaaGreatDoor
open Go.RowKit
set_option maxRecDepth 8000

theorem neg_one (pb : Nat) (s : ByteArray) (t u : St) (n : Value) (HS : Gives 138 pb s t u n) (e0 : neS t.nm ⟨#[45]⟩) : Gives 124 pb s t u n := by
  intro w h
  have d0 : (w.alloc (.cells #[.string ⟨#[45]⟩] 9)).cell? ⟨w.heap.size, 0, none⟩ = some (.string ⟨#[45]⟩) := by simp [go_sem]
  have hb0 : Below w.heap.size w (w.alloc (.cells #[.string ⟨#[45]⟩] 9)) := (Below.refl _ _).alloc (Nat.le_refl _) _
  have H0 := hid (h.on hb0)
  have HC := hid (passes_none1 pb w.heap.size s t.a t.k t.ta t.nm ⟨#[45]⟩ 0 _ (h.on hb0) d0 e0)
  have HB := hid hb0
  have HH := hid HS
  clear h d0 e0 HS hb0
  go_enter Tryz.func124, Tryz.ntmps124
  go_wp2_with fail
  refine HC.out.mono ?_
  rintro e w2 ⟨hb, rfl⟩
  have HB2 := hid (HB.out.trans (hb.mono HB.out.size))
  have HA2 := hid (H0.out.on hb)
  clear hb
  go_wp2_with fail
  refine (HH.out w2 HA2.out).mono ?_
  rintro e w3 ⟨ho, ha, rfl⟩
  have HR := hid (And.intro ((Only.of_below HB2.out).trans ho) ha)
  clear ho ha
  go_wp2_with fail
  go_ret
  exact ⟨HR.out.1, HR.out.2, rfl⟩

theorem not_one (pb : Nat) (s : ByteArray) (t u : St) (n : Value) (HS : Gives 55 pb s t u n) (e0 : neS t.nm ⟨#[110, 111, 116]⟩) : Gives 43 pb s t u n := by
  intro w h
  have d0 : (w.alloc (.cells #[.string ⟨#[110, 111, 116]⟩] 9)).cell? ⟨w.heap.size, 0, none⟩ = some (.string ⟨#[110, 111, 116]⟩) := by simp [go_sem]
  have hb0 : Below w.heap.size w (w.alloc (.cells #[.string ⟨#[110, 111, 116]⟩] 9)) := (Below.refl _ _).alloc (Nat.le_refl _) _
  have H0 := hid (h.on hb0)
  have HC := hid (passes_none1 pb w.heap.size s t.a t.k t.ta t.nm ⟨#[110, 111, 116]⟩ 0 _ (h.on hb0) d0 e0)
  have HB := hid hb0
  have HH := hid HS
  clear h d0 e0 HS hb0
  go_enter Tryz.func43, Tryz.ntmps43
  go_wp2_with fail
  refine HC.out.mono ?_
  rintro e w2 ⟨hb, rfl⟩
  have HB2 := hid (HB.out.trans (hb.mono HB.out.size))
  have HA2 := hid (H0.out.on hb)
  clear hb
  go_wp2_with fail
  refine (HH.out w2 HA2.out).mono ?_
  rintro e w3 ⟨ho, ha, rfl⟩
  have HR := hid (And.intro ((Only.of_below HB2.out).trans ho) ha)
  clear ho ha
  go_wp2_with fail
  go_ret
  exact ⟨HR.out.1, HR.out.2, rfl⟩

theorem expr_one (pb : Nat) (s : ByteArray) (t u : St) (n : Value) (HS : Gives 21 pb s t u n) (e0 : neS t.nm ⟨#[105, 102]⟩) : Gives 16 pb s t u n := by
  intro w h
  have d0 : (w.alloc (.cells #[.string ⟨#[105, 102]⟩] 9)).cell? ⟨w.heap.size, 0, none⟩ = some (.string ⟨#[105, 102]⟩) := by simp [go_sem]
  have hb0 : Below w.heap.size w (w.alloc (.cells #[.string ⟨#[105, 102]⟩] 9)) := (Below.refl _ _).alloc (Nat.le_refl _) _
  have H0 := hid (h.on hb0)
  have HC := hid (passes_none1 pb w.heap.size s t.a t.k t.ta t.nm ⟨#[105, 102]⟩ 0 _ (h.on hb0) d0 e0)
  have HB := hid hb0
  have HH := hid HS
  clear h d0 e0 HS hb0
  go_enter Tryz.func16, Tryz.ntmps16
  go_wp2_with fail
  refine HC.out.mono ?_
  rintro e w2 ⟨hb, rfl⟩
  have HB2 := hid (HB.out.trans (hb.mono HB.out.size))
  have HA2 := hid (H0.out.on hb)
  clear hb
  go_wp2_with fail
  refine (HH.out w2 HA2.out).mono ?_
  rintro e w3 ⟨ho, ha, rfl⟩
  have HR := hid (And.intro ((Only.of_below HB2.out).trans ho) ha)
  clear ho ha
  go_wp2_with fail
  go_ret
  exact ⟨HR.out.1, HR.out.2, rfl⟩

def preN (lv : Int) (nm : ByteArray) (n : Value) : Value := .iface 106 (.agg #[.int .i64 lv, .string nm, n])
theorem neg_minus (pb : Nat) (s : ByteArray) (t v u : St) (n1 : TypeId) (n2 : Value) (HS : Gives 124 pb s v u (.iface n1 n2)) (hg : Goes pb s t v) (e0 : eqS t.nm ⟨#[45]⟩) : Gives 124 pb s t u (preN 7 ⟨#[45]⟩ (.iface n1 n2)) := by
  intro w h
  have d0 : (w.alloc (.cells #[.string ⟨#[45]⟩] 9)).cell? ⟨w.heap.size, 0, none⟩ = some (.string ⟨#[45]⟩) := by simp [go_sem]
  have hb0 : Below w.heap.size w (w.alloc (.cells #[.string ⟨#[45]⟩] 9)) := (Below.refl _ _).alloc (Nat.le_refl _) _
  have HC := hid (passes_hit10 pb w.heap.size s t.a v.a t.k t.ta v.k v.ta t.nm v.nm ⟨#[45]⟩ 0 _ (h.on hb0) d0 e0 hg)
  have HB := hid hb0
  have HH := hid HS
  clear h d0 e0 HS hb0 hg
  unfold preN
  go_enter Tryz.func124, Tryz.ntmps124
  go_wp2_with fail
  refine HC.out.mono ?_
  rintro e w2 ⟨ho2, ha2, rfl⟩
  have HB2 := hid ((Only.of_below HB.out).trans ho2)
  have HA2 : Hid (At w2 pb s v) := ha2
  clear ho2 ha2
  go_wp2_with fail
  refine (HH.out w2 HA2.out).mono ?_
  rintro e w3 ⟨ho, ha, rfl⟩
  have HR := hid (And.intro (HB2.out.trans ho) ha)
  clear ho ha
  go_wp2_with fail
  go_ret
  exact ⟨HR.out.1, HR.out.2, rfl⟩

theorem cmp_one (pb : Nat) (s : ByteArray) (t u : St) (n : Value) (HS : Gives 70 pb s t u n) (e0 : neS u.nm ⟨#[61, 61]⟩) (e1 : neS u.nm ⟨#[33, 61]⟩) (e2 : neS u.nm ⟨#[60]⟩) (e3 : neS u.nm ⟨#[60, 61]⟩) (e4 : neS u.nm ⟨#[62]⟩) (e5 : neS u.nm ⟨#[62, 61]⟩) : Gives 55 pb s t u n := by
  intro w h
  have HH := hid HS
  have H := hid h
  have HC : Hid (∀ w1, At w1 pb s u → Calls Tryz.prog 20 #[.pointer (some ⟨pb, 0, none⟩), .slice (some ⟨w1.heap.size, 0, none⟩) 6 6] (w1.alloc (.cells #[.string ⟨#[61, 61]⟩, .string ⟨#[33, 61]⟩, .string ⟨#[60]⟩, .string ⟨#[60, 61]⟩, .string ⟨#[62]⟩, .string ⟨#[62, 61]⟩] 9)) fun e w' => Below w1.heap.size w1 w' ∧ e = .returned (.string ⟨#[]⟩)) := by
    intro w1 h1
    have d0 : (w1.alloc (.cells #[.string ⟨#[61, 61]⟩, .string ⟨#[33, 61]⟩, .string ⟨#[60]⟩, .string ⟨#[60, 61]⟩, .string ⟨#[62]⟩, .string ⟨#[62, 61]⟩] 9)).cell? ⟨w1.heap.size, 0, none⟩ = some (.string ⟨#[61, 61]⟩) := by simp [go_sem]
    have d1 : (w1.alloc (.cells #[.string ⟨#[61, 61]⟩, .string ⟨#[33, 61]⟩, .string ⟨#[60]⟩, .string ⟨#[60, 61]⟩, .string ⟨#[62]⟩, .string ⟨#[62, 61]⟩] 9)).cell? ⟨w1.heap.size, 1, none⟩ = some (.string ⟨#[33, 61]⟩) := by simp [go_sem]
    have d2 : (w1.alloc (.cells #[.string ⟨#[61, 61]⟩, .string ⟨#[33, 61]⟩, .string ⟨#[60]⟩, .string ⟨#[60, 61]⟩, .string ⟨#[62]⟩, .string ⟨#[62, 61]⟩] 9)).cell? ⟨w1.heap.size, 2, none⟩ = some (.string ⟨#[60]⟩) := by simp [go_sem]
    have d3 : (w1.alloc (.cells #[.string ⟨#[61, 61]⟩, .string ⟨#[33, 61]⟩, .string ⟨#[60]⟩, .string ⟨#[60, 61]⟩, .string ⟨#[62]⟩, .string ⟨#[62, 61]⟩] 9)).cell? ⟨w1.heap.size, 3, none⟩ = some (.string ⟨#[60, 61]⟩) := by simp [go_sem]
    have d4 : (w1.alloc (.cells #[.string ⟨#[61, 61]⟩, .string ⟨#[33, 61]⟩, .string ⟨#[60]⟩, .string ⟨#[60, 61]⟩, .string ⟨#[62]⟩, .string ⟨#[62, 61]⟩] 9)).cell? ⟨w1.heap.size, 4, none⟩ = some (.string ⟨#[62]⟩) := by simp [go_sem]
    have d5 : (w1.alloc (.cells #[.string ⟨#[61, 61]⟩, .string ⟨#[33, 61]⟩, .string ⟨#[60]⟩, .string ⟨#[60, 61]⟩, .string ⟨#[62]⟩, .string ⟨#[62, 61]⟩] 9)).cell? ⟨w1.heap.size, 5, none⟩ = some (.string ⟨#[62, 61]⟩) := by simp [go_sem]
    have hb0 : Below w1.heap.size w1 (w1.alloc (.cells #[.string ⟨#[61, 61]⟩, .string ⟨#[33, 61]⟩, .string ⟨#[60]⟩, .string ⟨#[60, 61]⟩, .string ⟨#[62]⟩, .string ⟨#[62, 61]⟩] 9)) := (Below.refl _ _).alloc (Nat.le_refl _) _
    refine (passes_none6 pb w1.heap.size s u.a u.k u.ta u.nm ⟨#[61, 61]⟩ ⟨#[33, 61]⟩ ⟨#[60]⟩ ⟨#[60, 61]⟩ ⟨#[62]⟩ ⟨#[62, 61]⟩ 0 _ (h1.on hb0) d0 d1 d2 d3 d4 d5 e0 e1 e2 e3 e4 e5).mono ?_
    rintro e w' ⟨hb, he⟩
    exact ⟨hb0.trans (hb.mono hb0.size), he⟩
  clear h HS e0 e1 e2 e3 e4 e5
  go_enter Tryz.func55, Tryz.ntmps55
  go_wp2_with fail
  refine (HH.out w H.out).mono ?_
  rintro e w1 ⟨ho, ha, rfl⟩
  have HO := hid ho
  have HA := hid ha
  clear ho ha
  go_wp2_with fail
  refine (HC.out w1 HA.out).mono ?_
  rintro e w2 ⟨hb, rfl⟩
  have HR := hid (And.intro (HO.out.trans (Only.of_below hb)) (HA.out.on hb))
  clear hb
  go_wp2_with fail
  go_ret
  exact ⟨HR.out.1, HR.out.2, rfl⟩
end Go.Proofs.YtieknmpdmdbdlaaGreatDoor
