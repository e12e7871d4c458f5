import Derived.Test.YtieknmpdmdbdlaaGreatDoorExN
namespace Go.Proofs.YtieknmpdmdbdlaaGreatDoor
open Go.RowKit
set_option maxRecDepth 8000

theorem Misses.mk1 {pb nb : Nat} {s : ByteArray} {u : St} {n0 : ByteArray} {w : World} (hne : nb ≠ pb) (d0 : w.cell? ⟨nb, 0, none⟩ = some (.string n0)) (e0 : neS u.nm n0) : Misses pb s u (.slice (some ⟨nb, 0, none⟩) 1 1) w :=
  fun w1 ho h => passes_none1 pb nb s u.a u.k u.ta u.nm n0 0 w1 h (ho.cell d0 hne) e0
theorem Misses.mk2 {pb nb : Nat} {s : ByteArray} {u : St} {n0 n1 : ByteArray} {w : World} (hne : nb ≠ pb) (d0 : w.cell? ⟨nb, 0, none⟩ = some (.string n0)) (d1 : w.cell? ⟨nb, 1, none⟩ = some (.string n1)) (e0 : neS u.nm n0) (e1 : neS u.nm n1) : Misses pb s u (.slice (some ⟨nb, 0, none⟩) 2 2) w :=
  fun w1 ho h => passes_none2 pb nb s u.a u.k u.ta u.nm n0 n1 0 w1 h (ho.cell d0 hne) (ho.cell d1 hne) e0 e1
theorem Misses.mk3 {pb nb : Nat} {s : ByteArray} {u : St} {n0 n1 n2 : ByteArray} {w : World} (hne : nb ≠ pb) (d0 : w.cell? ⟨nb, 0, none⟩ = some (.string n0)) (d1 : w.cell? ⟨nb, 1, none⟩ = some (.string n1)) (d2 : w.cell? ⟨nb, 2, none⟩ = some (.string n2)) (e0 : neS u.nm n0) (e1 : neS u.nm n1) (e2 : neS u.nm n2) : Misses pb s u (.slice (some ⟨nb, 0, none⟩) 3 3) w :=
  fun w1 ho h => passes_none3 pb nb s u.a u.k u.ta u.nm n0 n1 n2 0 w1 h (ho.cell d0 hne) (ho.cell d1 hne) (ho.cell d2 hne) e0 e1 e2
theorem Hits.mk20 {pb nb : Nat} {s : ByteArray} {u v : St} {n0 : ByteArray} {w : World} (hne : nb ≠ pb) (d0 : w.cell? ⟨nb, 0, none⟩ = some (.string n0)) (e0 : eqS u.nm n0) (hg : Goes pb s u v) : Hits pb s u v (.slice (some ⟨nb, 0, none⟩) 2 2) n0 w :=
  fun w1 ho h => passes_hit20 pb nb s u.a v.a u.k u.ta v.k v.ta u.nm v.nm n0 0 w1 h (ho.cell d0 hne) e0 hg
theorem Hits.mk21 {pb nb : Nat} {s : ByteArray} {u v : St} {n0 n1 : ByteArray} {w : World} (hne : nb ≠ pb) (d0 : w.cell? ⟨nb, 0, none⟩ = some (.string n0)) (d1 : w.cell? ⟨nb, 1, none⟩ = some (.string n1)) (e0 : neS u.nm n0) (e1 : eqS u.nm n1) (hg : Goes pb s u v) : Hits pb s u v (.slice (some ⟨nb, 0, none⟩) 2 2) n1 w :=
  fun w1 ho h => passes_hit21 pb nb s u.a v.a u.k u.ta v.k v.ta u.nm v.nm n0 n1 0 w1 h (ho.cell d0 hne) (ho.cell d1 hne) e0 e1 hg
theorem Hits.mk30 {pb nb : Nat} {s : ByteArray} {u v : St} {n0 : ByteArray} {w : World} (hne : nb ≠ pb) (d0 : w.cell? ⟨nb, 0, none⟩ = some (.string n0)) (e0 : eqS u.nm n0) (hg : Goes pb s u v) : Hits pb s u v (.slice (some ⟨nb, 0, none⟩) 3 3) n0 w :=
  fun w1 ho h => passes_hit30 pb nb s u.a v.a u.k u.ta v.k v.ta u.nm v.nm n0 0 w1 h (ho.cell d0 hne) e0 hg
theorem Hits.mk31 {pb nb : Nat} {s : ByteArray} {u v : St} {n0 n1 : ByteArray} {w : World} (hne : nb ≠ pb) (d0 : w.cell? ⟨nb, 0, none⟩ = some (.string n0)) (d1 : w.cell? ⟨nb, 1, none⟩ = some (.string n1)) (e0 : neS u.nm n0) (e1 : eqS u.nm n1) (hg : Goes pb s u v) : Hits pb s u v (.slice (some ⟨nb, 0, none⟩) 3 3) n1 w :=
  fun w1 ho h => passes_hit31 pb nb s u.a v.a u.k u.ta v.k v.ta u.nm v.nm n0 n1 0 w1 h (ho.cell d0 hne) (ho.cell d1 hne) e0 e1 hg
theorem Hits.mk32 {pb nb : Nat} {s : ByteArray} {u v : St} {n0 n1 n2 : ByteArray} {w : World} (hne : nb ≠ pb) (d0 : w.cell? ⟨nb, 0, none⟩ = some (.string n0)) (d1 : w.cell? ⟨nb, 1, none⟩ = some (.string n1)) (d2 : w.cell? ⟨nb, 2, none⟩ = some (.string n2)) (e0 : neS u.nm n0) (e1 : neS u.nm n1) (e2 : eqS u.nm n2) (hg : Goes pb s u v) : Hits pb s u v (.slice (some ⟨nb, 0, none⟩) 3 3) n2 w :=
  fun w1 ho h => passes_hit32 pb nb s u.a v.a u.k u.ta v.k v.ta u.nm v.nm n0 n1 n2 0 w1 h (ho.cell d0 hne) (ho.cell d1 hne) (ho.cell d2 hne) e0 e1 e2 hg

theorem enters_of {f : FuncId} {fn : Func} {c : Code} (hf : Tryz.prog.funcs[f]? = some fn) (hname : (fn.name == "runtime.NumGoroutine") = false) (hb : fn.body = some c) : Enters f := by
  intro args w
  have h1 : fn.name ≠ "runtime.NumGoroutine" := by simpa using hname
  simp [callFunc, hf, h1, hb]
theorem At.lt {w : World} {pb : Nat} {s : ByteArray} {t : St} (h : At w pb s t) : pb < w.heap.size := Ps.lt h

theorem enters_parser_and : Enters 32 := enters_of Tryz.func32 (by kernel_rfl) rfl
theorem or_one (pb : Nat) (s : ByteArray) (t u : St) (n : Value) (HS : Gives 32 pb s t u n) (e0 : neS u.nm ⟨#[111, 114]⟩) : Gives 21 pb s t u n := by
  intro w h
  have hmf : ∀ (fn : Fn) (first cap : Array Value) (w : World), (Instr.makeFunc fn first cap).run Tryz.prog w = .ok (.func fn first cap) w := fun _ _ _ _ => rfl
  have d0 : (w.alloc (.cells #[.string ⟨#[111, 114]⟩] 9)).cell? ⟨w.heap.size, 0, none⟩ = some (.string ⟨#[111, 114]⟩) := by simp [go_sem]
  have hb0 : Below w.heap.size w (w.alloc (.cells #[.string ⟨#[111, 114]⟩] 9)) := (Below.refl _ _).alloc (Nat.le_refl _) _
  have hl := h.lt
  have HC := hid (chain_one pb s t u 1 32 (some ⟨w.heap.size, 0, none⟩) 1 1 n _ enters_parser_and HS (h.on hb0) (Misses.mk1 (by omega) d0 e0))
  have HB := hid (Only.of_below (b := pb) hb0)
  clear h d0 e0 HS hb0
  go_enter Tryz.func21, Tryz.ntmps21
  go_wp2_with fail
  refine HC.out.mono ?_
  rintro e w2 ⟨ho, ha, rfl⟩
  have HR := hid (And.intro (HB.out.trans ho) ha)
  clear ho ha
  go_wp2_with fail
  go_ret
  exact ⟨HR.out.1, HR.out.2, rfl⟩

theorem enters_parser_not : Enters 43 := enters_of Tryz.func43 (by kernel_rfl) rfl
theorem and_one (pb : Nat) (s : ByteArray) (t u : St) (n : Value) (HS : Gives 43 pb s t u n) (e0 : neS u.nm ⟨#[97, 110, 100]⟩) : Gives 32 pb s t u n := by
  intro w h
  have hmf : ∀ (fn : Fn) (first cap : Array Value) (w : World), (Instr.makeFunc fn first cap).run Tryz.prog w = .ok (.func fn first cap) w := fun _ _ _ _ => rfl
  have d0 : (w.alloc (.cells #[.string ⟨#[97, 110, 100]⟩] 9)).cell? ⟨w.heap.size, 0, none⟩ = some (.string ⟨#[97, 110, 100]⟩) := by simp [go_sem]
  have hb0 : Below w.heap.size w (w.alloc (.cells #[.string ⟨#[97, 110, 100]⟩] 9)) := (Below.refl _ _).alloc (Nat.le_refl _) _
  have hl := h.lt
  have HC := hid (chain_one pb s t u 2 43 (some ⟨w.heap.size, 0, none⟩) 1 1 n _ enters_parser_not HS (h.on hb0) (Misses.mk1 (by omega) d0 e0))
  have HB := hid (Only.of_below (b := pb) hb0)
  clear h d0 e0 HS hb0
  go_enter Tryz.func32, Tryz.ntmps32
  go_wp2_with fail
  refine HC.out.mono ?_
  rintro e w2 ⟨ho, ha, rfl⟩
  have HR := hid (And.intro (HB.out.trans ho) ha)
  clear ho ha
  go_wp2_with fail
  go_ret
  exact ⟨HR.out.1, HR.out.2, rfl⟩

theorem enters_parser_term : Enters 98 := enters_of Tryz.func98 (by kernel_rfl) rfl
theorem sum_one (pb : Nat) (s : ByteArray) (t u : St) (n : Value) (HS : Gives 98 pb s t u n) (e0 : neS u.nm ⟨#[43]⟩) (e1 : neS u.nm ⟨#[45]⟩) : Gives 70 pb s t u n := by
  intro w h
  have hmf : ∀ (fn : Fn) (first cap : Array Value) (w : World), (Instr.makeFunc fn first cap).run Tryz.prog w = .ok (.func fn first cap) w := fun _ _ _ _ => rfl
  have d0 : (w.alloc (.cells #[.string ⟨#[43]⟩, .string ⟨#[45]⟩] 9)).cell? ⟨w.heap.size, 0, none⟩ = some (.string ⟨#[43]⟩) := by simp [go_sem]
  have d1 : (w.alloc (.cells #[.string ⟨#[43]⟩, .string ⟨#[45]⟩] 9)).cell? ⟨w.heap.size, 1, none⟩ = some (.string ⟨#[45]⟩) := by simp [go_sem]
  have hb0 : Below w.heap.size w (w.alloc (.cells #[.string ⟨#[43]⟩, .string ⟨#[45]⟩] 9)) := (Below.refl _ _).alloc (Nat.le_refl _) _
  have hl := h.lt
  have HC := hid (chain_one pb s t u 5 98 (some ⟨w.heap.size, 0, none⟩) 2 2 n _ enters_parser_term HS (h.on hb0) (Misses.mk2 (by omega) d0 d1 e0 e1))
  have HB := hid (Only.of_below (b := pb) hb0)
  clear h d0 d1 e0 e1 HS hb0
  go_enter Tryz.func70, Tryz.ntmps70
  go_wp2_with fail
  refine HC.out.mono ?_
  rintro e w2 ⟨ho, ha, rfl⟩
  have HR := hid (And.intro (HB.out.trans ho) ha)
  clear ho ha
  go_wp2_with fail
  go_ret
  exact ⟨HR.out.1, HR.out.2, rfl⟩

theorem enters_parser_neg : Enters 124 := enters_of Tryz.func124 (by kernel_rfl) rfl
theorem term_one (pb : Nat) (s : ByteArray) (t u : St) (n : Value) (HS : Gives 124 pb s t u n) (e0 : neS u.nm ⟨#[42]⟩) (e1 : neS u.nm ⟨#[47]⟩) (e2 : neS u.nm ⟨#[37]⟩) : Gives 98 pb s t u n := by
  intro w h
  have hmf : ∀ (fn : Fn) (first cap : Array Value) (w : World), (Instr.makeFunc fn first cap).run Tryz.prog w = .ok (.func fn first cap) w := fun _ _ _ _ => rfl
  have d0 : (w.alloc (.cells #[.string ⟨#[42]⟩, .string ⟨#[47]⟩, .string ⟨#[37]⟩] 9)).cell? ⟨w.heap.size, 0, none⟩ = some (.string ⟨#[42]⟩) := by simp [go_sem]
  have d1 : (w.alloc (.cells #[.string ⟨#[42]⟩, .string ⟨#[47]⟩, .string ⟨#[37]⟩] 9)).cell? ⟨w.heap.size, 1, none⟩ = some (.string ⟨#[47]⟩) := by simp [go_sem]
  have d2 : (w.alloc (.cells #[.string ⟨#[42]⟩, .string ⟨#[47]⟩, .string ⟨#[37]⟩] 9)).cell? ⟨w.heap.size, 2, none⟩ = some (.string ⟨#[37]⟩) := by simp [go_sem]
  have hb0 : Below w.heap.size w (w.alloc (.cells #[.string ⟨#[42]⟩, .string ⟨#[47]⟩, .string ⟨#[37]⟩] 9)) := (Below.refl _ _).alloc (Nat.le_refl _) _
  have hl := h.lt
  have HC := hid (chain_one pb s t u 6 124 (some ⟨w.heap.size, 0, none⟩) 3 3 n _ enters_parser_neg HS (h.on hb0) (Misses.mk3 (by omega) d0 d1 d2 e0 e1 e2))
  have HB := hid (Only.of_below (b := pb) hb0)
  clear h d0 d1 d2 e0 e1 e2 HS hb0
  go_enter Tryz.func98, Tryz.ntmps98
  go_wp2_with fail
  refine HC.out.mono ?_
  rintro e w2 ⟨ho, ha, rfl⟩
  have HR := hid (And.intro (HB.out.trans ho) ha)
  clear ho ha
  go_wp2_with fail
  go_ret
  exact ⟨HR.out.1, HR.out.2, rfl⟩

theorem sum_two0 (pb : Nat) (s : ByteArray) (t u v x : St) (n1 m1 : TypeId) (n2 m2 : Value) (HS : Gives 98 pb s t u (.iface n1 n2)) (HS2 : Gives 98 pb s v x (.iface m1 m2)) (hg : Goes pb s u v) (g0 : eqS u.nm ⟨#[43]⟩) (e0 : neS x.nm ⟨#[43]⟩) (e1 : neS x.nm ⟨#[45]⟩) : Gives 70 pb s t x (joinN 5 ⟨#[43]⟩ (.iface n1 n2) (.iface m1 m2)) := by
  intro w h
  have hmf : ∀ (fn : Fn) (first cap : Array Value) (w : World), (Instr.makeFunc fn first cap).run Tryz.prog w = .ok (.func fn first cap) w := fun _ _ _ _ => rfl
  have d0 : (w.alloc (.cells #[.string ⟨#[43]⟩, .string ⟨#[45]⟩] 9)).cell? ⟨w.heap.size, 0, none⟩ = some (.string ⟨#[43]⟩) := by simp [go_sem]
  have d1 : (w.alloc (.cells #[.string ⟨#[43]⟩, .string ⟨#[45]⟩] 9)).cell? ⟨w.heap.size, 1, none⟩ = some (.string ⟨#[45]⟩) := by simp [go_sem]
  have hb0 : Below w.heap.size w (w.alloc (.cells #[.string ⟨#[43]⟩, .string ⟨#[45]⟩] 9)) := (Below.refl _ _).alloc (Nat.le_refl _) _
  have hl := h.lt
  have HC := hid (chain_two pb s t u v x 5 98 (some ⟨w.heap.size, 0, none⟩) 2 2 n1 m1 n2 m2 ⟨#[43]⟩ _ enters_parser_term HS HS2 (h.on hb0) (Hits.mk20 (by omega) d0 g0 hg) (Misses.mk2 (by omega) d0 d1 e0 e1) (by rw [Lib.toList_data]; rfl))
  have HB := hid (Only.of_below (b := pb) hb0)
  clear h d0 d1 e0 e1 g0 HS HS2 hb0 hg
  unfold joinN at *
  go_enter Tryz.func70, Tryz.ntmps70
  go_wp2_with fail
  refine HC.out.mono ?_
  rintro e w2 ⟨ho, ha, rfl⟩
  have HR := hid (And.intro (HB.out.trans ho) ha)
  clear ho ha
  go_wp2_with fail
  go_ret
  exact ⟨HR.out.1, HR.out.2, rfl⟩

theorem sum_two1 (pb : Nat) (s : ByteArray) (t u v x : St) (n1 m1 : TypeId) (n2 m2 : Value) (HS : Gives 98 pb s t u (.iface n1 n2)) (HS2 : Gives 98 pb s v x (.iface m1 m2)) (hg : Goes pb s u v) (g0 : neS u.nm ⟨#[43]⟩) (g1 : eqS u.nm ⟨#[45]⟩) (e0 : neS x.nm ⟨#[43]⟩) (e1 : neS x.nm ⟨#[45]⟩) : Gives 70 pb s t x (joinN 5 ⟨#[45]⟩ (.iface n1 n2) (.iface m1 m2)) := by
  intro w h
  have hmf : ∀ (fn : Fn) (first cap : Array Value) (w : World), (Instr.makeFunc fn first cap).run Tryz.prog w = .ok (.func fn first cap) w := fun _ _ _ _ => rfl
  have d0 : (w.alloc (.cells #[.string ⟨#[43]⟩, .string ⟨#[45]⟩] 9)).cell? ⟨w.heap.size, 0, none⟩ = some (.string ⟨#[43]⟩) := by simp [go_sem]
  have d1 : (w.alloc (.cells #[.string ⟨#[43]⟩, .string ⟨#[45]⟩] 9)).cell? ⟨w.heap.size, 1, none⟩ = some (.string ⟨#[45]⟩) := by simp [go_sem]
  have hb0 : Below w.heap.size w (w.alloc (.cells #[.string ⟨#[43]⟩, .string ⟨#[45]⟩] 9)) := (Below.refl _ _).alloc (Nat.le_refl _) _
  have hl := h.lt
  have HC := hid (chain_two pb s t u v x 5 98 (some ⟨w.heap.size, 0, none⟩) 2 2 n1 m1 n2 m2 ⟨#[45]⟩ _ enters_parser_term HS HS2 (h.on hb0) (Hits.mk21 (by omega) d0 d1 g0 g1 hg) (Misses.mk2 (by omega) d0 d1 e0 e1) (by rw [Lib.toList_data]; rfl))
  have HB := hid (Only.of_below (b := pb) hb0)
  clear h d0 d1 e0 e1 g0 g1 HS HS2 hb0 hg
  unfold joinN at *
  go_enter Tryz.func70, Tryz.ntmps70
  go_wp2_with fail
  refine HC.out.mono ?_
  rintro e w2 ⟨ho, ha, rfl⟩
  have HR := hid (And.intro (HB.out.trans ho) ha)
  clear ho ha
  go_wp2_with fail
  go_ret
  exact ⟨HR.out.1, HR.out.2, rfl⟩

theorem term_two0 (pb : Nat) (s : ByteArray) (t u v x : St) (n1 m1 : TypeId) (n2 m2 : Value) (HS : Gives 124 pb s t u (.iface n1 n2)) (HS2 : Gives 124 pb s v x (.iface m1 m2)) (hg : Goes pb s u v) (g0 : eqS u.nm ⟨#[42]⟩) (e0 : neS x.nm ⟨#[42]⟩) (e1 : neS x.nm ⟨#[47]⟩) (e2 : neS x.nm ⟨#[37]⟩) : Gives 98 pb s t x (joinN 6 ⟨#[42]⟩ (.iface n1 n2) (.iface m1 m2)) := by
  intro w h
  have hmf : ∀ (fn : Fn) (first cap : Array Value) (w : World), (Instr.makeFunc fn first cap).run Tryz.prog w = .ok (.func fn first cap) w := fun _ _ _ _ => rfl
  have d0 : (w.alloc (.cells #[.string ⟨#[42]⟩, .string ⟨#[47]⟩, .string ⟨#[37]⟩] 9)).cell? ⟨w.heap.size, 0, none⟩ = some (.string ⟨#[42]⟩) := by simp [go_sem]
  have d1 : (w.alloc (.cells #[.string ⟨#[42]⟩, .string ⟨#[47]⟩, .string ⟨#[37]⟩] 9)).cell? ⟨w.heap.size, 1, none⟩ = some (.string ⟨#[47]⟩) := by simp [go_sem]
  have d2 : (w.alloc (.cells #[.string ⟨#[42]⟩, .string ⟨#[47]⟩, .string ⟨#[37]⟩] 9)).cell? ⟨w.heap.size, 2, none⟩ = some (.string ⟨#[37]⟩) := by simp [go_sem]
  have hb0 : Below w.heap.size w (w.alloc (.cells #[.string ⟨#[42]⟩, .string ⟨#[47]⟩, .string ⟨#[37]⟩] 9)) := (Below.refl _ _).alloc (Nat.le_refl _) _
  have hl := h.lt
  have HC := hid (chain_two pb s t u v x 6 124 (some ⟨w.heap.size, 0, none⟩) 3 3 n1 m1 n2 m2 ⟨#[42]⟩ _ enters_parser_neg HS HS2 (h.on hb0) (Hits.mk30 (by omega) d0 g0 hg) (Misses.mk3 (by omega) d0 d1 d2 e0 e1 e2) (by rw [Lib.toList_data]; rfl))
  have HB := hid (Only.of_below (b := pb) hb0)
  clear h d0 d1 d2 e0 e1 e2 g0 HS HS2 hb0 hg
  unfold joinN at *
  go_enter Tryz.func98, Tryz.ntmps98
  go_wp2_with fail
  refine HC.out.mono ?_
  rintro e w2 ⟨ho, ha, rfl⟩
  have HR := hid (And.intro (HB.out.trans ho) ha)
  clear ho ha
  go_wp2_with fail
  go_ret
  exact ⟨HR.out.1, HR.out.2, rfl⟩

theorem term_two1 (pb : Nat) (s : ByteArray) (t u v x : St) (n1 m1 : TypeId) (n2 m2 : Value) (HS : Gives 124 pb s t u (.iface n1 n2)) (HS2 : Gives 124 pb s v x (.iface m1 m2)) (hg : Goes pb s u v) (g0 : neS u.nm ⟨#[42]⟩) (g1 : eqS u.nm ⟨#[47]⟩) (e0 : neS x.nm ⟨#[42]⟩) (e1 : neS x.nm ⟨#[47]⟩) (e2 : neS x.nm ⟨#[37]⟩) : Gives 98 pb s t x (joinN 6 ⟨#[47]⟩ (.iface n1 n2) (.iface m1 m2)) := by
  intro w h
  have hmf : ∀ (fn : Fn) (first cap : Array Value) (w : World), (Instr.makeFunc fn first cap).run Tryz.prog w = .ok (.func fn first cap) w := fun _ _ _ _ => rfl
  have d0 : (w.alloc (.cells #[.string ⟨#[42]⟩, .string ⟨#[47]⟩, .string ⟨#[37]⟩] 9)).cell? ⟨w.heap.size, 0, none⟩ = some (.string ⟨#[42]⟩) := by simp [go_sem]
  have d1 : (w.alloc (.cells #[.string ⟨#[42]⟩, .string ⟨#[47]⟩, .string ⟨#[37]⟩] 9)).cell? ⟨w.heap.size, 1, none⟩ = some (.string ⟨#[47]⟩) := by simp [go_sem]
  have d2 : (w.alloc (.cells #[.string ⟨#[42]⟩, .string ⟨#[47]⟩, .string ⟨#[37]⟩] 9)).cell? ⟨w.heap.size, 2, none⟩ = some (.string ⟨#[37]⟩) := by simp [go_sem]
  have hb0 : Below w.heap.size w (w.alloc (.cells #[.string ⟨#[42]⟩, .string ⟨#[47]⟩, .string ⟨#[37]⟩] 9)) := (Below.refl _ _).alloc (Nat.le_refl _) _
  have hl := h.lt
  have HC := hid (chain_two pb s t u v x 6 124 (some ⟨w.heap.size, 0, none⟩) 3 3 n1 m1 n2 m2 ⟨#[47]⟩ _ enters_parser_neg HS HS2 (h.on hb0) (Hits.mk31 (by omega) d0 d1 g0 g1 hg) (Misses.mk3 (by omega) d0 d1 d2 e0 e1 e2) (by rw [Lib.toList_data]; rfl))
  have HB := hid (Only.of_below (b := pb) hb0)
  clear h d0 d1 d2 e0 e1 e2 g0 g1 HS HS2 hb0 hg
  unfold joinN at *
  go_enter Tryz.func98, Tryz.ntmps98
  go_wp2_with fail
  refine HC.out.mono ?_
  rintro e w2 ⟨ho, ha, rfl⟩
  have HR := hid (And.intro (HB.out.trans ho) ha)
  clear ho ha
  go_wp2_with fail
  go_ret
  exact ⟨HR.out.1, HR.out.2, rfl⟩

theorem term_two2 (pb : Nat) (s : ByteArray) (t u v x : St) (n1 m1 : TypeId) (n2 m2 : Value) (HS : Gives 124 pb s t u (.iface n1 n2)) (HS2 : Gives 124 pb s v x (.iface m1 m2)) (hg : Goes pb s u v) (g0 : neS u.nm ⟨#[42]⟩) (g1 : neS u.nm ⟨#[47]⟩) (g2 : eqS u.nm ⟨#[37]⟩) (e0 : neS x.nm ⟨#[42]⟩) (e1 : neS x.nm ⟨#[47]⟩) (e2 : neS x.nm ⟨#[37]⟩) : Gives 98 pb s t x (joinN 6 ⟨#[37]⟩ (.iface n1 n2) (.iface m1 m2)) := by
  intro w h
  have hmf : ∀ (fn : Fn) (first cap : Array Value) (w : World), (Instr.makeFunc fn first cap).run Tryz.prog w = .ok (.func fn first cap) w := fun _ _ _ _ => rfl
  have d0 : (w.alloc (.cells #[.string ⟨#[42]⟩, .string ⟨#[47]⟩, .string ⟨#[37]⟩] 9)).cell? ⟨w.heap.size, 0, none⟩ = some (.string ⟨#[42]⟩) := by simp [go_sem]
  have d1 : (w.alloc (.cells #[.string ⟨#[42]⟩, .string ⟨#[47]⟩, .string ⟨#[37]⟩] 9)).cell? ⟨w.heap.size, 1, none⟩ = some (.string ⟨#[47]⟩) := by simp [go_sem]
  have d2 : (w.alloc (.cells #[.string ⟨#[42]⟩, .string ⟨#[47]⟩, .string ⟨#[37]⟩] 9)).cell? ⟨w.heap.size, 2, none⟩ = some (.string ⟨#[37]⟩) := by simp [go_sem]
  have hb0 : Below w.heap.size w (w.alloc (.cells #[.string ⟨#[42]⟩, .string ⟨#[47]⟩, .string ⟨#[37]⟩] 9)) := (Below.refl _ _).alloc (Nat.le_refl _) _
  have hl := h.lt
  have HC := hid (chain_two pb s t u v x 6 124 (some ⟨w.heap.size, 0, none⟩) 3 3 n1 m1 n2 m2 ⟨#[37]⟩ _ enters_parser_neg HS HS2 (h.on hb0) (Hits.mk32 (by omega) d0 d1 d2 g0 g1 g2 hg) (Misses.mk3 (by omega) d0 d1 d2 e0 e1 e2) (by rw [Lib.toList_data]; rfl))
  have HB := hid (Only.of_below (b := pb) hb0)
  clear h d0 d1 d2 e0 e1 e2 g0 g1 g2 HS HS2 hb0 hg
  unfold joinN at *
  go_enter Tryz.func98, Tryz.ntmps98
  go_wp2_with fail
  refine HC.out.mono ?_
  rintro e w2 ⟨ho, ha, rfl⟩
  have HR := hid (And.intro (HB.out.trans ho) ha)
  clear ho ha
  go_wp2_with fail
  go_ret
  exact ⟨HR.out.1, HR.out.2, rfl⟩
end Go.Proofs.YtieknmpdmdbdlaaGreatDoor
