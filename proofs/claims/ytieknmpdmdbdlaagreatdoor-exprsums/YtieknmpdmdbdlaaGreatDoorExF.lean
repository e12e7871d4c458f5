import Derived.Test.YtieknmpdmdbdlaaGreatDoorExE
namespace Go.Proofs.YtieknmpdmdbdlaaGreatDoor
open Go.RowKit
set_option maxRecDepth 8000

/-- a word that stands for something given -/
def valB : ByteArray := ⟨#[118, 97, 108]⟩
def accB : ByteArray := ⟨#[97, 99, 99]⟩
theorem isWord_val (w : World) : Calls Tryz.prog 38 #[.string valB] w fun e w' => w' = w ∧ e = .returned (.bool true) := by
  unfold valB
  go_enter Tryz.func38, Tryz.ntmps38
  go_wp2
  go_ret
  exact ⟨rfl, rfl⟩
theorem isWord_acc (w : World) : Calls Tryz.prog 38 #[.string accB] w fun e w' => w' = w ∧ e = .returned (.bool true) := by
  unfold accB
  go_enter Tryz.func38, Tryz.ntmps38
  go_wp2
  go_ret
  exact ⟨rfl, rfl⟩

/-- a name's token -/
def nameT (a : Nat) (nm : ByteArray) : Value := .agg #[.int .i64 2, .int .i64 (a : Int), .string nm, .int .i64 0, .int .i64 0, .string ⟨#[]⟩, .slice none 0 0]
def endT (a : Nat) : Value := .agg #[.int .i64 0, .int .i64 (a : Int), .string ⟨#[]⟩, .int .i64 0, .int .i64 0, .string ⟨#[]⟩, .slice none 0 0]

/-- a token that is nought, in block tb -/
structure Zt (w : World) (tb : Nat) : Prop where
  c0 : w.cell? ⟨tb, 0, none⟩ = some (.int .i64 0)
  c1 : w.cell? ⟨tb, 1, none⟩ = some (.int .i64 0)
  c2 : w.cell? ⟨tb, 2, none⟩ = some (.string ⟨#[]⟩)
  c3 : w.cell? ⟨tb, 3, none⟩ = some (.int .i64 0)
  c4 : w.cell? ⟨tb, 4, none⟩ = some (.int .i64 0)
  c5 : w.cell? ⟨tb, 5, none⟩ = some (.string ⟨#[]⟩)
  c6 : w.cell? ⟨tb, 6, none⟩ = some (.slice none 0 0)
  fz : ∀ o, w.frozen? ⟨tb, o, none⟩ = false
theorem Only.frozen {b : Nat} {w w' : World} (h : Only b w w') {p : Addr} (hl : p.block < w.heap.size) (hb : p.block ≠ b) : w'.frozen? p = w.frozen? p :=
  World.frozen?_of_block (w := w) (h.block p.block hl hb)
theorem Zt.only {b : Nat} {w w' : World} {tb : Nat} (h : Zt w tb) (k : Only b w w') (hb : tb ≠ b) : Zt w' tb :=
  ⟨k.cell h.c0 hb, k.cell h.c1 hb, k.cell h.c2 hb, k.cell h.c3 hb, k.cell h.c4 hb, k.cell h.c5 hb, k.cell h.c6 hb, fun o => (k.frozen (p := ⟨tb, o, none⟩) (show tb < w.heap.size from cell_lt h.c0) hb).trans (h.fz o)⟩
theorem Zt.below {w w' : World} {tb : Nat} (h : Zt w tb) (k : Below w.heap.size w w') : Zt w' tb := h.only (b := tb + 1) (.of_below k) (by omega)
theorem Zt.new (w : World) : Zt (w.alloc (.cells #[.int .i64 0, .int .i64 0, .string ⟨#[]⟩, .int .i64 0, .int .i64 0, .string ⟨#[]⟩, .slice none 0 0] 53)) w.heap.size :=
  ⟨by simp, by simp, by simp, by simp, by simp, by simp, by simp, fun o => by simp⟩
theorem Nx.new {pb : Nat} {x w : World} {a tb : Nat} (h : Nx pb x w a) (ht : x.heap.size ≤ tb) (hp : pb < x.heap.size) (o : Nat) (u : Value) : Nx pb x (w.setCell ⟨tb, o, none⟩ u) a := by
  have hne : tb ≠ pb := by omega
  refine ⟨⟨h.only.os, h.only.tape, h.only.output, by simpa using h.only.size, fun k hk hb => (Below.heap_setCell w ⟨tb, o, none⟩ u k (by simp; omega)).trans (h.only.block k hk hb)⟩, fun o' ho => ?_, ?_, fun o' => (World.frozen?_setCell _ _ _ _).trans (h.froz o')⟩
  · exact (World.cell?_setCell_other _ _ _ _ (by intro h; cases h; exact hne rfl)).trans (h.other o' ho)
  · exact (World.cell?_setCell_other _ _ _ _ (by intro h; cases h; exact hne rfl)).trans h.at_

theorem word_any (pb : Nat) (s : ByteArray) (a n : Nat) (w : World) (h : Sc w pb s a) (ha : a + n ≤ s.size) (hs : s.size ≤ 1000) (hn : leadL letterS.data.toList (tl s a).data.toList = n)
    (HW : ∀ w1, Calls Tryz.prog 38 #[.string ((tl s a).extract 0 n)] w1 fun e w' => w' = w1 ∧ e = .returned (.bool true)) :
    Calls Tryz.prog 28 #[.pointer (some ⟨pb, 0, none⟩)] w fun e w' => Nx pb w w' (a + n) ∧ e = .returned (nameT a ((tl s a).extract 0 n)) := by
  have HR := hid (rest_any pb s a)
  have HC := hid (cut_any pb s a n)
  have HS := hid (span_any (tl s a) letterS)
  rw [hn] at HS
  have hz := tl_size s a
  have H := hid h
  have HWW := hid HW
  have c1 := h.c1
  clear h HW hn
  generalize tl s a = r at *
  unfold nameT
  have c1' := cell_al c1
  go_enter Tryz.func28, Tryz.ntmps28
  go_wp2_with fail
  have HZ0 := hid (Zt.new w)
  have HB0 := hid ((Below.refl w.heap.size w).alloc (Nat.le_refl _) (.cells #[.int .i64 0, .int .i64 0, .string ⟨#[]⟩, .int .i64 0, .int .i64 0, .string ⟨#[]⟩, .slice none 0 0] 53))
  have HP := hid (show pb < w.heap.size from cell_lt c1)
  generalize w.alloc (.cells #[.int .i64 0, .int .i64 0, .string ⟨#[]⟩, .int .i64 0, .int .i64 0, .string ⟨#[]⟩, .slice none 0 0] 53) = w0 at *
  have H0 := hid (H.out.on HB0.out)
  have N0 := hid (Nx.of_below H.out HB0.out)
  clear c1 c1'
  refine (HR.out w0 H0.out (by omega)).mono ?_
  rintro e w1 ⟨hb1, rfl⟩
  have H1 := hid (H0.out.on hb1)
  have N1 := hid (N0.out.trans (Nx.of_below H0.out hb1))
  have Z1 := hid (HZ0.out.below hb1)
  clear hb1
  go_wp2_with fail
  refine (HS.out w1 (by omega) (by decide) (by decide)).mono ?_
  rintro e w2 ⟨rfl, hb2⟩
  have H2 := hid (H1.out.on hb2)
  have N2 := hid (N1.out.trans (Nx.of_below H1.out hb2))
  have Z2 := hid (Z1.out.below hb2)
  clear hb2
  go_wp2_with fail
  refine (HC.out w2 H2.out ha hs).mono ?_
  rintro e w3 ⟨hn3, rfl⟩
  have N3 := hid (N2.out.trans hn3)
  have Z3 := hid (Z2.out.only hn3.only (by have := HP.out; omega))
  clear hn3
  go_wp2_with fail
  refine (HWW.out w3).mono ?_
  rintro e w4 ⟨rfl, rfl⟩
  obtain ⟨z0, z1, z2, z3, z4, z5, z6, zf⟩ := Z3.out
  generalize hq : w.heap.size = tb at *
  go_wp2
  refine bodyPost_ret (v := nameT a (r.extract 0 n)) (by simp [results, Tryz.results28, go_sem, nameT, z0, z1, z2, z3, z4, z5, z6]) rfl ⟨?_, rfl⟩
  have ht : w.heap.size ≤ tb := by omega
  have hp : pb < w.heap.size := by have := HP.out; omega
  exact ((((((N3.out.new ht hp _ _).new ht hp _ _).new ht hp _ _).new ht hp _ _).new ht hp _ _).new ht hp _ _).new ht hp _ _

/-- does a text begin with another -/
def preB (r q : ByteArray) : Bool := decide (q.size ≤ r.size) && ((r.data.toList.take q.size) == q.data.toList)
theorem prefix_any (r q : ByteArray) (w : World) : Calls Tryz.prog 53 #[.string r, .string q] w fun e w' => w' = w ∧ e = .returned (.bool (preB r q)) := by
  unfold preB
  by_cases h : q.size ≤ r.size
  · rw [decide_eq_true h]
    go_enter Tryz.func53, Tryz.ntmps53
    go_wp2
    refine bodyPost_ret (v := .bool ((r.extract 0 q.size).toList == q.toList)) (by simp [results, Tryz.results53, go_sem]) rfl ⟨rfl, ?_⟩
    rw [Lib.toList_data, Lib.toList_data, Lib.extract_data]
    rfl
  · rw [decide_eq_false h]
    go_enter Tryz.func53, Tryz.ntmps53
    go_wp2
    exact bodyPost_ret (v := .bool false) (by simp [results, Tryz.results53, go_sem]) rfl ⟨rfl, rfl⟩

def leB : ByteArray := ⟨#[60, 61]⟩
def geB : ByteArray := ⟨#[62, 61]⟩
def eqB : ByteArray := ⟨#[61, 61]⟩
def neB : ByteArray := ⟨#[33, 61]⟩
def signS : ByteArray := ⟨#[43, 45, 42, 47, 37, 40, 41, 91, 93, 44, 60, 62]⟩
theorem get_head {r : ByteArray} {c : UInt8} {t : List UInt8} (h : r.data.toList = c :: t) (h0 : 0 < r.size) : r[0]'h0 = c := by
  obtain ⟨⟨l⟩⟩ := r
  simp at h
  subst h
  rfl
theorem signSize_one (r : ByteArray) (c : UInt8) (t : List UInt8) (w : World) (hr : r.data.toList = c :: t) (hi : 0 ≤ Lib.indexByte signS.data.toList c) (h1 : preB r leB = false) (h2 : preB r geB = false) (h3 : preB r eqB = false) (h4 : preB r neB = false) (h0 : 0 < r.size) : Calls Tryz.prog 42 #[.string r] w fun e w' => Below w.heap.size w w' ∧ e = .returned (.int .i64 1) := by
  have HP := hid (prefix_any r)
  have HI := hid (Tryz.strings_IndexByte signS (c.toNat : Int))
  rw [show ((c.toNat : Int)).toNat.toUInt8 = c by simp] at HI
  have hg := get_head hr h0
  have i0 : ∀ w : World, (Instr.index 102 (.agg #[.string ⟨#[60, 61]⟩, .string ⟨#[62, 61]⟩, .string ⟨#[61, 61]⟩, .string ⟨#[33, 61]⟩]) (.int .i64 0)).run Tryz.prog w = .ok (.string ⟨#[60, 61]⟩) w := fun _ => by kernel_rfl
  have i1 : ∀ w : World, (Instr.index 102 (.agg #[.string ⟨#[60, 61]⟩, .string ⟨#[62, 61]⟩, .string ⟨#[61, 61]⟩, .string ⟨#[33, 61]⟩]) (.int .i64 1)).run Tryz.prog w = .ok (.string ⟨#[62, 61]⟩) w := fun _ => by kernel_rfl
  have i2 : ∀ w : World, (Instr.index 102 (.agg #[.string ⟨#[60, 61]⟩, .string ⟨#[62, 61]⟩, .string ⟨#[61, 61]⟩, .string ⟨#[33, 61]⟩]) (.int .i64 2)).run Tryz.prog w = .ok (.string ⟨#[61, 61]⟩) w := fun _ => by kernel_rfl
  have i3 : ∀ w : World, (Instr.index 102 (.agg #[.string ⟨#[60, 61]⟩, .string ⟨#[62, 61]⟩, .string ⟨#[61, 61]⟩, .string ⟨#[33, 61]⟩]) (.int .i64 3)).run Tryz.prog w = .ok (.string ⟨#[33, 61]⟩) w := fun _ => by kernel_rfl
  go_enter Tryz.func42, Tryz.ntmps42
  go_wp2_with fail
  refine wp_loop_rounds 5 ?_
  rw [rounds_succ]
  go_wp2_with fail
  refine (HP.out leB _).mono ?_
  rintro e w1 ⟨rfl, rfl⟩
  rw [h1]
  go_wp2_with fail
  rw [rounds_succ]
  go_wp2_with fail
  refine (HP.out geB _).mono ?_
  rintro e w1 ⟨rfl, rfl⟩
  rw [h2]
  go_wp2_with fail
  rw [rounds_succ]
  go_wp2_with fail
  refine (HP.out eqB _).mono ?_
  rintro e w1 ⟨rfl, rfl⟩
  rw [h3]
  go_wp2_with fail
  rw [rounds_succ]
  go_wp2_with fail
  refine (HP.out neB _).mono ?_
  rintro e w1 ⟨rfl, rfl⟩
  rw [h4]
  go_wp2_with fail
  rw [rounds_succ]
  go_wp2_with fail
  refine (HI.out _).mono ?_
  rintro e w1 ⟨rfl, rfl⟩
  generalize Lib.indexByte signS.data.toList c = z at *
  go_wp2
  go_ret
  exact ⟨Below.refl _ _, rfl⟩
end Go.Proofs.YtieknmpdmdbdlaaGreatDoor
