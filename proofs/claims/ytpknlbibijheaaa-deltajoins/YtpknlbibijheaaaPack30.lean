import Derived.Test.YtpknlbibijheaaaPack10
import Derived.Test.YtpknlbibijheaaaPack0
namespace Go.Proofs.Ytpknlbibijheaaa
open Go.RowKit
set_option maxRecDepth 8000

/-- a part of a value, as the reference keeps it -/
structure PT where
  kind : Int
  int : Int
  text : ByteArray
  n : Nat
def PT.cells (q : PT) : List Value := [.int .i64 q.kind, .int .i64 q.int, .string q.text, .int .i64 q.n]
/-- the cells of parts -/
def ptCells (l : List PT) : List Value := l.flatMap PT.cells
/-- the parts of t, from the left -/
def flatP : VT → List PT
  | .nil => [⟨0, 0, ⟨#[]⟩, 0⟩]
  | .mk k i s n _ _ f => ⟨k, i, s, n⟩ :: (List.range n).flatMap fun j => flatP (f j)
theorem flatP_eq (k i : Int) (s : ByteArray) (n : Nat) (p : Option Addr) (c : Nat) (f : Nat → VT) : flatP (.mk k i s n p c f) = ⟨k, i, s, n⟩ :: (List.range n).flatMap fun j => flatP (f j) := rfl
/-- the parts of the first j items -/
def flatN (f : Nat → VT) (j : Nat) : List PT := (List.range j).flatMap fun j => flatP (f j)
theorem flatN_succ (f : Nat → VT) (j : Nat) : flatN f (j + 1) = flatN f j ++ flatP (f j) := by simp [flatN, List.range_succ, List.flatMap_append]

/-- where nothing is wrong, as many parts were looked at as there are -/
theorem chk_len : ∀ (t : VT) (d m : Nat), (chk t d m).1 = 0 → (chk t d m).2 = m + (flatP t).length := by
  intro t
  induction t with
  | nil =>
    intro d m
    unfold chk
    by_cases h1 : 12 ≤ m
    · rw [if_pos h1]; intro h; simp at h
    · rw [if_neg h1]; intro _; rfl
  | mk k i s n p c f ih =>
    intro d m
    rw [chk_eq, flatP_eq]
    have key : ∀ j, (stepN (fun j m => chk (f j) (d + 1) m) (m + 1) j).1 = 0 → (stepN (fun j m => chk (f j) (d + 1) m) (m + 1) j).2 = m + 1 + (flatN f j).length := by
      intro j
      induction j with
      | zero => intro _; rfl
      | succ j ihj =>
        by_cases h : (stepN (fun j m => chk (f j) (d + 1) m) (m + 1) j).1 = 0
        · rw [stepN_succ h]
          intro h2
          rw [ih j _ _ h2, ihj h, flatN_succ, List.length_append]; omega
        · rw [stepN_stuck (Nat.le_succ j) h]
          intro h2; exact absurd h2 h
    by_cases h1 : 12 ≤ m
    · rw [if_pos h1]; intro h; simp at h
    rw [if_neg h1]
    by_cases h2 : fitB k i s n = false
    · rw [if_pos h2]; intro h; simp at h
    rw [if_neg h2]
    by_cases h3 : k = 3 ∧ 3 ≤ d
    · rw [if_pos h3]; intro h; simp at h
    rw [if_neg h3]
    by_cases h4 : 24 < s.size
    · rw [if_pos h4]; intro h; simp at h
    rw [if_neg h4]
    by_cases h5 : 6 < n
    · rw [if_pos h5]; intro h; simp at h
    rw [if_neg h5]
    intro h
    rw [key n h]
    simp only [List.length_cons, flatN]; omega

/-- what flat leaves: the list is where it was or in new memory; nothing else is changed -/
structure Laid (w w' : World) (v v' : Value) : Prop where
  near : Near w v v'
  but : But (fun k => v.ownBlock = some k) w w'
theorem Laid.refl (w : World) (v : Value) : Laid w w v v := ⟨.inl rfl, But.refl _ _⟩
theorem Laid.trans {a b c : World} {u v x : Value} (h : Laid a b u v) (k : Laid b c v x) : Laid a c u x := by
  refine ⟨?_, ?_⟩
  · rcases k.near with e | e
    · rcases h.near with e2 | e2
      · exact .inl (e.trans e2)
      · exact .inr fun g hg => e2 g (e ▸ hg)
    · exact .inr fun g hg => Nat.le_trans h.but.size (e g hg)
  · refine ⟨k.but.os.trans h.but.os, k.but.tape.trans h.but.tape, k.but.output.trans h.but.output, Nat.le_trans h.but.size k.but.size, fun q hq hx => ?_⟩
    refine (k.but.block q (Nat.lt_of_lt_of_le hq h.but.size) fun e => ?_).trans (h.but.block q hq hx)
    rcases h.near with e2 | e2
    · exact hx (e2 ▸ e)
    · have := e2 q e; omega
theorem Laid.below {w w1 w' : World} {v v' : Value} (h : Laid w w1 v v') (hb : Below w1.heap.size w1 w') : Laid w w' v v' := h.trans ⟨.inl rfl, But.ofBelow hb⟩
end Go.Proofs.Ytpknlbibijheaaa

namespace Go.Proofs.Ytpknlbibijheaaa
open Go.RowKit
set_option maxRecDepth 8000
theorem kindP : ∃ i, Kind 140 153 i (.agg #[.int .i64 0, .int .i64 0, .string ⟨#[]⟩, .int .i64 0]) 4 40 := by
  obtain ⟨i0, hi, hz0, hz1, hz2⟩ := info_parts (show (Try.prog.info? 153).map (fun i => (i.zero, i.size, i.bytes)) = some (some (.agg #[.int .i64 0, .int .i64 0, .string ⟨#[]⟩, .int .i64 0]), 4, 40) by kernel_rfl)
  exact ⟨i0, Try.underlying140, hi, hz0, hz1, hz2, rfl, by decide⟩
end Go.Proofs.Ytpknlbibijheaaa

namespace Go.Proofs.Ytpknlbibijheaaa
open Go.RowKit
set_option maxRecDepth 8000

/-- the shapes of a part whose fields fit its kind -/
inductive Shp : Int → Int → ByteArray → Nat → Prop
  | none (s : ByteArray) (h : s.toList = []) : Shp 0 0 s 0
  | zero (s : ByteArray) (h : s.toList = []) : Shp 1 0 s 0
  | int (i : Int) (s : ByteArray) (hi : ¬ i = 0) (h : s.toList = []) : Shp 1 i s 0
  | empty (s : ByteArray) (h : s.toList = []) : Shp 2 0 s 0
  | text (s : ByteArray) (h : ¬ s.toList = []) : Shp 2 0 s 0
  | bare (s : ByteArray) (h : s.toList = []) : Shp 3 0 s 0
  | list (s : ByteArray) (n : Nat) (h : s.toList = []) (hn : 0 < n) : Shp 3 0 s n
theorem shp_of {k i : Int} {s : ByteArray} {n : Nat} (h : fitB k i s n = true) : Shp k i s n := by
  simp only [fitB, Bool.and_eq_true, Bool.or_eq_true, decide_eq_true_eq, List.isEmpty_iff] at h
  obtain ⟨⟨⟨⟨h0, h3⟩, hi⟩, hs⟩, hn⟩ := h
  obtain rfl | rfl | rfl | rfl : k = 0 ∨ k = 1 ∨ k = 2 ∨ k = 3 := by omega
  · obtain rfl : i = 0 := by omega
    obtain rfl : n = 0 := by omega
    exact .none s (by simpa using hs)
  · obtain rfl : n = 0 := by omega
    by_cases h : i = 0
    · subst h; exact .zero s (by simpa using hs)
    · exact .int i s h (by simpa using hs)
  · obtain rfl : n = 0 := by omega
    obtain rfl : i = 0 := by omega
    by_cases h : s.toList = []
    · exact .empty s h
    · exact .text s h
  · obtain rfl : i = 0 := by omega
    by_cases h : n = 0
    · subst h; exact .bare s (by simpa using hs)
    · exact .list s n (by simpa using hs) (by omega)

set_option maxHeartbeats 1000000 in
theorem flat_deep (s : ByteArray) (n : Nat) (p : Option Addr) (c : Nat) (q : Option Addr) (m e d : Nat) (w : World) (_hm : ¬ (12 : Int) ≤ (m : Int)) (_hs : s.toList = []) (_hd : (3 : Int) ≤ (d : Int)) (_hn : 0 < n) :
    Calls Try.prog 92 #[.agg #[.int .i64 3, .int .i64 0, .string s, .slice p n c], .int .i64 d, .slice q m e] w fun r w' => r = .returned (.tuple #[.slice q m e, .int .i64 23]) ∧ Below w.heap.size w w' := by
  go_enter Try.func92, Try.ntmps92
  go_wp2_with fail
  go_ret2
  exact ⟨rfl, (Below.refl _ _).alloc (Nat.le_refl _) _⟩
set_option maxHeartbeats 1000000 in
theorem flat_deep0 (s : ByteArray) (p : Option Addr) (c : Nat) (q : Option Addr) (m e d : Nat) (w : World) (_hm : ¬ (12 : Int) ≤ (m : Int)) (_hs : s.toList = []) (_hd : (3 : Int) ≤ (d : Int)) :
    Calls Try.prog 92 #[.agg #[.int .i64 3, .int .i64 0, .string s, .slice p 0 c], .int .i64 d, .slice q m e] w fun r w' => r = .returned (.tuple #[.slice q m e, .int .i64 23]) ∧ Below w.heap.size w w' := by
  go_enter Try.func92, Try.ntmps92
  go_wp2_with fail
  go_ret2
  exact ⟨rfl, (Below.refl _ _).alloc (Nat.le_refl _) _⟩
set_option maxHeartbeats 1000000 in
theorem flat_long (s : ByteArray) (p : Option Addr) (c : Nat) (q : Option Addr) (m e d : Nat) (w : World) (_hm : ¬ (12 : Int) ≤ (m : Int)) (_hs : ¬ s.toList = []) (_hl : (24 : Int) < (s.size : Int)) :
    Calls Try.prog 92 #[.agg #[.int .i64 2, .int .i64 0, .string s, .slice p 0 c], .int .i64 d, .slice q m e] w fun r w' => r = .returned (.tuple #[.slice q m e, .int .i64 21]) ∧ Below w.heap.size w w' := by
  go_enter Try.func92, Try.ntmps92
  go_wp2_with fail
  go_ret2
  exact ⟨rfl, (Below.refl _ _).alloc (Nat.le_refl _) _⟩
set_option maxHeartbeats 1000000 in
theorem flat_wide (s : ByteArray) (n : Nat) (p : Option Addr) (c : Nat) (q : Option Addr) (m e d : Nat) (w : World) (_hm : ¬ (12 : Int) ≤ (m : Int)) (_hs : s.toList = []) (_hz : ¬ (24 : Int) < (s.size : Int)) (_hd : ¬ (3 : Int) ≤ (d : Int)) (_hn : 0 < n) (_hw : (6 : Int) < (n : Int)) :
    Calls Try.prog 92 #[.agg #[.int .i64 3, .int .i64 0, .string s, .slice p n c], .int .i64 d, .slice q m e] w fun r w' => r = .returned (.tuple #[.slice q m e, .int .i64 22]) ∧ Below w.heap.size w w' := by
  go_enter Try.func92, Try.ntmps92
  go_wp2_with fail
  go_ret2
  exact ⟨rfl, (Below.refl _ _).alloc (Nat.le_refl _) _⟩

/-- the list with one part more -/
structure More (base : Nat) (w w' : World) (v v' : Value) (l : List PT) : Prop where
  laid : Laid w w' v v'
  own : w'.ownsRow base 153 4 v' l.length (ptCells l)
theorem More.of {base : Nat} {w w1 w' : World} {v v' : Value} {l : List PT} {q : PT} (hb : Below w.heap.size w w1) (h : w'.ownsRow base 153 4 v' (l.length + 1) (ptCells l ++ q.cells)) (hg : w1.grownBy w' v.ownBlock) (hn : Near w1 v v') : More base w w' v v' (l ++ [q]) := by
  refine ⟨⟨?_, ?_⟩, ?_⟩
  · rcases hn with e | e
    · exact .inl e
    · exact .inr fun g hg => Nat.le_trans hb.size (e g hg)
  · exact (But.ofBelow hb).grown hg fun k hk _ => hk
  · have e : (l ++ [q]).length = l.length + 1 := by simp
    have e2 : ptCells (l ++ [q]) = ptCells l ++ q.cells := by simp [ptCells]
    rw [e, e2]; exact h
theorem oneCell_pt (q : PT) : ∀ u ∈ q.cells, u.oneCell' = true := by
  intro u hu
  simp only [PT.cells, List.mem_cons, List.not_mem_nil, or_false] at hu
  rcases hu with rfl | rfl | rfl | rfl <;> rfl
set_option maxHeartbeats 2000000 in
theorem flat_none (s : ByteArray) (p : Option Addr) (c : Nat) (l : List PT) (q : Option Addr) (m e d base : Nat) (w : World) (hl : l.length = m) (hm : m < 12) (_hm : ¬ (12 : Int) ≤ (m : Int)) (_hs : s.toList = []) (_hz : ¬ (24 : Int) < (s.size : Int)) (hR : w.ownsRow base 153 4 (.slice q m e) m (ptCells l)) (hbase : base ≤ w.heap.size) :
    Calls Try.prog 92 #[.agg #[.int .i64 0, .int .i64 0, .string s, .slice p 0 c], .int .i64 d, .slice q m e] w fun r w' => ∃ v', r = .returned (.tuple #[v', .int .i64 0]) ∧ More base w w' (.slice q m e) v' (l ++ [⟨0, 0, s, 0⟩]) := by
  obtain ⟨i0, Kd⟩ := kindP
  have HL : Hid (l.length = m) := hl
  have HN : Hid (∀ j u, [Value.int .i64 0, Value.int .i64 0, Value.string s, Value.int .i64 0][j]? = some u → ((w.alloc (.cells #[.int .i64 0, .int .i64 0, .string s, .slice p 0 c] 60)).alloc (.cells #[.int .i64 0, .int .i64 0, .string s, .int .i64 0] 153)).cell? ((⟨w.heap.size + 1, 0, none⟩ : Addr).add j) = some u) := by
    unfold Hid
    have h := news4 (w.alloc (.cells #[.int .i64 0, .int .i64 0, .string s, .slice p 0 c] 60)) (.int .i64 0) (.int .i64 0) (.string s) (.int .i64 0) 153
    rw [show (w.alloc (.cells #[.int .i64 0, .int .i64 0, .string s, .slice p 0 c] 60)).heap.size = w.heap.size + 1 by simp] at h
    exact h
  clear hl
  go_enter Try.func92, Try.ntmps92
  go_wp2_with (at_builtin; refine wpList_app rfl (.tmp 79) (.tmp 90) 140 153 i0 _ 4 40 Kd rfl base (.slice q m e) m (ptCells l) rfl ((hR.alloc _).alloc _) ⟨w.heap.size + 1, 0, none⟩ 1 1 [.int .i64 0, .int .i64 0, .string s, .int .i64 0] rfl rfl HN.out (oneCell_pt ⟨0, 0, s, 0⟩) (by omega) (by omega) (by simp; omega) ?_)
  intro v' w' ho hg hn
  have HM : Hid (More base w w' (.slice q m e) v' (l ++ [⟨0, 0, s, 0⟩])) :=
    More.of (((Below.refl _ _).alloc (Nat.le_refl _) _).alloc (by simp) _) (by rw [HL.out]; exact ho) hg hn
  have hbx : Box w' w.heap.size #[.int .i64 0, .int .i64 0, .string s, .slice p 0 c] 60 := by
    refine ((Box.new w _ 60).below ((Below.refl _ _).alloc (Nat.le_refl _) (.cells #[.int .i64 0, .int .i64 0, .string s, .int .i64 0] 153))).kept (hg.block _ (by simp; omega) fun h => ?_)
    have := (hR.lt _ h.symm).2
    omega
  have y3 := hbx.cell 3
  simp at y3
  clear ho hg hn hR hbx HN
  go_wp2_with fail
  refine wp_loop_rounds 1 ?_
  rw [rounds_succ]
  go_wp2
  go_ret2
  exact ⟨v', rfl, HM.out⟩

set_option maxHeartbeats 2000000 in
theorem flat_zero (s : ByteArray) (p : Option Addr) (c : Nat) (l : List PT) (q : Option Addr) (m e d base : Nat) (w : World) (hl : l.length = m) (hm : m < 12) (_hm : ¬ (12 : Int) ≤ (m : Int)) (_hs : s.toList = []) (_hz : ¬ (24 : Int) < (s.size : Int)) (hR : w.ownsRow base 153 4 (.slice q m e) m (ptCells l)) (hbase : base ≤ w.heap.size) :
    Calls Try.prog 92 #[.agg #[.int .i64 1, .int .i64 0, .string s, .slice p 0 c], .int .i64 d, .slice q m e] w fun r w' => ∃ v', r = .returned (.tuple #[v', .int .i64 0]) ∧ More base w w' (.slice q m e) v' (l ++ [⟨1, 0, s, 0⟩]) := by
  obtain ⟨i0, Kd⟩ := kindP
  have HL : Hid (l.length = m) := hl
  have HN : Hid (∀ j u, [Value.int .i64 1, Value.int .i64 0, Value.string s, Value.int .i64 0][j]? = some u → ((w.alloc (.cells #[.int .i64 1, .int .i64 0, .string s, .slice p 0 c] 60)).alloc (.cells #[.int .i64 1, .int .i64 0, .string s, .int .i64 0] 153)).cell? ((⟨w.heap.size + 1, 0, none⟩ : Addr).add j) = some u) := by
    unfold Hid
    have h := news4 (w.alloc (.cells #[.int .i64 1, .int .i64 0, .string s, .slice p 0 c] 60)) (.int .i64 1) (.int .i64 0) (.string s) (.int .i64 0) 153
    rw [show (w.alloc (.cells #[.int .i64 1, .int .i64 0, .string s, .slice p 0 c] 60)).heap.size = w.heap.size + 1 by simp] at h
    exact h
  clear hl
  go_enter Try.func92, Try.ntmps92
  go_wp2_with (at_builtin; refine wpList_app rfl (.tmp 79) (.tmp 90) 140 153 i0 _ 4 40 Kd rfl base (.slice q m e) m (ptCells l) rfl ((hR.alloc _).alloc _) ⟨w.heap.size + 1, 0, none⟩ 1 1 [.int .i64 1, .int .i64 0, .string s, .int .i64 0] rfl rfl HN.out (oneCell_pt ⟨1, 0, s, 0⟩) (by omega) (by omega) (by simp; omega) ?_)
  intro v' w' ho hg hn
  have HM : Hid (More base w w' (.slice q m e) v' (l ++ [⟨1, 0, s, 0⟩])) :=
    More.of (((Below.refl _ _).alloc (Nat.le_refl _) _).alloc (by simp) _) (by rw [HL.out]; exact ho) hg hn
  have hbx : Box w' w.heap.size #[.int .i64 1, .int .i64 0, .string s, .slice p 0 c] 60 := by
    refine ((Box.new w _ 60).below ((Below.refl _ _).alloc (Nat.le_refl _) (.cells #[.int .i64 1, .int .i64 0, .string s, .int .i64 0] 153))).kept (hg.block _ (by simp; omega) fun h => ?_)
    have := (hR.lt _ h.symm).2
    omega
  have y3 := hbx.cell 3
  simp at y3
  clear ho hg hn hR hbx HN
  go_wp2_with fail
  refine wp_loop_rounds 1 ?_
  rw [rounds_succ]
  go_wp2
  go_ret2
  exact ⟨v', rfl, HM.out⟩

set_option maxHeartbeats 2000000 in
theorem flat_int (i : Int) (s : ByteArray) (p : Option Addr) (c : Nat) (l : List PT) (q : Option Addr) (m e d base : Nat) (w : World) (hl : l.length = m) (hm : m < 12) (_hm : ¬ (12 : Int) ≤ (m : Int)) (_hi : ¬ i = 0) (_hs : s.toList = []) (_hz : ¬ (24 : Int) < (s.size : Int)) (hR : w.ownsRow base 153 4 (.slice q m e) m (ptCells l)) (hbase : base ≤ w.heap.size) :
    Calls Try.prog 92 #[.agg #[.int .i64 1, .int .i64 i, .string s, .slice p 0 c], .int .i64 d, .slice q m e] w fun r w' => ∃ v', r = .returned (.tuple #[v', .int .i64 0]) ∧ More base w w' (.slice q m e) v' (l ++ [⟨1, i, s, 0⟩]) := by
  obtain ⟨i0, Kd⟩ := kindP
  have HL : Hid (l.length = m) := hl
  have HN : Hid (∀ j u, [Value.int .i64 1, Value.int .i64 i, Value.string s, Value.int .i64 0][j]? = some u → ((w.alloc (.cells #[.int .i64 1, .int .i64 i, .string s, .slice p 0 c] 60)).alloc (.cells #[.int .i64 1, .int .i64 i, .string s, .int .i64 0] 153)).cell? ((⟨w.heap.size + 1, 0, none⟩ : Addr).add j) = some u) := by
    unfold Hid
    have h := news4 (w.alloc (.cells #[.int .i64 1, .int .i64 i, .string s, .slice p 0 c] 60)) (.int .i64 1) (.int .i64 i) (.string s) (.int .i64 0) 153
    rw [show (w.alloc (.cells #[.int .i64 1, .int .i64 i, .string s, .slice p 0 c] 60)).heap.size = w.heap.size + 1 by simp] at h
    exact h
  clear hl
  go_enter Try.func92, Try.ntmps92
  go_wp2_with (at_builtin; refine wpList_app rfl (.tmp 79) (.tmp 90) 140 153 i0 _ 4 40 Kd rfl base (.slice q m e) m (ptCells l) rfl ((hR.alloc _).alloc _) ⟨w.heap.size + 1, 0, none⟩ 1 1 [.int .i64 1, .int .i64 i, .string s, .int .i64 0] rfl rfl HN.out (oneCell_pt ⟨1, i, s, 0⟩) (by omega) (by omega) (by simp; omega) ?_)
  intro v' w' ho hg hn
  have HM : Hid (More base w w' (.slice q m e) v' (l ++ [⟨1, i, s, 0⟩])) :=
    More.of (((Below.refl _ _).alloc (Nat.le_refl _) _).alloc (by simp) _) (by rw [HL.out]; exact ho) hg hn
  have hbx : Box w' w.heap.size #[.int .i64 1, .int .i64 i, .string s, .slice p 0 c] 60 := by
    refine ((Box.new w _ 60).below ((Below.refl _ _).alloc (Nat.le_refl _) (.cells #[.int .i64 1, .int .i64 i, .string s, .int .i64 0] 153))).kept (hg.block _ (by simp; omega) fun h => ?_)
    have := (hR.lt _ h.symm).2
    omega
  have y3 := hbx.cell 3
  simp at y3
  clear ho hg hn hR hbx HN
  go_wp2_with fail
  refine wp_loop_rounds 1 ?_
  rw [rounds_succ]
  go_wp2
  go_ret2
  exact ⟨v', rfl, HM.out⟩

set_option maxHeartbeats 2000000 in
theorem flat_empty (s : ByteArray) (p : Option Addr) (c : Nat) (l : List PT) (q : Option Addr) (m e d base : Nat) (w : World) (hl : l.length = m) (hm : m < 12) (_hm : ¬ (12 : Int) ≤ (m : Int)) (_hs : s.toList = []) (_hz : ¬ (24 : Int) < (s.size : Int)) (hR : w.ownsRow base 153 4 (.slice q m e) m (ptCells l)) (hbase : base ≤ w.heap.size) :
    Calls Try.prog 92 #[.agg #[.int .i64 2, .int .i64 0, .string s, .slice p 0 c], .int .i64 d, .slice q m e] w fun r w' => ∃ v', r = .returned (.tuple #[v', .int .i64 0]) ∧ More base w w' (.slice q m e) v' (l ++ [⟨2, 0, s, 0⟩]) := by
  obtain ⟨i0, Kd⟩ := kindP
  have HL : Hid (l.length = m) := hl
  have HN : Hid (∀ j u, [Value.int .i64 2, Value.int .i64 0, Value.string s, Value.int .i64 0][j]? = some u → ((w.alloc (.cells #[.int .i64 2, .int .i64 0, .string s, .slice p 0 c] 60)).alloc (.cells #[.int .i64 2, .int .i64 0, .string s, .int .i64 0] 153)).cell? ((⟨w.heap.size + 1, 0, none⟩ : Addr).add j) = some u) := by
    unfold Hid
    have h := news4 (w.alloc (.cells #[.int .i64 2, .int .i64 0, .string s, .slice p 0 c] 60)) (.int .i64 2) (.int .i64 0) (.string s) (.int .i64 0) 153
    rw [show (w.alloc (.cells #[.int .i64 2, .int .i64 0, .string s, .slice p 0 c] 60)).heap.size = w.heap.size + 1 by simp] at h
    exact h
  clear hl
  go_enter Try.func92, Try.ntmps92
  go_wp2_with (at_builtin; refine wpList_app rfl (.tmp 79) (.tmp 90) 140 153 i0 _ 4 40 Kd rfl base (.slice q m e) m (ptCells l) rfl ((hR.alloc _).alloc _) ⟨w.heap.size + 1, 0, none⟩ 1 1 [.int .i64 2, .int .i64 0, .string s, .int .i64 0] rfl rfl HN.out (oneCell_pt ⟨2, 0, s, 0⟩) (by omega) (by omega) (by simp; omega) ?_)
  intro v' w' ho hg hn
  have HM : Hid (More base w w' (.slice q m e) v' (l ++ [⟨2, 0, s, 0⟩])) :=
    More.of (((Below.refl _ _).alloc (Nat.le_refl _) _).alloc (by simp) _) (by rw [HL.out]; exact ho) hg hn
  have hbx : Box w' w.heap.size #[.int .i64 2, .int .i64 0, .string s, .slice p 0 c] 60 := by
    refine ((Box.new w _ 60).below ((Below.refl _ _).alloc (Nat.le_refl _) (.cells #[.int .i64 2, .int .i64 0, .string s, .int .i64 0] 153))).kept (hg.block _ (by simp; omega) fun h => ?_)
    have := (hR.lt _ h.symm).2
    omega
  have y3 := hbx.cell 3
  simp at y3
  clear ho hg hn hR hbx HN
  go_wp2_with fail
  refine wp_loop_rounds 1 ?_
  rw [rounds_succ]
  go_wp2
  go_ret2
  exact ⟨v', rfl, HM.out⟩

set_option maxHeartbeats 2000000 in
theorem flat_text (s : ByteArray) (p : Option Addr) (c : Nat) (l : List PT) (q : Option Addr) (m e d base : Nat) (w : World) (hl : l.length = m) (hm : m < 12) (_hm : ¬ (12 : Int) ≤ (m : Int)) (_hs : ¬ s.toList = []) (_hz : ¬ (24 : Int) < (s.size : Int)) (hR : w.ownsRow base 153 4 (.slice q m e) m (ptCells l)) (hbase : base ≤ w.heap.size) :
    Calls Try.prog 92 #[.agg #[.int .i64 2, .int .i64 0, .string s, .slice p 0 c], .int .i64 d, .slice q m e] w fun r w' => ∃ v', r = .returned (.tuple #[v', .int .i64 0]) ∧ More base w w' (.slice q m e) v' (l ++ [⟨2, 0, s, 0⟩]) := by
  obtain ⟨i0, Kd⟩ := kindP
  have HL : Hid (l.length = m) := hl
  have HN : Hid (∀ j u, [Value.int .i64 2, Value.int .i64 0, Value.string s, Value.int .i64 0][j]? = some u → ((w.alloc (.cells #[.int .i64 2, .int .i64 0, .string s, .slice p 0 c] 60)).alloc (.cells #[.int .i64 2, .int .i64 0, .string s, .int .i64 0] 153)).cell? ((⟨w.heap.size + 1, 0, none⟩ : Addr).add j) = some u) := by
    unfold Hid
    have h := news4 (w.alloc (.cells #[.int .i64 2, .int .i64 0, .string s, .slice p 0 c] 60)) (.int .i64 2) (.int .i64 0) (.string s) (.int .i64 0) 153
    rw [show (w.alloc (.cells #[.int .i64 2, .int .i64 0, .string s, .slice p 0 c] 60)).heap.size = w.heap.size + 1 by simp] at h
    exact h
  clear hl
  go_enter Try.func92, Try.ntmps92
  go_wp2_with (at_builtin; refine wpList_app rfl (.tmp 79) (.tmp 90) 140 153 i0 _ 4 40 Kd rfl base (.slice q m e) m (ptCells l) rfl ((hR.alloc _).alloc _) ⟨w.heap.size + 1, 0, none⟩ 1 1 [.int .i64 2, .int .i64 0, .string s, .int .i64 0] rfl rfl HN.out (oneCell_pt ⟨2, 0, s, 0⟩) (by omega) (by omega) (by simp; omega) ?_)
  intro v' w' ho hg hn
  have HM : Hid (More base w w' (.slice q m e) v' (l ++ [⟨2, 0, s, 0⟩])) :=
    More.of (((Below.refl _ _).alloc (Nat.le_refl _) _).alloc (by simp) _) (by rw [HL.out]; exact ho) hg hn
  have hbx : Box w' w.heap.size #[.int .i64 2, .int .i64 0, .string s, .slice p 0 c] 60 := by
    refine ((Box.new w _ 60).below ((Below.refl _ _).alloc (Nat.le_refl _) (.cells #[.int .i64 2, .int .i64 0, .string s, .int .i64 0] 153))).kept (hg.block _ (by simp; omega) fun h => ?_)
    have := (hR.lt _ h.symm).2
    omega
  have y3 := hbx.cell 3
  simp at y3
  clear ho hg hn hR hbx HN
  go_wp2_with fail
  refine wp_loop_rounds 1 ?_
  rw [rounds_succ]
  go_wp2
  go_ret2
  exact ⟨v', rfl, HM.out⟩

set_option maxHeartbeats 2000000 in
theorem flat_bare (s : ByteArray) (p : Option Addr) (c : Nat) (l : List PT) (q : Option Addr) (m e d base : Nat) (w : World) (hl : l.length = m) (hm : m < 12) (_hm : ¬ (12 : Int) ≤ (m : Int)) (_hs : s.toList = []) (_hd : ¬ (3 : Int) ≤ (d : Int)) (_hz : ¬ (24 : Int) < (s.size : Int)) (hR : w.ownsRow base 153 4 (.slice q m e) m (ptCells l)) (hbase : base ≤ w.heap.size) :
    Calls Try.prog 92 #[.agg #[.int .i64 3, .int .i64 0, .string s, .slice p 0 c], .int .i64 d, .slice q m e] w fun r w' => ∃ v', r = .returned (.tuple #[v', .int .i64 0]) ∧ More base w w' (.slice q m e) v' (l ++ [⟨3, 0, s, 0⟩]) := by
  obtain ⟨i0, Kd⟩ := kindP
  have HL : Hid (l.length = m) := hl
  have HN : Hid (∀ j u, [Value.int .i64 3, Value.int .i64 0, Value.string s, Value.int .i64 0][j]? = some u → ((w.alloc (.cells #[.int .i64 3, .int .i64 0, .string s, .slice p 0 c] 60)).alloc (.cells #[.int .i64 3, .int .i64 0, .string s, .int .i64 0] 153)).cell? ((⟨w.heap.size + 1, 0, none⟩ : Addr).add j) = some u) := by
    unfold Hid
    have h := news4 (w.alloc (.cells #[.int .i64 3, .int .i64 0, .string s, .slice p 0 c] 60)) (.int .i64 3) (.int .i64 0) (.string s) (.int .i64 0) 153
    rw [show (w.alloc (.cells #[.int .i64 3, .int .i64 0, .string s, .slice p 0 c] 60)).heap.size = w.heap.size + 1 by simp] at h
    exact h
  clear hl
  go_enter Try.func92, Try.ntmps92
  go_wp2_with (at_builtin; refine wpList_app rfl (.tmp 79) (.tmp 90) 140 153 i0 _ 4 40 Kd rfl base (.slice q m e) m (ptCells l) rfl ((hR.alloc _).alloc _) ⟨w.heap.size + 1, 0, none⟩ 1 1 [.int .i64 3, .int .i64 0, .string s, .int .i64 0] rfl rfl HN.out (oneCell_pt ⟨3, 0, s, 0⟩) (by omega) (by omega) (by simp; omega) ?_)
  intro v' w' ho hg hn
  have HM : Hid (More base w w' (.slice q m e) v' (l ++ [⟨3, 0, s, 0⟩])) :=
    More.of (((Below.refl _ _).alloc (Nat.le_refl _) _).alloc (by simp) _) (by rw [HL.out]; exact ho) hg hn
  have hbx : Box w' w.heap.size #[.int .i64 3, .int .i64 0, .string s, .slice p 0 c] 60 := by
    refine ((Box.new w _ 60).below ((Below.refl _ _).alloc (Nat.le_refl _) (.cells #[.int .i64 3, .int .i64 0, .string s, .int .i64 0] 153))).kept (hg.block _ (by simp; omega) fun h => ?_)
    have := (hR.lt _ h.symm).2
    omega
  have y3 := hbx.cell 3
  simp at y3
  clear ho hg hn hR hbx HN
  go_wp2_with fail
  refine wp_loop_rounds 1 ?_
  rw [rounds_succ]
  go_wp2
  go_ret2
  exact ⟨v', rfl, HM.out⟩
end Go.Proofs.Ytpknlbibijheaaa
