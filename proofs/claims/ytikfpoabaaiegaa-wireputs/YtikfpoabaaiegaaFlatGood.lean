import Derived.Test.YtikfpoabaaiegaaPack22
import Derived.Test.YtikfpoabaaiegaaPack3
namespace Go.Proofs.Ytikfpoabaaiegaa
open Go.RowKit
set_option maxRecDepth 8000

/-- the shapes of a part whose fields fit its kind -/
inductive Shp : Int → Int → ByteArray → Nat → Prop
  | none (s : ByteArray) (h : s.toList = []) : Shp 0 0 s 0
  | zero (s : ByteArray) (h : s.toList = []) : Shp 1 0 s 0
  | int (i : Int) (s : ByteArray) (hi : ¬ i = 0) (h : s.toList = []) : Shp 1 i s 0
  | empty (s : ByteArray) (h : s.toList = []) : Shp 2 0 s 0
  | text (s : ByteArray) (h : ¬ s.toList = []) : Shp 2 0 s 0
  | bare (s : ByteArray) (h : s.toList = []) : Shp 3 0 s 0
  | list (s : ByteArray) (n : Nat) (h : s.toList = []) (hn : 0 < n) : Shp 3 0 s n
theorem shp_of {k i : Int} {s : ByteArray} {n : Nat} (h : fitB k i s n = true) : Shp k i s n := by
  simp only [fitB, Bool.and_eq_true, Bool.or_eq_true, decide_eq_true_eq, List.isEmpty_iff] at h
  obtain ⟨⟨⟨⟨h0, h3⟩, hi⟩, hs⟩, hn⟩ := h
  obtain rfl | rfl | rfl | rfl : k = 0 ∨ k = 1 ∨ k = 2 ∨ k = 3 := by omega
  · obtain rfl : i = 0 := by omega
    obtain rfl : n = 0 := by omega
    exact .none s (by simpa using hs)
  · obtain rfl : n = 0 := by omega
    by_cases h : i = 0
    · subst h; exact .zero s (by simpa using hs)
    · exact .int i s h (by simpa using hs)
  · obtain rfl : n = 0 := by omega
    obtain rfl : i = 0 := by omega
    by_cases h : s.toList = []
    · exact .empty s h
    · exact .text s h
  · obtain rfl : i = 0 := by omega
    by_cases h : n = 0
    · subst h; exact .bare s (by simpa using hs)
    · exact .list s n (by simpa using hs) (by omega)

set_option maxHeartbeats 1000000 in
theorem flat_deep (s : ByteArray) (n : Nat) (p : Option Addr) (c : Nat) (q : Option Addr) (m e d : Nat) (w : World) (_hm : ¬ (12 : Int) ≤ (m : Int)) (_hs : s.toList = []) (_hd : (3 : Int) ≤ (d : Int)) (_hn : 0 < n) :
    Calls Try.prog 131 #[.agg #[.int .i64 3, .int .i64 0, .string s, .slice p n c], .int .i64 d, .slice q m e] w fun r w' => r = .returned (.tuple #[.slice q m e, .int .i64 23]) ∧ Below w.heap.size w w' := by
  go_enter Try.func131, Try.ntmps131
  go_wp2_with fail
  go_ret2
  exact ⟨rfl, (Below.refl _ _).alloc (Nat.le_refl _) _⟩
set_option maxHeartbeats 1000000 in
theorem flat_deep0 (s : ByteArray) (p : Option Addr) (c : Nat) (q : Option Addr) (m e d : Nat) (w : World) (_hm : ¬ (12 : Int) ≤ (m : Int)) (_hs : s.toList = []) (_hd : (3 : Int) ≤ (d : Int)) :
    Calls Try.prog 131 #[.agg #[.int .i64 3, .int .i64 0, .string s, .slice p 0 c], .int .i64 d, .slice q m e] w fun r w' => r = .returned (.tuple #[.slice q m e, .int .i64 23]) ∧ Below w.heap.size w w' := by
  go_enter Try.func131, Try.ntmps131
  go_wp2_with fail
  go_ret2
  exact ⟨rfl, (Below.refl _ _).alloc (Nat.le_refl _) _⟩
set_option maxHeartbeats 1000000 in
theorem flat_long (s : ByteArray) (p : Option Addr) (c : Nat) (q : Option Addr) (m e d : Nat) (w : World) (_hm : ¬ (12 : Int) ≤ (m : Int)) (_hs : ¬ s.toList = []) (_hl : (24 : Int) < (s.size : Int)) :
    Calls Try.prog 131 #[.agg #[.int .i64 2, .int .i64 0, .string s, .slice p 0 c], .int .i64 d, .slice q m e] w fun r w' => r = .returned (.tuple #[.slice q m e, .int .i64 21]) ∧ Below w.heap.size w w' := by
  go_enter Try.func131, Try.ntmps131
  go_wp2_with fail
  go_ret2
  exact ⟨rfl, (Below.refl _ _).alloc (Nat.le_refl _) _⟩
set_option maxHeartbeats 1000000 in
theorem flat_wide (s : ByteArray) (n : Nat) (p : Option Addr) (c : Nat) (q : Option Addr) (m e d : Nat) (w : World) (_hm : ¬ (12 : Int) ≤ (m : Int)) (_hs : s.toList = []) (_hz : ¬ (24 : Int) < (s.size : Int)) (_hd : ¬ (3 : Int) ≤ (d : Int)) (_hn : 0 < n) (_hw : (6 : Int) < (n : Int)) :
    Calls Try.prog 131 #[.agg #[.int .i64 3, .int .i64 0, .string s, .slice p n c], .int .i64 d, .slice q m e] w fun r w' => r = .returned (.tuple #[.slice q m e, .int .i64 22]) ∧ Below w.heap.size w w' := by
  go_enter Try.func131, Try.ntmps131
  go_wp2_with fail
  go_ret2
  exact ⟨rfl, (Below.refl _ _).alloc (Nat.le_refl _) _⟩

/-- the list with one part more -/
structure More (base : Nat) (w w' : World) (v v' : Value) (l : List PT) : Prop where
  laid : Laid w w' v v'
  own : w'.ownsRow base 204 4 v' l.length (ptCells l)
theorem More.of {base : Nat} {w w1 w' : World} {v v' : Value} {l : List PT} {q : PT} (hb : Below w.heap.size w w1) (h : w'.ownsRow base 204 4 v' (l.length + 1) (ptCells l ++ q.cells)) (hg : w1.grownBy w' v.ownBlock) (hn : Near w1 v v') : More base w w' v v' (l ++ [q]) := by
  refine ⟨⟨?_, ?_⟩, ?_⟩
  · rcases hn with e | e
    · exact .inl e
    · exact .inr fun g hg => Nat.le_trans hb.size (e g hg)
  · exact (But.ofBelow hb).grown hg fun k hk _ => hk
  · have e : (l ++ [q]).length = l.length + 1 := by simp
    have e2 : ptCells (l ++ [q]) = ptCells l ++ q.cells := by simp [ptCells]
    rw [e, e2]; exact h
theorem oneCell_pt (q : PT) : ∀ u ∈ q.cells, u.oneCell' = true := by
  intro u hu
  simp only [PT.cells, List.mem_cons, List.not_mem_nil, or_false] at hu
  rcases hu with rfl | rfl | rfl | rfl <;> rfl
set_option maxHeartbeats 2000000 in
theorem flat_none (s : ByteArray) (p : Option Addr) (c : Nat) (l : List PT) (q : Option Addr) (m e d base : Nat) (w : World) (hl : l.length = m) (hm : m < 12) (_hm : ¬ (12 : Int) ≤ (m : Int)) (_hs : s.toList = []) (_hz : ¬ (24 : Int) < (s.size : Int)) (hR : w.ownsRow base 204 4 (.slice q m e) m (ptCells l)) (hbase : base ≤ w.heap.size) :
    Calls Try.prog 131 #[.agg #[.int .i64 0, .int .i64 0, .string s, .slice p 0 c], .int .i64 d, .slice q m e] w fun r w' => ∃ v', r = .returned (.tuple #[v', .int .i64 0]) ∧ More base w w' (.slice q m e) v' (l ++ [⟨0, 0, s, 0⟩]) := by
  obtain ⟨i0, Kd⟩ := kindP
  have HL : Hid (l.length = m) := hl
  have HN : Hid (∀ j u, [Value.int .i64 0, Value.int .i64 0, Value.string s, Value.int .i64 0][j]? = some u → ((w.alloc (.cells #[.int .i64 0, .int .i64 0, .string s, .slice p 0 c] 24)).alloc (.cells #[.int .i64 0, .int .i64 0, .string s, .int .i64 0] 204)).cell? ((⟨w.heap.size + 1, 0, none⟩ : Addr).add j) = some u) := by
    unfold Hid
    have h := news4 (w.alloc (.cells #[.int .i64 0, .int .i64 0, .string s, .slice p 0 c] 24)) (.int .i64 0) (.int .i64 0) (.string s) (.int .i64 0) 204
    rw [show (w.alloc (.cells #[.int .i64 0, .int .i64 0, .string s, .slice p 0 c] 24)).heap.size = w.heap.size + 1 by simp] at h
    exact h
  clear hl
  go_enter Try.func131, Try.ntmps131
  go_wp2_with (at_builtin; refine wpList_app rfl (.tmp 79) (.tmp 90) 199 204 i0 _ 4 40 Kd rfl base (.slice q m e) m (ptCells l) rfl ((hR.alloc _).alloc _) ⟨w.heap.size + 1, 0, none⟩ 1 1 [.int .i64 0, .int .i64 0, .string s, .int .i64 0] rfl rfl HN.out (oneCell_pt ⟨0, 0, s, 0⟩) (by omega) (by omega) (by simp; omega) ?_)
  intro v' w' ho hg hn
  have HM : Hid (More base w w' (.slice q m e) v' (l ++ [⟨0, 0, s, 0⟩])) :=
    More.of (((Below.refl _ _).alloc (Nat.le_refl _) _).alloc (by simp) _) (by rw [HL.out]; exact ho) hg hn
  have hbx : Box w' w.heap.size #[.int .i64 0, .int .i64 0, .string s, .slice p 0 c] 24 := by
    refine ((Box.new w _ 24).below ((Below.refl _ _).alloc (Nat.le_refl _) (.cells #[.int .i64 0, .int .i64 0, .string s, .int .i64 0] 204))).kept (hg.block _ (by simp; omega) fun h => ?_)
    have := (hR.lt _ h.symm).2
    omega
  have y3 := hbx.cell 3
  simp at y3
  clear ho hg hn hR hbx HN
  go_wp2_with fail
  refine wp_loop_rounds 1 ?_
  rw [rounds_succ]
  go_wp2
  go_ret2
  exact ⟨v', rfl, HM.out⟩

set_option maxHeartbeats 2000000 in
theorem flat_zero (s : ByteArray) (p : Option Addr) (c : Nat) (l : List PT) (q : Option Addr) (m e d base : Nat) (w : World) (hl : l.length = m) (hm : m < 12) (_hm : ¬ (12 : Int) ≤ (m : Int)) (_hs : s.toList = []) (_hz : ¬ (24 : Int) < (s.size : Int)) (hR : w.ownsRow base 204 4 (.slice q m e) m (ptCells l)) (hbase : base ≤ w.heap.size) :
    Calls Try.prog 131 #[.agg #[.int .i64 1, .int .i64 0, .string s, .slice p 0 c], .int .i64 d, .slice q m e] w fun r w' => ∃ v', r = .returned (.tuple #[v', .int .i64 0]) ∧ More base w w' (.slice q m e) v' (l ++ [⟨1, 0, s, 0⟩]) := by
  obtain ⟨i0, Kd⟩ := kindP
  have HL : Hid (l.length = m) := hl
  have HN : Hid (∀ j u, [Value.int .i64 1, Value.int .i64 0, Value.string s, Value.int .i64 0][j]? = some u → ((w.alloc (.cells #[.int .i64 1, .int .i64 0, .string s, .slice p 0 c] 24)).alloc (.cells #[.int .i64 1, .int .i64 0, .string s, .int .i64 0] 204)).cell? ((⟨w.heap.size + 1, 0, none⟩ : Addr).add j) = some u) := by
    unfold Hid
    have h := news4 (w.alloc (.cells #[.int .i64 1, .int .i64 0, .string s, .slice p 0 c] 24)) (.int .i64 1) (.int .i64 0) (.string s) (.int .i64 0) 204
    rw [show (w.alloc (.cells #[.int .i64 1, .int .i64 0, .string s, .slice p 0 c] 24)).heap.size = w.heap.size + 1 by simp] at h
    exact h
  clear hl
  go_enter Try.func131, Try.ntmps131
  go_wp2_with (at_builtin; refine wpList_app rfl (.tmp 79) (.tmp 90) 199 204 i0 _ 4 40 Kd rfl base (.slice q m e) m (ptCells l) rfl ((hR.alloc _).alloc _) ⟨w.heap.size + 1, 0, none⟩ 1 1 [.int .i64 1, .int .i64 0, .string s, .int .i64 0] rfl rfl HN.out (oneCell_pt ⟨1, 0, s, 0⟩) (by omega) (by omega) (by simp; omega) ?_)
  intro v' w' ho hg hn
  have HM : Hid (More base w w' (.slice q m e) v' (l ++ [⟨1, 0, s, 0⟩])) :=
    More.of (((Below.refl _ _).alloc (Nat.le_refl _) _).alloc (by simp) _) (by rw [HL.out]; exact ho) hg hn
  have hbx : Box w' w.heap.size #[.int .i64 1, .int .i64 0, .string s, .slice p 0 c] 24 := by
    refine ((Box.new w _ 24).below ((Below.refl _ _).alloc (Nat.le_refl _) (.cells #[.int .i64 1, .int .i64 0, .string s, .int .i64 0] 204))).kept (hg.block _ (by simp; omega) fun h => ?_)
    have := (hR.lt _ h.symm).2
    omega
  have y3 := hbx.cell 3
  simp at y3
  clear ho hg hn hR hbx HN
  go_wp2_with fail
  refine wp_loop_rounds 1 ?_
  rw [rounds_succ]
  go_wp2
  go_ret2
  exact ⟨v', rfl, HM.out⟩

set_option maxHeartbeats 2000000 in
theorem flat_int (i : Int) (s : ByteArray) (p : Option Addr) (c : Nat) (l : List PT) (q : Option Addr) (m e d base : Nat) (w : World) (hl : l.length = m) (hm : m < 12) (_hm : ¬ (12 : Int) ≤ (m : Int)) (_hi : ¬ i = 0) (_hs : s.toList = []) (_hz : ¬ (24 : Int) < (s.size : Int)) (hR : w.ownsRow base 204 4 (.slice q m e) m (ptCells l)) (hbase : base ≤ w.heap.size) :
    Calls Try.prog 131 #[.agg #[.int .i64 1, .int .i64 i, .string s, .slice p 0 c], .int .i64 d, .slice q m e] w fun r w' => ∃ v', r = .returned (.tuple #[v', .int .i64 0]) ∧ More base w w' (.slice q m e) v' (l ++ [⟨1, i, s, 0⟩]) := by
  obtain ⟨i0, Kd⟩ := kindP
  have HL : Hid (l.length = m) := hl
  have HN : Hid (∀ j u, [Value.int .i64 1, Value.int .i64 i, Value.string s, Value.int .i64 0][j]? = some u → ((w.alloc (.cells #[.int .i64 1, .int .i64 i, .string s, .slice p 0 c] 24)).alloc (.cells #[.int .i64 1, .int .i64 i, .string s, .int .i64 0] 204)).cell? ((⟨w.heap.size + 1, 0, none⟩ : Addr).add j) = some u) := by
    unfold Hid
    have h := news4 (w.alloc (.cells #[.int .i64 1, .int .i64 i, .string s, .slice p 0 c] 24)) (.int .i64 1) (.int .i64 i) (.string s) (.int .i64 0) 204
    rw [show (w.alloc (.cells #[.int .i64 1, .int .i64 i, .string s, .slice p 0 c] 24)).heap.size = w.heap.size + 1 by simp] at h
    exact h
  clear hl
  go_enter Try.func131, Try.ntmps131
  go_wp2_with (at_builtin; refine wpList_app rfl (.tmp 79) (.tmp 90) 199 204 i0 _ 4 40 Kd rfl base (.slice q m e) m (ptCells l) rfl ((hR.alloc _).alloc _) ⟨w.heap.size + 1, 0, none⟩ 1 1 [.int .i64 1, .int .i64 i, .string s, .int .i64 0] rfl rfl HN.out (oneCell_pt ⟨1, i, s, 0⟩) (by omega) (by omega) (by simp; omega) ?_)
  intro v' w' ho hg hn
  have HM : Hid (More base w w' (.slice q m e) v' (l ++ [⟨1, i, s, 0⟩])) :=
    More.of (((Below.refl _ _).alloc (Nat.le_refl _) _).alloc (by simp) _) (by rw [HL.out]; exact ho) hg hn
  have hbx : Box w' w.heap.size #[.int .i64 1, .int .i64 i, .string s, .slice p 0 c] 24 := by
    refine ((Box.new w _ 24).below ((Below.refl _ _).alloc (Nat.le_refl _) (.cells #[.int .i64 1, .int .i64 i, .string s, .int .i64 0] 204))).kept (hg.block _ (by simp; omega) fun h => ?_)
    have := (hR.lt _ h.symm).2
    omega
  have y3 := hbx.cell 3
  simp at y3
  clear ho hg hn hR hbx HN
  go_wp2_with fail
  refine wp_loop_rounds 1 ?_
  rw [rounds_succ]
  go_wp2
  go_ret2
  exact ⟨v', rfl, HM.out⟩

set_option maxHeartbeats 2000000 in
theorem flat_empty (s : ByteArray) (p : Option Addr) (c : Nat) (l : List PT) (q : Option Addr) (m e d base : Nat) (w : World) (hl : l.length = m) (hm : m < 12) (_hm : ¬ (12 : Int) ≤ (m : Int)) (_hs : s.toList = []) (_hz : ¬ (24 : Int) < (s.size : Int)) (hR : w.ownsRow base 204 4 (.slice q m e) m (ptCells l)) (hbase : base ≤ w.heap.size) :
    Calls Try.prog 131 #[.agg #[.int .i64 2, .int .i64 0, .string s, .slice p 0 c], .int .i64 d, .slice q m e] w fun r w' => ∃ v', r = .returned (.tuple #[v', .int .i64 0]) ∧ More base w w' (.slice q m e) v' (l ++ [⟨2, 0, s, 0⟩]) := by
  obtain ⟨i0, Kd⟩ := kindP
  have HL : Hid (l.length = m) := hl
  have HN : Hid (∀ j u, [Value.int .i64 2, Value.int .i64 0, Value.string s, Value.int .i64 0][j]? = some u → ((w.alloc (.cells #[.int .i64 2, .int .i64 0, .string s, .slice p 0 c] 24)).alloc (.cells #[.int .i64 2, .int .i64 0, .string s, .int .i64 0] 204)).cell? ((⟨w.heap.size + 1, 0, none⟩ : Addr).add j) = some u) := by
    unfold Hid
    have h := news4 (w.alloc (.cells #[.int .i64 2, .int .i64 0, .string s, .slice p 0 c] 24)) (.int .i64 2) (.int .i64 0) (.string s) (.int .i64 0) 204
    rw [show (w.alloc (.cells #[.int .i64 2, .int .i64 0, .string s, .slice p 0 c] 24)).heap.size = w.heap.size + 1 by simp] at h
    exact h
  clear hl
  go_enter Try.func131, Try.ntmps131
  go_wp2_with (at_builtin; refine wpList_app rfl (.tmp 79) (.tmp 90) 199 204 i0 _ 4 40 Kd rfl base (.slice q m e) m (ptCells l) rfl ((hR.alloc _).alloc _) ⟨w.heap.size + 1, 0, none⟩ 1 1 [.int .i64 2, .int .i64 0, .string s, .int .i64 0] rfl rfl HN.out (oneCell_pt ⟨2, 0, s, 0⟩) (by omega) (by omega) (by simp; omega) ?_)
  intro v' w' ho hg hn
  have HM : Hid (More base w w' (.slice q m e) v' (l ++ [⟨2, 0, s, 0⟩])) :=
    More.of (((Below.refl _ _).alloc (Nat.le_refl _) _).alloc (by simp) _) (by rw [HL.out]; exact ho) hg hn
  have hbx : Box w' w.heap.size #[.int .i64 2, .int .i64 0, .string s, .slice p 0 c] 24 := by
    refine ((Box.new w _ 24).below ((Below.refl _ _).alloc (Nat.le_refl _) (.cells #[.int .i64 2, .int .i64 0, .string s, .int .i64 0] 204))).kept (hg.block _ (by simp; omega) fun h => ?_)
    have := (hR.lt _ h.symm).2
    omega
  have y3 := hbx.cell 3
  simp at y3
  clear ho hg hn hR hbx HN
  go_wp2_with fail
  refine wp_loop_rounds 1 ?_
  rw [rounds_succ]
  go_wp2
  go_ret2
  exact ⟨v', rfl, HM.out⟩

set_option maxHeartbeats 2000000 in
theorem flat_text (s : ByteArray) (p : Option Addr) (c : Nat) (l : List PT) (q : Option Addr) (m e d base : Nat) (w : World) (hl : l.length = m) (hm : m < 12) (_hm : ¬ (12 : Int) ≤ (m : Int)) (_hs : ¬ s.toList = []) (_hz : ¬ (24 : Int) < (s.size : Int)) (hR : w.ownsRow base 204 4 (.slice q m e) m (ptCells l)) (hbase : base ≤ w.heap.size) :
    Calls Try.prog 131 #[.agg #[.int .i64 2, .int .i64 0, .string s, .slice p 0 c], .int .i64 d, .slice q m e] w fun r w' => ∃ v', r = .returned (.tuple #[v', .int .i64 0]) ∧ More base w w' (.slice q m e) v' (l ++ [⟨2, 0, s, 0⟩]) := by
  obtain ⟨i0, Kd⟩ := kindP
  have HL : Hid (l.length = m) := hl
  have HN : Hid (∀ j u, [Value.int .i64 2, Value.int .i64 0, Value.string s, Value.int .i64 0][j]? = some u → ((w.alloc (.cells #[.int .i64 2, .int .i64 0, .string s, .slice p 0 c] 24)).alloc (.cells #[.int .i64 2, .int .i64 0, .string s, .int .i64 0] 204)).cell? ((⟨w.heap.size + 1, 0, none⟩ : Addr).add j) = some u) := by
    unfold Hid
    have h := news4 (w.alloc (.cells #[.int .i64 2, .int .i64 0, .string s, .slice p 0 c] 24)) (.int .i64 2) (.int .i64 0) (.string s) (.int .i64 0) 204
    rw [show (w.alloc (.cells #[.int .i64 2, .int .i64 0, .string s, .slice p 0 c] 24)).heap.size = w.heap.size + 1 by simp] at h
    exact h
  clear hl
  go_enter Try.func131, Try.ntmps131
  go_wp2_with (at_builtin; refine wpList_app rfl (.tmp 79) (.tmp 90) 199 204 i0 _ 4 40 Kd rfl base (.slice q m e) m (ptCells l) rfl ((hR.alloc _).alloc _) ⟨w.heap.size + 1, 0, none⟩ 1 1 [.int .i64 2, .int .i64 0, .string s, .int .i64 0] rfl rfl HN.out (oneCell_pt ⟨2, 0, s, 0⟩) (by omega) (by omega) (by simp; omega) ?_)
  intro v' w' ho hg hn
  have HM : Hid (More base w w' (.slice q m e) v' (l ++ [⟨2, 0, s, 0⟩])) :=
    More.of (((Below.refl _ _).alloc (Nat.le_refl _) _).alloc (by simp) _) (by rw [HL.out]; exact ho) hg hn
  have hbx : Box w' w.heap.size #[.int .i64 2, .int .i64 0, .string s, .slice p 0 c] 24 := by
    refine ((Box.new w _ 24).below ((Below.refl _ _).alloc (Nat.le_refl _) (.cells #[.int .i64 2, .int .i64 0, .string s, .int .i64 0] 204))).kept (hg.block _ (by simp; omega) fun h => ?_)
    have := (hR.lt _ h.symm).2
    omega
  have y3 := hbx.cell 3
  simp at y3
  clear ho hg hn hR hbx HN
  go_wp2_with fail
  refine wp_loop_rounds 1 ?_
  rw [rounds_succ]
  go_wp2
  go_ret2
  exact ⟨v', rfl, HM.out⟩

set_option maxHeartbeats 2000000 in
theorem flat_bare (s : ByteArray) (p : Option Addr) (c : Nat) (l : List PT) (q : Option Addr) (m e d base : Nat) (w : World) (hl : l.length = m) (hm : m < 12) (_hm : ¬ (12 : Int) ≤ (m : Int)) (_hs : s.toList = []) (_hd : ¬ (3 : Int) ≤ (d : Int)) (_hz : ¬ (24 : Int) < (s.size : Int)) (hR : w.ownsRow base 204 4 (.slice q m e) m (ptCells l)) (hbase : base ≤ w.heap.size) :
    Calls Try.prog 131 #[.agg #[.int .i64 3, .int .i64 0, .string s, .slice p 0 c], .int .i64 d, .slice q m e] w fun r w' => ∃ v', r = .returned (.tuple #[v', .int .i64 0]) ∧ More base w w' (.slice q m e) v' (l ++ [⟨3, 0, s, 0⟩]) := by
  obtain ⟨i0, Kd⟩ := kindP
  have HL : Hid (l.length = m) := hl
  have HN : Hid (∀ j u, [Value.int .i64 3, Value.int .i64 0, Value.string s, Value.int .i64 0][j]? = some u → ((w.alloc (.cells #[.int .i64 3, .int .i64 0, .string s, .slice p 0 c] 24)).alloc (.cells #[.int .i64 3, .int .i64 0, .string s, .int .i64 0] 204)).cell? ((⟨w.heap.size + 1, 0, none⟩ : Addr).add j) = some u) := by
    unfold Hid
    have h := news4 (w.alloc (.cells #[.int .i64 3, .int .i64 0, .string s, .slice p 0 c] 24)) (.int .i64 3) (.int .i64 0) (.string s) (.int .i64 0) 204
    rw [show (w.alloc (.cells #[.int .i64 3, .int .i64 0, .string s, .slice p 0 c] 24)).heap.size = w.heap.size + 1 by simp] at h
    exact h
  clear hl
  go_enter Try.func131, Try.ntmps131
  go_wp2_with (at_builtin; refine wpList_app rfl (.tmp 79) (.tmp 90) 199 204 i0 _ 4 40 Kd rfl base (.slice q m e) m (ptCells l) rfl ((hR.alloc _).alloc _) ⟨w.heap.size + 1, 0, none⟩ 1 1 [.int .i64 3, .int .i64 0, .string s, .int .i64 0] rfl rfl HN.out (oneCell_pt ⟨3, 0, s, 0⟩) (by omega) (by omega) (by simp; omega) ?_)
  intro v' w' ho hg hn
  have HM : Hid (More base w w' (.slice q m e) v' (l ++ [⟨3, 0, s, 0⟩])) :=
    More.of (((Below.refl _ _).alloc (Nat.le_refl _) _).alloc (by simp) _) (by rw [HL.out]; exact ho) hg hn
  have hbx : Box w' w.heap.size #[.int .i64 3, .int .i64 0, .string s, .slice p 0 c] 24 := by
    refine ((Box.new w _ 24).below ((Below.refl _ _).alloc (Nat.le_refl _) (.cells #[.int .i64 3, .int .i64 0, .string s, .int .i64 0] 204))).kept (hg.block _ (by simp; omega) fun h => ?_)
    have := (hR.lt _ h.symm).2
    omega
  have y3 := hbx.cell 3
  simp at y3
  clear ho hg hn hR hbx HN
  go_wp2_with fail
  refine wp_loop_rounds 1 ?_
  rw [rounds_succ]
  go_wp2
  go_ret2
  exact ⟨v', rfl, HM.out⟩
end Go.Proofs.Ytikfpoabaaiegaa
