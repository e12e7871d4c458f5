import Derived.Test.YtdmhemofhmfkoabGreatDoorPack23
import Derived.Test.YtdmhemofhmfkoabGreatDoorPack22
import Derived.Test.YtdmhemofhmfkoabGreatDoorPack1
import Derived.Test.YtdmhemofhmfkoabGreatDoorPack16
import Derived.Deep.QuietTactic
import Derived.BigQuiet
import Derived.Test.YtdmhemofhmfkoabGreatDoorPack20
import Derived.Test.YtdmhemofhmfkoabGreatDoorPack19
namespace Go.Proofs.YtdmhemofhmfkoabGreatDoor
open Go.RowKit
set_option maxRecDepth 8000
/-- the reference's reader: its text, where it stands, its parts, its open lists, its fault -/
structure RM (w0 : World) (rb : Nat) (w : World) (s : ByteArray) (a : Nat) (v5 v6 : Value) (L : List PT) (O : List Nat) (e : Nat) : Prop where
  own : w.ownsRow (rb + 1) 122 4 v5 L.length (ptCells L)
  stk : w.ownsRow (rb + 1) 3 1 v6 O.length (stC O)
  apart : ∀ g, v5.ownBlock = some g → v6.ownBlock ≠ some g
  box : Box w rb #[.string s, .int .i64 (a : Int), v5, v6, .int .i64 (e : Int)] 89
  below : Below rb w0 w
  ok : ∀ q ∈ L, PTOk q
  len : L.length ≤ 12
  dep : O.length ≤ 3
  at_ : a ≤ s.size
abbrev RR (w0 : World) (rb : Nat) (w : World) (s : ByteArray) (a : Nat) (L : List PT) (O : List Nat) (e : Nat) : Prop := ∃ v5 v6, RM w0 rb w s a v5 v6 L O e
theorem RM.kept {w0 : World} {rb : Nat} {w w2 : World} {s : ByteArray} {a e : Nat} {v5 v6 : Value} {L : List PT} {O : List Nat} (h : RM w0 rb w s a v5 v6 L O e) (hb : Below w.heap.size w w2) : RM w0 rb w2 s a v5 v6 L O e :=
  ⟨ownsRow_keep h.own (fun k _ hl => hb.block k hl), ownsRow_keep h.stk (fun k _ hl => hb.block k hl), h.apart, h.box.below hb, h.below.trans (hb.mono (by have := h.box.lt; omega)), h.ok, h.len, h.dep, h.at_⟩
/-- its own cells change alone -/
theorem RM.upd {w0 : World} {rb : Nat} {w w2 : World} {s : ByteArray} {a e a2 e2 : Nat} {v5 v6 : Value} {L : List PT} {O : List Nat} (h : RM w0 rb w s a v5 v6 L O e) (hb : But (fun x => x = rb) w w2) (hx : Box w2 rb #[.string s, .int .i64 (a2 : Int), v5, v6, .int .i64 (e2 : Int)] 89) (ha : a2 ≤ s.size) : RM w0 rb w2 s a2 v5 v6 L O e2 :=
  ⟨ownsRow_keep h.own (fun k hk hl => hb.block k hl (by have := (h.own.lt k hk).1; omega)), ownsRow_keep h.stk (fun k hk hl => hb.block k hl (by have := (h.stk.lt k hk).1; omega)), h.apart, hx, h.below.trans (hb.below (by have := h.box.lt; omega) (fun x hx => by omega)), h.ok, h.len, h.dep, ha⟩
theorem RM.to {w0 : World} {rb : Nat} {w : World} {s : ByteArray} {a e : Nat} {v5 v6 : Value} {L : List PT} {O : List Nat} (h : RM w0 rb w s a v5 v6 L O e) (z : Int) (a2 : Nat) (hz : z = (a2 : Int)) (ha : a2 ≤ s.size) : RM w0 rb (w.setCell ⟨rb, 1, none⟩ (.int .i64 z)) s a2 v5 v6 L O e := by
  subst hz
  have h2 := h.box.set 1 (.int .i64 (a2 : Int))
  simp at h2
  exact h.upd ((But.one w rb).setAt 1 _) h2 ha
/-- a fault -/
theorem RM.bad {w0 : World} {rb : Nat} {w : World} {s : ByteArray} {a e : Nat} {v5 v6 : Value} {L : List PT} {O : List Nat} (h : RM w0 rb w s a v5 v6 L O e) (e2 a2 : Nat) (ha : a2 ≤ s.size) : RM w0 rb ((w.setCell ⟨rb, 4, none⟩ (.int .i64 (e2 : Int))).setCell ⟨rb, 1, none⟩ (.int .i64 (a2 : Int))) s a2 v5 v6 L O e2 := by
  have h2 := (h.box.set 4 (.int .i64 (e2 : Int))).set 1 (.int .i64 (a2 : Int))
  simp at h2
  exact h.upd (((But.one w rb).setAt 4 _).setAt 1 _) h2 ha
/-- a part more -/
theorem RM.part {w0 : World} {rb : Nat} {w w3 : World} {s : ByteArray} {a e : Nat} {v5 v5' v6 : Value} {L : List PT} {O : List Nat} {q : PT} (h : RM w0 rb w s a v5 v6 L O e) (hq : PTOk q) (hl : L.length < 12)
    (ho : w3.ownsRow (rb + 1) 122 4 v5' (L.length + 1) (ptCells L ++ q.cells)) (hg : w.grownBy w3 v5.ownBlock) (hn : Near w v5 v5') (a2 : Nat) (ha : a2 ≤ s.size) :
    RM w0 rb ((w3.setCell ⟨rb, 2, none⟩ v5').setCell ⟨rb, 1, none⟩ (.int .i64 (a2 : Int))) s a2 v5' v6 (L ++ [q]) O e := by
  have hbl := h.box.lt
  have k1 : ∀ g, v6.ownBlock = some g → g < w.heap.size → w3.heap[g]? = w.heap[g]? := fun g hg6 hl => hg.block g hl fun e => h.apart g e.symm hg6
  have hx3 : Box w3 rb _ _ := h.box.kept (hg.block _ h.box.lt fun e => by have := (h.own.lt _ e.symm).1; omega)
  have hx4 := (hx3.set 2 v5').set 1 (.int .i64 (a2 : Int))
  simp at hx4
  have hb : But (fun x => x = rb) w3 ((w3.setCell ⟨rb, 2, none⟩ v5').setCell ⟨rb, 1, none⟩ (.int .i64 (a2 : Int))) := ((But.one w3 rb).setAt 2 _).setAt 1 _
  have hk := ownsRow_keep h.stk k1
  have hs3 := hg.size
  refine ⟨?_, ownsRow_keep hk (fun k hk2 hl => hb.block k hl (by have := (hk.lt k hk2).1; omega)), ?_, hx4, (h.below.grown hg (by omega) fun k hk => (by have := (h.own.lt k hk).1; omega)).trans (hb.below (by omega) (fun x hx => by omega)), ?_, ?_, h.dep, ha⟩
  · rw [show (L ++ [q]).length = L.length + 1 by simp, show ptCells (L ++ [q]) = ptCells L ++ q.cells by simp [ptCells]]
    exact ownsRow_keep ho (fun k hk2 hl => hb.block k hl (by have := (ho.lt k hk2).1; omega))
  · intro g hg5 hg6
    rcases hn with e | e
    · exact h.apart g (e ▸ hg5) hg6
    · have h1 := e g hg5
      have h2 := (h.stk.lt g hg6).2
      omega
  · intro x hx
    rcases List.mem_append.1 hx with hx | hx
    · exact h.ok x hx
    · rw [List.mem_singleton.1 hx]; exact hq
  · simp; omega
/-- a list more -/
theorem RM.push {w0 : World} {rb : Nat} {w w3 : World} {s : ByteArray} {a e : Nat} {v5 v6 v6' : Value} {L : List PT} {O : List Nat} {m : Nat} (h : RM w0 rb w s a v5 v6 L O e) (hd : O.length ≤ 2)
    (ho : w3.ownsRow (rb + 1) 3 1 v6' (O.length + 1) (stC O ++ [.int .i64 (m : Int)])) (hg : w.grownBy w3 v6.ownBlock) (hn : Near w v6 v6') :
    RM w0 rb (w3.setCell ⟨rb, 3, none⟩ v6') s a v5 v6' L (m :: O) e := by
  have hbl := h.box.lt
  have k1 : ∀ g, v5.ownBlock = some g → g < w.heap.size → w3.heap[g]? = w.heap[g]? := fun g hg5 hl => hg.block g hl fun e => h.apart g hg5 e.symm
  have hx3 : Box w3 rb _ _ := h.box.kept (hg.block _ h.box.lt fun e => by have := (h.stk.lt _ e.symm).1; omega)
  have hx4 := hx3.set 3 v6'
  simp at hx4
  have hb : But (fun x => x = rb) w3 (w3.setCell ⟨rb, 3, none⟩ v6') := (But.one w3 rb).setAt 3 _
  have hk := ownsRow_keep h.own k1
  have hs3 := hg.size
  refine ⟨ownsRow_keep hk (fun k hk2 hl => hb.block k hl (by have := (hk.lt k hk2).1; omega)), ?_, ?_, hx4, (h.below.grown hg (by omega) fun k hk => (by have := (h.stk.lt k hk).1; omega)).trans (hb.below (by omega) (fun x hx => by omega)), h.ok, h.len, ?_, h.at_⟩
  · rw [stC_cons]
    exact ownsRow_keep ho (fun k hk2 hl => hb.block k hl (by have := (ho.lt k hk2).1; omega))
  · intro g hg5 hg6
    rcases hn with e | e
    · exact h.apart g hg5 (e ▸ hg6)
    · have h1 := e g hg6
      have h2 := (h.own.lt g hg5).2
      omega
  · simp only [List.length_cons]; omega
/-- where the open lists lie, and the innermost one -/
theorem RM.top {w0 : World} {rb : Nat} {w : World} {s : ByteArray} {a e : Nat} {v5 v6 : Value} {L : List PT} {O : List Nat} {m : Nat} (h : RM w0 rb w s a v5 v6 L (m :: O) e) : ∃ g cap, v6 = .slice (some ⟨g, 0, none⟩) (O.length + 1) cap ∧ w.cell? ⟨g, O.length, none⟩ = some (.int .i64 (m : Int)) ∧ O.length + 1 ≤ cap ∧ g ≠ rb := by
  obtain ⟨g, cap, hv, hnc⟩ := owns_some h.stk (by simp)
  subst hv
  refine ⟨g, cap, rfl, ?_, hnc, by have := (h.stk.lt g rfl).1; omega⟩
  have h1 := h.stk.cellAt O.length (by simp)
  rw [stC_cons, List.getElem?_append_right (by rw [stC_len]; exact Nat.le_refl _), stC_len] at h1
  simpa using h1
/-- the innermost list is closed -/
theorem RM.pop {w0 : World} {rb : Nat} {w : World} {s : ByteArray} {a e : Nat} {v5 : Value} {g cap : Nat} {L : List PT} {O : List Nat} {m : Nat} (h : RM w0 rb w s a v5 (.slice (some ⟨g, 0, none⟩) (O.length + 1) cap) L (m :: O) e) :
    RM w0 rb (w.setCell ⟨rb, 3, none⟩ (.slice (some ⟨g, 0, none⟩) O.length cap)) s a v5 (.slice (some ⟨g, 0, none⟩) O.length cap) L O e := by
  have hbl := h.box.lt
  have hb : But (fun x => x = rb) w (w.setCell ⟨rb, 3, none⟩ (.slice (some ⟨g, 0, none⟩) O.length cap)) := (But.one w rb).setAt 3 _
  have hx4 := h.box.set 3 (.slice (some ⟨g, 0, none⟩) O.length cap)
  simp at hx4
  have hg1 := h.stk.lt g rfl
  have hst : w.ownsRow (rb + 1) 3 1 (.slice (some ⟨g, 0, none⟩) O.length cap) O.length (stC O) := by
    have h1 := h.stk
    refine ⟨by rw [stC_len]; omega, .inr ?_⟩
    obtain ⟨_, ⟨hv, h0⟩ | ⟨g', cap', cur, hv, hbg, hh, hnc, hcm, hcs, htake⟩⟩ := h1
    · cases hv
    · simp only [Value.slice.injEq, Option.some.injEq, Addr.mk.injEq, and_true] at hv
      obtain ⟨rfl, _, rfl⟩ := hv
      simp only [List.length_cons] at hnc htake
      refine ⟨g, cap, cur, rfl, hbg, hh, by omega, hcm, hcs, ?_⟩
      have h2 := congrArg (List.take (O.length * 1)) htake
      rw [List.take_take, show min (O.length * 1) ((O.length + 1) * 1) = O.length * 1 by omega, stC_cons, List.take_append_of_le_length (by rw [stC_len]; omega)] at h2
      rw [h2]
      exact List.take_of_length_le (by rw [stC_len]; omega)
  refine ⟨ownsRow_keep h.own (fun k hk2 hl => hb.block k hl (by have := (h.own.lt k hk2).1; omega)), ownsRow_keep hst (fun k hk2 hl => hb.block k hl (by have := (hst.lt k hk2).1; omega)), fun k hk2 e => h.apart k hk2 (by rw [← e]; rfl), hx4, h.below.trans (hb.below (by omega) (fun x hx => by omega)), h.ok, h.len, by have := h.dep; simp only [List.length_cons] at this; omega, h.at_⟩
/-- a list's number of items -/
theorem RM.count {w0 : World} {rb : Nat} {w : World} {s : ByteArray} {a e : Nat} {v6 : Value} {g cap : Nat} {A B : List PT} {q : PT} {O : List Nat} (n : Nat) (hn : n ≤ 6) (h : RM w0 rb w s a (.slice (some ⟨g, 0, none⟩) (A ++ q :: B).length cap) v6 (A ++ q :: B) O e) :
    RM w0 rb (w.setCell ⟨g, A.length * 4 + 3, none⟩ (.int .i64 (n : Int))) s a (.slice (some ⟨g, 0, none⟩) (A ++ q :: B).length cap) v6 (A ++ ⟨q.kind, q.int, q.text, n⟩ :: B) O e := by
  have hs := h.own.stored (A.length * 4 + 3) (.int .i64 (n : Int))
  have hbl := h.box.lt
  have hg1 := h.own.lt g rfl
  have hk : But (fun x => x = g) w (w.setCell ⟨g, A.length * 4 + 3, none⟩ (.int .i64 (n : Int))) := (But.one _ g).setAt _ _
  refine ⟨?_, ownsRow_keep h.stk (fun k hk2 hl => hk.block k hl fun e => h.apart g rfl (by rw [← e]; exact hk2)), h.apart, h.box.but hk (by omega), h.below.trans (hk.below (by omega) (fun x hx => by omega)), ?_, ?_, h.dep, h.at_⟩
  · have h1 := hs.1
    rw [ptCells_set] at h1
    rw [show (A ++ (⟨q.kind, q.int, q.text, n⟩ : PT) :: B).length = (A ++ q :: B).length by simp]
    exact h1
  · intro x hx
    rcases List.mem_append.1 hx with hx | hx
    · exact h.ok x (List.mem_append_left _ hx)
    · rcases List.mem_cons.1 hx with rfl | hx
      · have h9 := h.ok q (List.mem_append_right _ (List.mem_cons_self ..))
        exact ⟨h9.k0, h9.k1, h9.i0, h9.i1, h9.s, hn⟩
      · exact h.ok x (List.mem_append_right _ (List.mem_cons_of_mem _ hx))
  · have := h.len; simpa using this
/-- where the parts lie -/
theorem RM.pts {w0 : World} {rb : Nat} {w : World} {s : ByteArray} {a e : Nat} {v5 v6 : Value} {L : List PT} {O : List Nat} (h : RM w0 rb w s a v5 v6 L O e) (hL : 0 < L.length) : ∃ g cap, v5 = .slice (some ⟨g, 0, none⟩) L.length cap ∧ Pts w g 0 L ∧ (∀ k, w.frozen? ⟨g, k, none⟩ = false) ∧ g ≠ rb := by
  obtain ⟨g, cap, hv, _⟩ := owns_some h.own hL
  refine ⟨g, cap, hv, ⟨(h.own.lt g (by rw [hv]; rfl)).2, fun j q hq => ?_⟩, ?_, by have := (h.own.lt g (by rw [hv]; rfl)).1; omega⟩
  · have hc := h.own.cells (g := g) (by rw [hv]; rfl)
    have k : ∀ r u, r < 4 → q.cells[r]? = some u → w.cell? ⟨g, 0 + j * 4 + r, none⟩ = some u := by
      intro r u hr hu
      have := hc (j * 4 + r) u (by rw [pts_get L j r q hq hr]; exact hu)
      rw [Go.WideShapes.add_plain] at this
      rw [show 0 + j * 4 + r = 0 + (j * 4 + r) by omega]
      exact this
    exact ⟨k 0 _ (by omega) rfl, k 1 _ (by omega) rfl, k 2 _ (by omega) rfl, k 3 _ (by omega) rfl⟩
  · intro k
    subst hv
    exact h.own.frozenAt k
end Go.Proofs.YtdmhemofhmfkoabGreatDoor

namespace Go.Proofs.YtdmhemofhmfkoabGreatDoor
open Go.RowKit
set_option maxRecDepth 8000

/-- the shapes of a part whose fields fit its kind -/
inductive Shp : Int → Int → ByteArray → Nat → Prop
  | none (s : ByteArray) (h : s.toList = []) : Shp 0 0 s 0
  | zero (s : ByteArray) (h : s.toList = []) : Shp 1 0 s 0
  | int (i : Int) (s : ByteArray) (hi : ¬ i = 0) (h : s.toList = []) : Shp 1 i s 0
  | empty (s : ByteArray) (h : s.toList = []) : Shp 2 0 s 0
  | text (s : ByteArray) (h : ¬ s.toList = []) : Shp 2 0 s 0
  | bare (s : ByteArray) (h : s.toList = []) : Shp 3 0 s 0
  | list (s : ByteArray) (n : Nat) (h : s.toList = []) (hn : 0 < n) : Shp 3 0 s n
theorem shp_of {k i : Int} {s : ByteArray} {n : Nat} (h : fitB k i s n = true) : Shp k i s n := by
  simp only [fitB, Bool.and_eq_true, Bool.or_eq_true, decide_eq_true_eq, List.isEmpty_iff] at h
  obtain ⟨⟨⟨⟨h0, h3⟩, hi⟩, hs⟩, hn⟩ := h
  obtain rfl | rfl | rfl | rfl : k = 0 ∨ k = 1 ∨ k = 2 ∨ k = 3 := by omega
  · obtain rfl : i = 0 := by omega
    obtain rfl : n = 0 := by omega
    exact .none s (by simpa using hs)
  · obtain rfl : n = 0 := by omega
    by_cases h : i = 0
    · subst h; exact .zero s (by simpa using hs)
    · exact .int i s h (by simpa using hs)
  · obtain rfl : n = 0 := by omega
    obtain rfl : i = 0 := by omega
    by_cases h : s.toList = []
    · exact .empty s h
    · exact .text s h
  · obtain rfl : i = 0 := by omega
    by_cases h : n = 0
    · subst h; exact .bare s (by simpa using hs)
    · exact .list s n (by simpa using hs) (by omega)

set_option maxHeartbeats 1000000 in
theorem flat_deep (s : ByteArray) (n : Nat) (p : Option Addr) (c : Nat) (q : Option Addr) (m e d : Nat) (w : World) (_hm : ¬ (12 : Int) ≤ (m : Int)) (_hs : s.toList = []) (_hd : (3 : Int) ≤ (d : Int)) (_hn : 0 < n) :
    Calls Tryz.prog 88 #[.agg #[.int .i64 3, .int .i64 0, .string s, .slice p n c], .int .i64 d, .slice q m e] w fun r w' => r = .returned (.tuple #[.slice q m e, .int .i64 23]) ∧ Below w.heap.size w w' := by
  go_enter Tryz.func88, Tryz.ntmps88
  go_wp2_with fail
  go_ret2
  exact ⟨rfl, (Below.refl _ _).alloc (Nat.le_refl _) _⟩
set_option maxHeartbeats 1000000 in
theorem flat_deep0 (s : ByteArray) (p : Option Addr) (c : Nat) (q : Option Addr) (m e d : Nat) (w : World) (_hm : ¬ (12 : Int) ≤ (m : Int)) (_hs : s.toList = []) (_hd : (3 : Int) ≤ (d : Int)) :
    Calls Tryz.prog 88 #[.agg #[.int .i64 3, .int .i64 0, .string s, .slice p 0 c], .int .i64 d, .slice q m e] w fun r w' => r = .returned (.tuple #[.slice q m e, .int .i64 23]) ∧ Below w.heap.size w w' := by
  go_enter Tryz.func88, Tryz.ntmps88
  go_wp2_with fail
  go_ret2
  exact ⟨rfl, (Below.refl _ _).alloc (Nat.le_refl _) _⟩
set_option maxHeartbeats 1000000 in
theorem flat_long (s : ByteArray) (p : Option Addr) (c : Nat) (q : Option Addr) (m e d : Nat) (w : World) (_hm : ¬ (12 : Int) ≤ (m : Int)) (_hs : ¬ s.toList = []) (_hl : (24 : Int) < (s.size : Int)) :
    Calls Tryz.prog 88 #[.agg #[.int .i64 2, .int .i64 0, .string s, .slice p 0 c], .int .i64 d, .slice q m e] w fun r w' => r = .returned (.tuple #[.slice q m e, .int .i64 21]) ∧ Below w.heap.size w w' := by
  go_enter Tryz.func88, Tryz.ntmps88
  go_wp2_with fail
  go_ret2
  exact ⟨rfl, (Below.refl _ _).alloc (Nat.le_refl _) _⟩
set_option maxHeartbeats 1000000 in
theorem flat_wide (s : ByteArray) (n : Nat) (p : Option Addr) (c : Nat) (q : Option Addr) (m e d : Nat) (w : World) (_hm : ¬ (12 : Int) ≤ (m : Int)) (_hs : s.toList = []) (_hz : ¬ (24 : Int) < (s.size : Int)) (_hd : ¬ (3 : Int) ≤ (d : Int)) (_hn : 0 < n) (_hw : (6 : Int) < (n : Int)) :
    Calls Tryz.prog 88 #[.agg #[.int .i64 3, .int .i64 0, .string s, .slice p n c], .int .i64 d, .slice q m e] w fun r w' => r = .returned (.tuple #[.slice q m e, .int .i64 22]) ∧ Below w.heap.size w w' := by
  go_enter Tryz.func88, Tryz.ntmps88
  go_wp2_with fail
  go_ret2
  exact ⟨rfl, (Below.refl _ _).alloc (Nat.le_refl _) _⟩

/-- the list with one part more -/
structure More (base : Nat) (w w' : World) (v v' : Value) (l : List PT) : Prop where
  laid : Laid w w' v v'
  own : w'.ownsRow base 122 4 v' l.length (ptCells l)
theorem More.of {base : Nat} {w w1 w' : World} {v v' : Value} {l : List PT} {q : PT} (hb : Below w.heap.size w w1) (h : w'.ownsRow base 122 4 v' (l.length + 1) (ptCells l ++ q.cells)) (hg : w1.grownBy w' v.ownBlock) (hn : Near w1 v v') : More base w w' v v' (l ++ [q]) := by
  refine ⟨⟨?_, ?_⟩, ?_⟩
  · rcases hn with e | e
    · exact .inl e
    · exact .inr fun g hg => Nat.le_trans hb.size (e g hg)
  · exact (But.ofBelow hb).grown hg fun k hk _ => hk
  · have e : (l ++ [q]).length = l.length + 1 := by simp
    have e2 : ptCells (l ++ [q]) = ptCells l ++ q.cells := by simp [ptCells]
    rw [e, e2]; exact h
theorem oneCell_pt (q : PT) : ∀ u ∈ q.cells, u.oneCell' = true := by
  intro u hu
  simp only [PT.cells, List.mem_cons, List.not_mem_nil, or_false] at hu
  rcases hu with rfl | rfl | rfl | rfl <;> rfl
set_option maxHeartbeats 2000000 in
theorem flat_none (s : ByteArray) (p : Option Addr) (c : Nat) (l : List PT) (q : Option Addr) (m e d base : Nat) (w : World) (hl : l.length = m) (hm : m < 12) (_hm : ¬ (12 : Int) ≤ (m : Int)) (_hs : s.toList = []) (_hz : ¬ (24 : Int) < (s.size : Int)) (hR : w.ownsRow base 122 4 (.slice q m e) m (ptCells l)) (hbase : base ≤ w.heap.size) :
    Calls Tryz.prog 88 #[.agg #[.int .i64 0, .int .i64 0, .string s, .slice p 0 c], .int .i64 d, .slice q m e] w fun r w' => ∃ v', r = .returned (.tuple #[v', .int .i64 0]) ∧ More base w w' (.slice q m e) v' (l ++ [⟨0, 0, s, 0⟩]) := by
  obtain ⟨i0, Kd⟩ := kindP
  have HL : Hid (l.length = m) := hl
  have HN : Hid (∀ j u, [Value.int .i64 0, Value.int .i64 0, Value.string s, Value.int .i64 0][j]? = some u → ((w.alloc (.cells #[.int .i64 0, .int .i64 0, .string s, .slice p 0 c] 24)).alloc (.cells #[.int .i64 0, .int .i64 0, .string s, .int .i64 0] 122)).cell? ((⟨w.heap.size + 1, 0, none⟩ : Addr).add j) = some u) := by
    unfold Hid
    have h := news4 (w.alloc (.cells #[.int .i64 0, .int .i64 0, .string s, .slice p 0 c] 24)) (.int .i64 0) (.int .i64 0) (.string s) (.int .i64 0) 122
    rw [show (w.alloc (.cells #[.int .i64 0, .int .i64 0, .string s, .slice p 0 c] 24)).heap.size = w.heap.size + 1 by simp] at h
    exact h
  clear hl
  go_enter Tryz.func88, Tryz.ntmps88
  go_wp2_with (at_builtin; refine wpList_app rfl (.tmp 79) (.tmp 90) 84 122 i0 _ 4 40 Kd rfl base (.slice q m e) m (ptCells l) rfl ((hR.alloc _).alloc _) ⟨w.heap.size + 1, 0, none⟩ 1 1 [.int .i64 0, .int .i64 0, .string s, .int .i64 0] rfl rfl HN.out (oneCell_pt ⟨0, 0, s, 0⟩) (by omega) (by omega) (by simp; omega) ?_)
  intro v' w' ho hg hn
  have HM : Hid (More base w w' (.slice q m e) v' (l ++ [⟨0, 0, s, 0⟩])) :=
    More.of (((Below.refl _ _).alloc (Nat.le_refl _) _).alloc (by simp) _) (by rw [HL.out]; exact ho) hg hn
  have hbx : Box w' w.heap.size #[.int .i64 0, .int .i64 0, .string s, .slice p 0 c] 24 := by
    refine ((Box.new w _ 24).below ((Below.refl _ _).alloc (Nat.le_refl _) (.cells #[.int .i64 0, .int .i64 0, .string s, .int .i64 0] 122))).kept (hg.block _ (by simp; omega) fun h => ?_)
    have := (hR.lt _ h.symm).2
    omega
  have y3 := hbx.cell 3
  simp at y3
  clear ho hg hn hR hbx HN
  go_wp2_with fail
  refine wp_loop_rounds 1 ?_
  rw [rounds_succ]
  go_wp2
  go_ret2
  exact ⟨v', rfl, HM.out⟩

set_option maxHeartbeats 2000000 in
theorem flat_zero (s : ByteArray) (p : Option Addr) (c : Nat) (l : List PT) (q : Option Addr) (m e d base : Nat) (w : World) (hl : l.length = m) (hm : m < 12) (_hm : ¬ (12 : Int) ≤ (m : Int)) (_hs : s.toList = []) (_hz : ¬ (24 : Int) < (s.size : Int)) (hR : w.ownsRow base 122 4 (.slice q m e) m (ptCells l)) (hbase : base ≤ w.heap.size) :
    Calls Tryz.prog 88 #[.agg #[.int .i64 1, .int .i64 0, .string s, .slice p 0 c], .int .i64 d, .slice q m e] w fun r w' => ∃ v', r = .returned (.tuple #[v', .int .i64 0]) ∧ More base w w' (.slice q m e) v' (l ++ [⟨1, 0, s, 0⟩]) := by
  obtain ⟨i0, Kd⟩ := kindP
  have HL : Hid (l.length = m) := hl
  have HN : Hid (∀ j u, [Value.int .i64 1, Value.int .i64 0, Value.string s, Value.int .i64 0][j]? = some u → ((w.alloc (.cells #[.int .i64 1, .int .i64 0, .string s, .slice p 0 c] 24)).alloc (.cells #[.int .i64 1, .int .i64 0, .string s, .int .i64 0] 122)).cell? ((⟨w.heap.size + 1, 0, none⟩ : Addr).add j) = some u) := by
    unfold Hid
    have h := news4 (w.alloc (.cells #[.int .i64 1, .int .i64 0, .string s, .slice p 0 c] 24)) (.int .i64 1) (.int .i64 0) (.string s) (.int .i64 0) 122
    rw [show (w.alloc (.cells #[.int .i64 1, .int .i64 0, .string s, .slice p 0 c] 24)).heap.size = w.heap.size + 1 by simp] at h
    exact h
  clear hl
  go_enter Tryz.func88, Tryz.ntmps88
  go_wp2_with (at_builtin; refine wpList_app rfl (.tmp 79) (.tmp 90) 84 122 i0 _ 4 40 Kd rfl base (.slice q m e) m (ptCells l) rfl ((hR.alloc _).alloc _) ⟨w.heap.size + 1, 0, none⟩ 1 1 [.int .i64 1, .int .i64 0, .string s, .int .i64 0] rfl rfl HN.out (oneCell_pt ⟨1, 0, s, 0⟩) (by omega) (by omega) (by simp; omega) ?_)
  intro v' w' ho hg hn
  have HM : Hid (More base w w' (.slice q m e) v' (l ++ [⟨1, 0, s, 0⟩])) :=
    More.of (((Below.refl _ _).alloc (Nat.le_refl _) _).alloc (by simp) _) (by rw [HL.out]; exact ho) hg hn
  have hbx : Box w' w.heap.size #[.int .i64 1, .int .i64 0, .string s, .slice p 0 c] 24 := by
    refine ((Box.new w _ 24).below ((Below.refl _ _).alloc (Nat.le_refl _) (.cells #[.int .i64 1, .int .i64 0, .string s, .int .i64 0] 122))).kept (hg.block _ (by simp; omega) fun h => ?_)
    have := (hR.lt _ h.symm).2
    omega
  have y3 := hbx.cell 3
  simp at y3
  clear ho hg hn hR hbx HN
  go_wp2_with fail
  refine wp_loop_rounds 1 ?_
  rw [rounds_succ]
  go_wp2
  go_ret2
  exact ⟨v', rfl, HM.out⟩

set_option maxHeartbeats 2000000 in
theorem flat_int (i : Int) (s : ByteArray) (p : Option Addr) (c : Nat) (l : List PT) (q : Option Addr) (m e d base : Nat) (w : World) (hl : l.length = m) (hm : m < 12) (_hm : ¬ (12 : Int) ≤ (m : Int)) (_hi : ¬ i = 0) (_hs : s.toList = []) (_hz : ¬ (24 : Int) < (s.size : Int)) (hR : w.ownsRow base 122 4 (.slice q m e) m (ptCells l)) (hbase : base ≤ w.heap.size) :
    Calls Tryz.prog 88 #[.agg #[.int .i64 1, .int .i64 i, .string s, .slice p 0 c], .int .i64 d, .slice q m e] w fun r w' => ∃ v', r = .returned (.tuple #[v', .int .i64 0]) ∧ More base w w' (.slice q m e) v' (l ++ [⟨1, i, s, 0⟩]) := by
  obtain ⟨i0, Kd⟩ := kindP
  have HL : Hid (l.length = m) := hl
  have HN : Hid (∀ j u, [Value.int .i64 1, Value.int .i64 i, Value.string s, Value.int .i64 0][j]? = some u → ((w.alloc (.cells #[.int .i64 1, .int .i64 i, .string s, .slice p 0 c] 24)).alloc (.cells #[.int .i64 1, .int .i64 i, .string s, .int .i64 0] 122)).cell? ((⟨w.heap.size + 1, 0, none⟩ : Addr).add j) = some u) := by
    unfold Hid
    have h := news4 (w.alloc (.cells #[.int .i64 1, .int .i64 i, .string s, .slice p 0 c] 24)) (.int .i64 1) (.int .i64 i) (.string s) (.int .i64 0) 122
    rw [show (w.alloc (.cells #[.int .i64 1, .int .i64 i, .string s, .slice p 0 c] 24)).heap.size = w.heap.size + 1 by simp] at h
    exact h
  clear hl
  go_enter Tryz.func88, Tryz.ntmps88
  go_wp2_with (at_builtin; refine wpList_app rfl (.tmp 79) (.tmp 90) 84 122 i0 _ 4 40 Kd rfl base (.slice q m e) m (ptCells l) rfl ((hR.alloc _).alloc _) ⟨w.heap.size + 1, 0, none⟩ 1 1 [.int .i64 1, .int .i64 i, .string s, .int .i64 0] rfl rfl HN.out (oneCell_pt ⟨1, i, s, 0⟩) (by omega) (by omega) (by simp; omega) ?_)
  intro v' w' ho hg hn
  have HM : Hid (More base w w' (.slice q m e) v' (l ++ [⟨1, i, s, 0⟩])) :=
    More.of (((Below.refl _ _).alloc (Nat.le_refl _) _).alloc (by simp) _) (by rw [HL.out]; exact ho) hg hn
  have hbx : Box w' w.heap.size #[.int .i64 1, .int .i64 i, .string s, .slice p 0 c] 24 := by
    refine ((Box.new w _ 24).below ((Below.refl _ _).alloc (Nat.le_refl _) (.cells #[.int .i64 1, .int .i64 i, .string s, .int .i64 0] 122))).kept (hg.block _ (by simp; omega) fun h => ?_)
    have := (hR.lt _ h.symm).2
    omega
  have y3 := hbx.cell 3
  simp at y3
  clear ho hg hn hR hbx HN
  go_wp2_with fail
  refine wp_loop_rounds 1 ?_
  rw [rounds_succ]
  go_wp2
  go_ret2
  exact ⟨v', rfl, HM.out⟩

set_option maxHeartbeats 2000000 in
theorem flat_empty (s : ByteArray) (p : Option Addr) (c : Nat) (l : List PT) (q : Option Addr) (m e d base : Nat) (w : World) (hl : l.length = m) (hm : m < 12) (_hm : ¬ (12 : Int) ≤ (m : Int)) (_hs : s.toList = []) (_hz : ¬ (24 : Int) < (s.size : Int)) (hR : w.ownsRow base 122 4 (.slice q m e) m (ptCells l)) (hbase : base ≤ w.heap.size) :
    Calls Tryz.prog 88 #[.agg #[.int .i64 2, .int .i64 0, .string s, .slice p 0 c], .int .i64 d, .slice q m e] w fun r w' => ∃ v', r = .returned (.tuple #[v', .int .i64 0]) ∧ More base w w' (.slice q m e) v' (l ++ [⟨2, 0, s, 0⟩]) := by
  obtain ⟨i0, Kd⟩ := kindP
  have HL : Hid (l.length = m) := hl
  have HN : Hid (∀ j u, [Value.int .i64 2, Value.int .i64 0, Value.string s, Value.int .i64 0][j]? = some u → ((w.alloc (.cells #[.int .i64 2, .int .i64 0, .string s, .slice p 0 c] 24)).alloc (.cells #[.int .i64 2, .int .i64 0, .string s, .int .i64 0] 122)).cell? ((⟨w.heap.size + 1, 0, none⟩ : Addr).add j) = some u) := by
    unfold Hid
    have h := news4 (w.alloc (.cells #[.int .i64 2, .int .i64 0, .string s, .slice p 0 c] 24)) (.int .i64 2) (.int .i64 0) (.string s) (.int .i64 0) 122
    rw [show (w.alloc (.cells #[.int .i64 2, .int .i64 0, .string s, .slice p 0 c] 24)).heap.size = w.heap.size + 1 by simp] at h
    exact h
  clear hl
  go_enter Tryz.func88, Tryz.ntmps88
  go_wp2_with (at_builtin; refine wpList_app rfl (.tmp 79) (.tmp 90) 84 122 i0 _ 4 40 Kd rfl base (.slice q m e) m (ptCells l) rfl ((hR.alloc _).alloc _) ⟨w.heap.size + 1, 0, none⟩ 1 1 [.int .i64 2, .int .i64 0, .string s, .int .i64 0] rfl rfl HN.out (oneCell_pt ⟨2, 0, s, 0⟩) (by omega) (by omega) (by simp; omega) ?_)
  intro v' w' ho hg hn
  have HM : Hid (More base w w' (.slice q m e) v' (l ++ [⟨2, 0, s, 0⟩])) :=
    More.of (((Below.refl _ _).alloc (Nat.le_refl _) _).alloc (by simp) _) (by rw [HL.out]; exact ho) hg hn
  have hbx : Box w' w.heap.size #[.int .i64 2, .int .i64 0, .string s, .slice p 0 c] 24 := by
    refine ((Box.new w _ 24).below ((Below.refl _ _).alloc (Nat.le_refl _) (.cells #[.int .i64 2, .int .i64 0, .string s, .int .i64 0] 122))).kept (hg.block _ (by simp; omega) fun h => ?_)
    have := (hR.lt _ h.symm).2
    omega
  have y3 := hbx.cell 3
  simp at y3
  clear ho hg hn hR hbx HN
  go_wp2_with fail
  refine wp_loop_rounds 1 ?_
  rw [rounds_succ]
  go_wp2
  go_ret2
  exact ⟨v', rfl, HM.out⟩

set_option maxHeartbeats 2000000 in
theorem flat_text (s : ByteArray) (p : Option Addr) (c : Nat) (l : List PT) (q : Option Addr) (m e d base : Nat) (w : World) (hl : l.length = m) (hm : m < 12) (_hm : ¬ (12 : Int) ≤ (m : Int)) (_hs : ¬ s.toList = []) (_hz : ¬ (24 : Int) < (s.size : Int)) (hR : w.ownsRow base 122 4 (.slice q m e) m (ptCells l)) (hbase : base ≤ w.heap.size) :
    Calls Tryz.prog 88 #[.agg #[.int .i64 2, .int .i64 0, .string s, .slice p 0 c], .int .i64 d, .slice q m e] w fun r w' => ∃ v', r = .returned (.tuple #[v', .int .i64 0]) ∧ More base w w' (.slice q m e) v' (l ++ [⟨2, 0, s, 0⟩]) := by
  obtain ⟨i0, Kd⟩ := kindP
  have HL : Hid (l.length = m) := hl
  have HN : Hid (∀ j u, [Value.int .i64 2, Value.int .i64 0, Value.string s, Value.int .i64 0][j]? = some u → ((w.alloc (.cells #[.int .i64 2, .int .i64 0, .string s, .slice p 0 c] 24)).alloc (.cells #[.int .i64 2, .int .i64 0, .string s, .int .i64 0] 122)).cell? ((⟨w.heap.size + 1, 0, none⟩ : Addr).add j) = some u) := by
    unfold Hid
    have h := news4 (w.alloc (.cells #[.int .i64 2, .int .i64 0, .string s, .slice p 0 c] 24)) (.int .i64 2) (.int .i64 0) (.string s) (.int .i64 0) 122
    rw [show (w.alloc (.cells #[.int .i64 2, .int .i64 0, .string s, .slice p 0 c] 24)).heap.size = w.heap.size + 1 by simp] at h
    exact h
  clear hl
  go_enter Tryz.func88, Tryz.ntmps88
  go_wp2_with (at_builtin; refine wpList_app rfl (.tmp 79) (.tmp 90) 84 122 i0 _ 4 40 Kd rfl base (.slice q m e) m (ptCells l) rfl ((hR.alloc _).alloc _) ⟨w.heap.size + 1, 0, none⟩ 1 1 [.int .i64 2, .int .i64 0, .string s, .int .i64 0] rfl rfl HN.out (oneCell_pt ⟨2, 0, s, 0⟩) (by omega) (by omega) (by simp; omega) ?_)
  intro v' w' ho hg hn
  have HM : Hid (More base w w' (.slice q m e) v' (l ++ [⟨2, 0, s, 0⟩])) :=
    More.of (((Below.refl _ _).alloc (Nat.le_refl _) _).alloc (by simp) _) (by rw [HL.out]; exact ho) hg hn
  have hbx : Box w' w.heap.size #[.int .i64 2, .int .i64 0, .string s, .slice p 0 c] 24 := by
    refine ((Box.new w _ 24).below ((Below.refl _ _).alloc (Nat.le_refl _) (.cells #[.int .i64 2, .int .i64 0, .string s, .int .i64 0] 122))).kept (hg.block _ (by simp; omega) fun h => ?_)
    have := (hR.lt _ h.symm).2
    omega
  have y3 := hbx.cell 3
  simp at y3
  clear ho hg hn hR hbx HN
  go_wp2_with fail
  refine wp_loop_rounds 1 ?_
  rw [rounds_succ]
  go_wp2
  go_ret2
  exact ⟨v', rfl, HM.out⟩

set_option maxHeartbeats 2000000 in
theorem flat_bare (s : ByteArray) (p : Option Addr) (c : Nat) (l : List PT) (q : Option Addr) (m e d base : Nat) (w : World) (hl : l.length = m) (hm : m < 12) (_hm : ¬ (12 : Int) ≤ (m : Int)) (_hs : s.toList = []) (_hd : ¬ (3 : Int) ≤ (d : Int)) (_hz : ¬ (24 : Int) < (s.size : Int)) (hR : w.ownsRow base 122 4 (.slice q m e) m (ptCells l)) (hbase : base ≤ w.heap.size) :
    Calls Tryz.prog 88 #[.agg #[.int .i64 3, .int .i64 0, .string s, .slice p 0 c], .int .i64 d, .slice q m e] w fun r w' => ∃ v', r = .returned (.tuple #[v', .int .i64 0]) ∧ More base w w' (.slice q m e) v' (l ++ [⟨3, 0, s, 0⟩]) := by
  obtain ⟨i0, Kd⟩ := kindP
  have HL : Hid (l.length = m) := hl
  have HN : Hid (∀ j u, [Value.int .i64 3, Value.int .i64 0, Value.string s, Value.int .i64 0][j]? = some u → ((w.alloc (.cells #[.int .i64 3, .int .i64 0, .string s, .slice p 0 c] 24)).alloc (.cells #[.int .i64 3, .int .i64 0, .string s, .int .i64 0] 122)).cell? ((⟨w.heap.size + 1, 0, none⟩ : Addr).add j) = some u) := by
    unfold Hid
    have h := news4 (w.alloc (.cells #[.int .i64 3, .int .i64 0, .string s, .slice p 0 c] 24)) (.int .i64 3) (.int .i64 0) (.string s) (.int .i64 0) 122
    rw [show (w.alloc (.cells #[.int .i64 3, .int .i64 0, .string s, .slice p 0 c] 24)).heap.size = w.heap.size + 1 by simp] at h
    exact h
  clear hl
  go_enter Tryz.func88, Tryz.ntmps88
  go_wp2_with (at_builtin; refine wpList_app rfl (.tmp 79) (.tmp 90) 84 122 i0 _ 4 40 Kd rfl base (.slice q m e) m (ptCells l) rfl ((hR.alloc _).alloc _) ⟨w.heap.size + 1, 0, none⟩ 1 1 [.int .i64 3, .int .i64 0, .string s, .int .i64 0] rfl rfl HN.out (oneCell_pt ⟨3, 0, s, 0⟩) (by omega) (by omega) (by simp; omega) ?_)
  intro v' w' ho hg hn
  have HM : Hid (More base w w' (.slice q m e) v' (l ++ [⟨3, 0, s, 0⟩])) :=
    More.of (((Below.refl _ _).alloc (Nat.le_refl _) _).alloc (by simp) _) (by rw [HL.out]; exact ho) hg hn
  have hbx : Box w' w.heap.size #[.int .i64 3, .int .i64 0, .string s, .slice p 0 c] 24 := by
    refine ((Box.new w _ 24).below ((Below.refl _ _).alloc (Nat.le_refl _) (.cells #[.int .i64 3, .int .i64 0, .string s, .int .i64 0] 122))).kept (hg.block _ (by simp; omega) fun h => ?_)
    have := (hR.lt _ h.symm).2
    omega
  have y3 := hbx.cell 3
  simp at y3
  clear ho hg hn hR hbx HN
  go_wp2_with fail
  refine wp_loop_rounds 1 ?_
  rw [rounds_succ]
  go_wp2
  go_ret2
  exact ⟨v', rfl, HM.out⟩
end Go.Proofs.YtdmhemofhmfkoabGreatDoor

namespace Go.Proofs.YtdmhemofhmfkoabGreatDoor
open Go.RowKit
set_option maxRecDepth 8000
set_option maxHeartbeats 1000000 in
theorem refFault_any (w0 : World) (rb : Nat) (s : ByteArray) (a e : Nat) (v5 v6 : Value) (L : List PT) (O : List Nat) (w : World) (h : RM w0 rb w s a v5 v6 L O e) (e2 a2 : Nat) (ha : a2 ≤ s.size) :
    Calls Tryz.prog 90 #[.pointer (some ⟨rb, 0, none⟩), .int .i64 (e2 : Int), .int .i64 (a2 : Int)] w fun x w' => x = .returned (.tuple #[]) ∧ RM w0 rb w' s a2 v5 v6 L O e2 := by
  have HM := hid (h.bad e2 a2 ha)
  have x1 := h.box.cell 1
  have x4 := h.box.cell 4
  have f1 := h.box.frozen 1
  have f4 := h.box.frozen 4
  simp at x1 x4
  clear h
  go_enter Tryz.func90, Tryz.ntmps90
  go_wp2
  exact bodyPost_end (results_none rfl _ _ _) rfl ⟨rfl, HM.out⟩
set_option maxHeartbeats 2000000 in
theorem refAdd_any (w0 : World) (rb : Nat) (s : ByteArray) (a e : Nat) (v5 v6 : Value) (L : List PT) (O : List Nat) (w : World) (h : RM w0 rb w s a v5 v6 L O e) (q : PT) (hq : PTOk q) (hl : L.length < 12) (a2 : Nat) (ha : a2 ≤ s.size) :
    Calls Tryz.prog 91 #[.pointer (some ⟨rb, 0, none⟩), .agg #[.int .i64 q.kind, .int .i64 q.int, .string q.text, .int .i64 (q.n : Int)], .int .i64 (a2 : Int)] w fun x w' => x = .returned (.tuple #[]) ∧ RR w0 rb w' s a2 (L ++ [q]) O e := by
  obtain ⟨i0, KdP⟩ := kindP
  obtain ⟨p5, c5, rfl⟩ := ownsRow_slice h.own
  have hrb := h.box.lt
  obtain ⟨A, hA⟩ : ∃ A, A = Obj.cells #[.int .i64 q.kind, .int .i64 q.int, .string q.text, .int .i64 (q.n : Int)] 122 := ⟨_, rfl⟩
  have hal : Below w.heap.size w ((w.alloc A).alloc A).drew := (((Below.refl _ _).alloc (Nat.le_refl _) _).alloc (by simp) _).drew
  have HM6 := hid (h.kept hal)
  have hnews := news4 (w.alloc (.cells #[.int .i64 q.kind, .int .i64 q.int, .string q.text, .int .i64 (q.n : Int)] 122)) (.int .i64 q.kind) (.int .i64 q.int) (.string q.text) (.int .i64 (q.n : Int)) 122
  rw [show (w.alloc (.cells #[.int .i64 q.kind, .int .i64 q.int, .string q.text, .int .i64 (q.n : Int)] 122)).heap.size = w.heap.size + 1 by simp, ← hA] at hnews
  have HN : Hid (∀ j u, [Value.int .i64 q.kind, .int .i64 q.int, .string q.text, .int .i64 (q.n : Int)][j]? = some u → (((w.alloc A).alloc A).drew).cell? ((⟨w.heap.size + 1, 0, none⟩ : Addr).add j) = some u) := hnews
  have HA := hid hA
  have hown6 := HM6.out.own
  have x2 := h.box.cell 2
  simp at x2
  clear h hal hnews
  go_enter Tryz.func91, Tryz.ntmps91
  go_wp2_with fail
  rw [← HA.out]
  go_region_law (refine step_app rfl (.tmp 10) (.tmp 12) 84 122 i0 _ 4 40 KdP rfl (rb + 1) (.slice p5 L.length c5) L.length (ptCells L) rfl (by rw [← HA.out]; exact hown6) ⟨w.heap.size + 1, 0, none⟩ 1 1 [.int .i64 q.kind, .int .i64 q.int, .string q.text, .int .i64 (q.n : Int)] rfl rfl (by rw [← HA.out]; exact HN.out) (oneCell_pt q) (by omega) (by omega) (by simp; omega) ?_
                 rw [← HA.out]
                 intro v3 w3 ho3 hg3 hn3
                 obtain ⟨p7, c7, rfl⟩ := ownsRow_slice ho3
                 have hx3 := HM6.out.box.kept (hg3.block rb HM6.out.box.lt (fun e => by have := (HM6.out.own.lt _ e.symm).1; omega))
                 have y2 := hx3.cell 2
                 have g2 := hx3.frozen 2
                 simp at y2)
  all_goals
    have HP := hid (HM6.out.part hq hl ho3 hg3 hn3 a2 ha)
    have z1 := (hx3.set 2 (.slice p7 (L.length + 1) c7)).cell 1
    have gz := (hx3.set 2 (.slice p7 (L.length + 1) c7)).frozen 1
    simp at z1
    clear hx3 ho3 hg3 hn3 HM6 hown6 HN
    go_wp2
    exact bodyPost_end (results_none rfl _ _ _) rfl ⟨rfl, _, _, HP.out⟩
end Go.Proofs.YtdmhemofhmfkoabGreatDoor

namespace Go.Proofs.YtdmhemofhmfkoabGreatDoor
open Go.RowKit
set_option maxRecDepth 8000
/-- what a leaf of the reference's reader does -/
def LeafPost (w0 : World) (rb : Nat) (s : ByteArray) (L : List PT) (O : List Nat) (r : Except (Nat × Nat) (VT × Nat)) (x : Ending) (w' : World) : Prop :=
  x = .returned (.tuple #[]) ∧ (∀ p e, r = .error (p, e) → RR w0 rb w' s p L O e) ∧ (∀ v a', r = .ok (v, a') → RR w0 rb w' s a' (L ++ flatP v) O 0)
theorem LeafPost.bad {w0 : World} {rb : Nat} {s : ByteArray} {L : List PT} {O : List Nat} {r : Except (Nat × Nat) (VT × Nat)} {w' : World} {p e : Nat} (h : r = .error (p, e)) (hm : RR w0 rb w' s p L O e) : LeafPost w0 rb s L O r (.returned (.tuple #[])) w' :=
  ⟨rfl, fun p2 e2 h2 => (by rw [h] at h2; cases h2; exact hm), fun v a' h2 => (by rw [h] at h2; cases h2)⟩
theorem LeafPost.good {w0 : World} {rb : Nat} {s : ByteArray} {L : List PT} {O : List Nat} {r : Except (Nat × Nat) (VT × Nat)} {w' : World} {v : VT} {a' : Nat} (h : r = .ok (v, a')) (hm : RR w0 rb w' s a' (L ++ flatP v) O 0) : LeafPost w0 rb s L O r (.returned (.tuple #[])) w' :=
  ⟨rfl, fun p2 e2 h2 => (by rw [h] at h2; cases h2), fun v2 a2 h2 => (by rw [h] at h2; cases h2; exact hm)⟩
theorem below_dN {B : Nat} {a w : World} (h : Below B a w) (q : Nat) : Below B a (w.drewN q) := ⟨h.os, h.tape, h.output, h.size, h.block⟩
set_option maxHeartbeats 4000000 in
theorem refWord_any (w0 : World) (rb : Nat) (s : ByteArray) (a : Nat) (L : List PT) (O : List Nat) (w : World) (h : RR w0 rb w s a L O 0) (hL : L.length < 12) (hs : s.size ≤ 140737488355328) :
    Calls Tryz.prog 92 #[.pointer (some ⟨rb, 0, none⟩)] w fun x w' => LeafPost w0 rb s L O (noneS s a) x w' := by
  obtain ⟨v5, v6, h⟩ := h
  obtain ⟨R, hR⟩ : ∃ R, wordS s [110, 111, 110, 101] a = R := ⟨_, rfl⟩
  have HN : Hid (noneS s a = noneOf R) := by unfold Hid noneS; rw [hR]
  have HM := hid h
  have ha := h.at_
  clear h
  go_enter Tryz.func92, Tryz.ntmps92
  go_wp2_with fail
  go_loopw [2] (fun x wr => ∃ k : Nat, k ≤ 4 ∧ x = .int .i64 (k : Int) ∧ wordS s ([110, 111, 110, 101].drop k) (a + k) = R ∧ RM w0 rb wr s a v5 v6 L O 0 ∧ a + k ≤ s.size) (fun x _ => (4 - intOf x).toNat)
  case atStart => exact ⟨0, by omega, rfl, hR, HM.out, ha⟩
  case round =>
    obtain ⟨k, hk, rfl, hw, hM, hak⟩ := hrel
    clear HM hR
    have HM := hid hM
    have x0 := hM.box.cell 0
    have x1 := hM.box.cell 1
    simp at x0 x1
    clear hM
    rcases (by omega : k = 4 ∨ k = 0 ∨ k = 1 ∨ k = 2 ∨ k = 3) with rfl | rfl | rfl | rfl | rfl
    · have HA := hid (refAdd_any w0 rb s a 0 v5 v6 L O wr HM.out ⟨0, 0, ⟨#[]⟩, 0⟩ ⟨by simp, by simp, by simp, by simp, Nat.zero_le _, by simp⟩ hL (a + 4) hak)
      have hRo : R = .ok (a + 4) := hw.symm
      have HX : Hid (noneS s a = .ok (mkN, a + 4)) := by unfold Hid; rw [HN.out, hRo]; rfl
      clear hw hRo
      go_wp2_with fail
      refine HA.out.mono ?_
      rintro e w1 ⟨rfl, hR1⟩
      have HR := hid hR1
      clear hR1 HA
      go_wp2
      exact bodyPost_end (results_none rfl _ _ _) rfl (LeafPost.good HX.out HR.out)
    · have hw2 : (if pk s a = 110 then wordS s [111, 110, 101] (a + 1) else .error (a, 28)) = R := hw
      clear hw
      have hcc : ((({ data := #[110, 111, 110, 101] } : ByteArray)[0]'(by decide)).toNat : Int) = 110 := by decide
      have htk : ((a : Int)).toNat = a := by omega
      have hwk : IntKind.i64.wrap ((a : Int)) = (a : Int) := by rw [IntKind.wrap_i64]; omega
      by_cases hp : pk s a = 110
      · rw [if_pos hp] at hw2
        have hlt := pk_pos (s := s) (a := a) (by omega)
        have hg := pk_get hlt
        rw [hp] at hg
        have hn1 : ¬ (s.size : Int) ≤ (a : Int) := by omega
        have hn2 : (a : Int) < (s.size : Int) := by omega
        have hn3 : decide ((s.size : Int) ≤ (a : Int)) = false := by simp; omega
        have HW := hid hw2
        clear hw2 hp
        go_wp2_with fail
        go_quiet (fail)
        go_wp2
        exact ⟨⟨0 + 1, by omega, rfl, HW.out, HM.out.kept (below_dN (Below.refl _ _) _), by omega⟩, by simp [intOf]⟩
      · rw [if_neg hp] at hw2
        have HX : Hid (noneS s a = .error (a, 28)) := by unfold Hid; rw [HN.out, ← hw2]; rfl
        have HF := hid (fun q => refFault_any w0 rb s a 0 v5 v6 L O (wr.drewN q) (HM.out.kept (below_dN (Below.refl _ _) q)) 28 a hak)
        have y1 := fun q => (HM.out.kept (below_dN (Below.refl _ _) q)).box.cell 1
        simp at y1
        clear hw2
        by_cases hlt : a < s.size
        · have hg := pk_get hlt
          have hn1 : ¬ (s.size : Int) ≤ (a : Int) := by omega
          have hn2 : (a : Int) < (s.size : Int) := by omega
          have hn3 : decide ((s.size : Int) ≤ (a : Int)) = false := by simp; omega
          obtain ⟨z, hz⟩ : ∃ z, pk s a = z := ⟨_, rfl⟩
          rw [hz] at hg hp
          have hp' : ¬ (z : Int) = 110 := by omega
          have hq1 : decide ((z : Int) = 110) = false := by simp; omega
          have hq2 : ((z : Int) == 110) = false := by simp; omega
          have hq3 : ((z : Int) != 110) = true := by simp; omega
          clear hz
          go_wp2_with fail
          go_quiet (fail)
          go_wp2_with fail
          refine (HF.out _).mono ?_
          rintro e w1 ⟨rfl, hR1⟩
          have HR := hid hR1
          clear hR1 HF
          go_wp2
          exact bodyPost_end (results_none rfl _ _ _) rfl (LeafPost.bad HX.out ⟨_, _, HR.out⟩)
        · have hn1 : (s.size : Int) ≤ (a : Int) := by omega
          go_wp2_with fail
          go_quiet (fail)
          go_wp2_with fail
          refine (HF.out _).mono ?_
          rintro e w1 ⟨rfl, hR1⟩
          have HR := hid hR1
          clear hR1 HF
          go_wp2
          exact bodyPost_end (results_none rfl _ _ _) rfl (LeafPost.bad HX.out ⟨_, _, HR.out⟩)
    · have hw2 : (if pk s (a + 1) = 111 then wordS s [110, 101] (a + 1 + 1) else .error (a + 1, 28)) = R := hw
      clear hw
      have hcc : ((({ data := #[110, 111, 110, 101] } : ByteArray)[1]'(by decide)).toNat : Int) = 111 := by decide
      have htk : ((a : Int) + 1).toNat = a + 1 := by omega
      have hwk : IntKind.i64.wrap ((a : Int) + 1) = (a : Int) + 1 := by rw [IntKind.wrap_i64]; omega
      by_cases hp : pk s (a + 1) = 111
      · rw [if_pos hp] at hw2
        have hlt := pk_pos (s := s) (a := a + 1) (by omega)
        have hg := pk_get hlt
        rw [hp] at hg
        have hn1 : ¬ (s.size : Int) ≤ (a : Int) + 1 := by omega
        have hn2 : (a : Int) + 1 < (s.size : Int) := by omega
        have hn3 : decide ((s.size : Int) ≤ (a : Int) + 1) = false := by simp; omega
        have HW := hid hw2
        clear hw2 hp
        go_wp2_with fail
        go_quiet (fail)
        go_wp2
        exact ⟨⟨1 + 1, by omega, rfl, HW.out, HM.out.kept (below_dN (Below.refl _ _) _), by omega⟩, by simp [intOf]⟩
      · rw [if_neg hp] at hw2
        have HX : Hid (noneS s a = .error (a + 1, 28)) := by unfold Hid; rw [HN.out, ← hw2]; rfl
        have HF := hid (fun q => refFault_any w0 rb s a 0 v5 v6 L O (wr.drewN q) (HM.out.kept (below_dN (Below.refl _ _) q)) 28 (a + 1) hak)
        have y1 := fun q => (HM.out.kept (below_dN (Below.refl _ _) q)).box.cell 1
        simp at y1
        clear hw2
        by_cases hlt : a + 1 < s.size
        · have hg := pk_get hlt
          have hn1 : ¬ (s.size : Int) ≤ (a : Int) + 1 := by omega
          have hn2 : (a : Int) + 1 < (s.size : Int) := by omega
          have hn3 : decide ((s.size : Int) ≤ (a : Int) + 1) = false := by simp; omega
          obtain ⟨z, hz⟩ : ∃ z, pk s (a + 1) = z := ⟨_, rfl⟩
          rw [hz] at hg hp
          have hp' : ¬ (z : Int) = 111 := by omega
          have hq1 : decide ((z : Int) = 111) = false := by simp; omega
          have hq2 : ((z : Int) == 111) = false := by simp; omega
          have hq3 : ((z : Int) != 111) = true := by simp; omega
          clear hz
          go_wp2_with fail
          go_quiet (fail)
          go_wp2_with fail
          refine (HF.out _).mono ?_
          rintro e w1 ⟨rfl, hR1⟩
          have HR := hid hR1
          clear hR1 HF
          go_wp2
          exact bodyPost_end (results_none rfl _ _ _) rfl (LeafPost.bad HX.out ⟨_, _, HR.out⟩)
        · have hn1 : (s.size : Int) ≤ (a : Int) + 1 := by omega
          go_wp2_with fail
          go_quiet (fail)
          go_wp2_with fail
          refine (HF.out _).mono ?_
          rintro e w1 ⟨rfl, hR1⟩
          have HR := hid hR1
          clear hR1 HF
          go_wp2
          exact bodyPost_end (results_none rfl _ _ _) rfl (LeafPost.bad HX.out ⟨_, _, HR.out⟩)
    · have hw2 : (if pk s (a + 2) = 110 then wordS s [101] (a + 2 + 1) else .error (a + 2, 28)) = R := hw
      clear hw
      have hcc : ((({ data := #[110, 111, 110, 101] } : ByteArray)[2]'(by decide)).toNat : Int) = 110 := by decide
      have htk : ((a : Int) + 2).toNat = a + 2 := by omega
      have hwk : IntKind.i64.wrap ((a : Int) + 2) = (a : Int) + 2 := by rw [IntKind.wrap_i64]; omega
      by_cases hp : pk s (a + 2) = 110
      · rw [if_pos hp] at hw2
        have hlt := pk_pos (s := s) (a := a + 2) (by omega)
        have hg := pk_get hlt
        rw [hp] at hg
        have hn1 : ¬ (s.size : Int) ≤ (a : Int) + 2 := by omega
        have hn2 : (a : Int) + 2 < (s.size : Int) := by omega
        have hn3 : decide ((s.size : Int) ≤ (a : Int) + 2) = false := by simp; omega
        have HW := hid hw2
        clear hw2 hp
        go_wp2_with fail
        go_quiet (fail)
        go_wp2
        exact ⟨⟨2 + 1, by omega, rfl, HW.out, HM.out.kept (below_dN (Below.refl _ _) _), by omega⟩, by simp [intOf]⟩
      · rw [if_neg hp] at hw2
        have HX : Hid (noneS s a = .error (a + 2, 28)) := by unfold Hid; rw [HN.out, ← hw2]; rfl
        have HF := hid (fun q => refFault_any w0 rb s a 0 v5 v6 L O (wr.drewN q) (HM.out.kept (below_dN (Below.refl _ _) q)) 28 (a + 2) hak)
        have y1 := fun q => (HM.out.kept (below_dN (Below.refl _ _) q)).box.cell 1
        simp at y1
        clear hw2
        by_cases hlt : a + 2 < s.size
        · have hg := pk_get hlt
          have hn1 : ¬ (s.size : Int) ≤ (a : Int) + 2 := by omega
          have hn2 : (a : Int) + 2 < (s.size : Int) := by omega
          have hn3 : decide ((s.size : Int) ≤ (a : Int) + 2) = false := by simp; omega
          obtain ⟨z, hz⟩ : ∃ z, pk s (a + 2) = z := ⟨_, rfl⟩
          rw [hz] at hg hp
          have hp' : ¬ (z : Int) = 110 := by omega
          have hq1 : decide ((z : Int) = 110) = false := by simp; omega
          have hq2 : ((z : Int) == 110) = false := by simp; omega
          have hq3 : ((z : Int) != 110) = true := by simp; omega
          clear hz
          go_wp2_with fail
          go_quiet (fail)
          go_wp2_with fail
          refine (HF.out _).mono ?_
          rintro e w1 ⟨rfl, hR1⟩
          have HR := hid hR1
          clear hR1 HF
          go_wp2
          exact bodyPost_end (results_none rfl _ _ _) rfl (LeafPost.bad HX.out ⟨_, _, HR.out⟩)
        · have hn1 : (s.size : Int) ≤ (a : Int) + 2 := by omega
          go_wp2_with fail
          go_quiet (fail)
          go_wp2_with fail
          refine (HF.out _).mono ?_
          rintro e w1 ⟨rfl, hR1⟩
          have HR := hid hR1
          clear hR1 HF
          go_wp2
          exact bodyPost_end (results_none rfl _ _ _) rfl (LeafPost.bad HX.out ⟨_, _, HR.out⟩)
    · have hw2 : (if pk s (a + 3) = 101 then wordS s [] (a + 3 + 1) else .error (a + 3, 28)) = R := hw
      clear hw
      have hcc : ((({ data := #[110, 111, 110, 101] } : ByteArray)[3]'(by decide)).toNat : Int) = 101 := by decide
      have htk : ((a : Int) + 3).toNat = a + 3 := by omega
      have hwk : IntKind.i64.wrap ((a : Int) + 3) = (a : Int) + 3 := by rw [IntKind.wrap_i64]; omega
      by_cases hp : pk s (a + 3) = 101
      · rw [if_pos hp] at hw2
        have hlt := pk_pos (s := s) (a := a + 3) (by omega)
        have hg := pk_get hlt
        rw [hp] at hg
        have hn1 : ¬ (s.size : Int) ≤ (a : Int) + 3 := by omega
        have hn2 : (a : Int) + 3 < (s.size : Int) := by omega
        have hn3 : decide ((s.size : Int) ≤ (a : Int) + 3) = false := by simp; omega
        have HW := hid hw2
        clear hw2 hp
        go_wp2_with fail
        go_quiet (fail)
        go_wp2
        exact ⟨⟨3 + 1, by omega, rfl, HW.out, HM.out.kept (below_dN (Below.refl _ _) _), by omega⟩, by simp [intOf]⟩
      · rw [if_neg hp] at hw2
        have HX : Hid (noneS s a = .error (a + 3, 28)) := by unfold Hid; rw [HN.out, ← hw2]; rfl
        have HF := hid (fun q => refFault_any w0 rb s a 0 v5 v6 L O (wr.drewN q) (HM.out.kept (below_dN (Below.refl _ _) q)) 28 (a + 3) hak)
        have y1 := fun q => (HM.out.kept (below_dN (Below.refl _ _) q)).box.cell 1
        simp at y1
        clear hw2
        by_cases hlt : a + 3 < s.size
        · have hg := pk_get hlt
          have hn1 : ¬ (s.size : Int) ≤ (a : Int) + 3 := by omega
          have hn2 : (a : Int) + 3 < (s.size : Int) := by omega
          have hn3 : decide ((s.size : Int) ≤ (a : Int) + 3) = false := by simp; omega
          obtain ⟨z, hz⟩ : ∃ z, pk s (a + 3) = z := ⟨_, rfl⟩
          rw [hz] at hg hp
          have hp' : ¬ (z : Int) = 101 := by omega
          have hq1 : decide ((z : Int) = 101) = false := by simp; omega
          have hq2 : ((z : Int) == 101) = false := by simp; omega
          have hq3 : ((z : Int) != 101) = true := by simp; omega
          clear hz
          go_wp2_with fail
          go_quiet (fail)
          go_wp2_with fail
          refine (HF.out _).mono ?_
          rintro e w1 ⟨rfl, hR1⟩
          have HR := hid hR1
          clear hR1 HF
          go_wp2
          exact bodyPost_end (results_none rfl _ _ _) rfl (LeafPost.bad HX.out ⟨_, _, HR.out⟩)
        · have hn1 : (s.size : Int) ≤ (a : Int) + 3 := by omega
          go_wp2_with fail
          go_quiet (fail)
          go_wp2_with fail
          refine (HF.out _).mono ?_
          rintro e w1 ⟨rfl, hR1⟩
          have HR := hid hR1
          clear hR1 HF
          go_wp2
          exact bodyPost_end (results_none rfl _ _ _) rfl (LeafPost.bad HX.out ⟨_, _, HR.out⟩)
end Go.Proofs.YtdmhemofhmfkoabGreatDoor

namespace Go.Proofs.YtdmhemofhmfkoabGreatDoor
open Go.RowKit
set_option maxRecDepth 8000
/-- what the reference prints at a place, and how far it goes -/
def piece1 (s : ByteArray) (a : Nat) : List Int :=
  if pk s a = 34 ∨ pk s a = 92 then [92, (pk s a : Int)]
  else if pk s a = 10 then [92, 110] else if pk s a = 9 then [92, 116]
  else if 32 ≤ pk s a ∧ pk s a < 127 then [(pk s a : Int)]
  else if 160 ≤ (runR s a).1 then ((txtB s).drop a).take (runR s a).2
  else [92, 120, hexd (pk s a / 16), hexd (pk s a % 16)]
def step1 (s : ByteArray) (a : Nat) : Nat := if 160 ≤ (runR s a).1 then (runR s a).2 else 1
def rqF (s : ByteArray) : Nat → Nat → List Int
  | 0, _ => []
  | k + 1, a => if a < s.size then piece1 s a ++ rqF s k (a + step1 s a) else []
theorem rqF_end {s : ByteArray} {k a : Nat} (h : ¬ a < s.size) : rqF s k a = [] := by
  cases k with
  | zero => rfl
  | succ k => rw [rqF, if_neg h]
theorem run_no {s : ByteArray} {a : Nat} (h : pk s a < 192) : runR s a = (0, 0) := by
  unfold runR
  rw [if_pos (.inl (by unfold runN; rw [if_neg (by omega), if_neg (by omega), if_neg (by omega)]))]
theorem dec_ascii {s : ByteArray} {a : Nat} (h : pk s a < 128) : Utf8.decode s a = (pk s a, 1) := by
  rw [Go.Lib.decode_at, pk_getb]
  unfold Go.Lib.decodeN
  rw [if_pos h]
theorem runE_some {low n : Nat} {o : Option Nat} {v w : Nat} (h : runE low n o = (v, w)) (hv : 0 < v) : o = some v ∧ w = n ∧ low ≤ v := by
  cases o with
  | none => simp only [runE, Prod.mk.injEq] at h; omega
  | some x =>
    unfold runE at h
    simp only at h
    split at h
    · simp only [Prod.mk.injEq] at h; omega
    · simp only [Prod.mk.injEq] at h
      obtain ⟨rfl, rfl⟩ := h
      exact ⟨rfl, rfl, by omega⟩
theorem run_two {s : ByteArray} {a r w : Nat} (h : runR s a = (r, w)) (h1 : 0 < r) (h2 : r < 2048) : w = 2 ∧ 192 ≤ pk s a ∧ 128 ≤ pk s (a + 1) ∧ pk s (a + 1) < 192 ∧ a + 2 ≤ s.size := by
  unfold runR at h
  split at h
  · simp only [Prod.mk.injEq] at h; omega
  · rename_i hn
    obtain ⟨e1, e2, e3⟩ := runE_some h h1
    unfold runL at e3
    unfold runN at e1 e2 hn
    split at e3
    · rename_i c
      rw [if_pos c] at e1 e2 hn
      simp only [Nat.reduceSub, runF] at e1
      split at e1
      · cases e1
      · omega
    · split at e3
      · omega
      · split at e3
        · omega
        · rename_i c1 c2 c3
          rw [if_neg c1, if_neg c2, if_neg c3] at hn
          omega
theorem hex1 (b : Nat) : hexB [(b : Int)] = [92, 120, hexd (b / 16), hexd (b % 16)] := by simp [hexB]
theorem hex2 (b c : Nat) : hexB [(b : Int), (c : Int)] = [92, 120, hexd (b / 16), hexd (b % 16)] ++ [92, 120, hexd (c / 16), hexd (c % 16)] := by simp [hexB]
set_option maxHeartbeats 1000000 in
theorem rq_quo (s : ByteArray) : ∀ m k k' a, s.size ≤ a + m → s.size ≤ a + k → s.size ≤ a + k' → rqF s k a = quoF s k' a := by
  intro m
  induction m using Nat.strongRecOn with
  | ind m ih =>
    intro k k' a hm hk hk'
    by_cases ha : a < s.size
    · obtain ⟨k1, rfl⟩ : ∃ k1, k = k1 + 1 := ⟨k - 1, by omega⟩
      obtain ⟨k2, rfl⟩ : ∃ k2, k' = k2 + 1 := ⟨k' - 1, by omega⟩
      rw [rqF, if_pos ha, quoF, if_pos ha]
      have hwd := dec_width s a
      have hrd := run_dec ha
      obtain ⟨r, w, hD⟩ : ∃ r w, Utf8.decode s a = (r, w) := ⟨_, _, rfl⟩
      have hb := enc_back ha
      have hlo := dec_low (s := s) (a := a)
      have hasc := dec_ascii (s := s) (a := a)
      have hpk := pk_getb s a
      rw [hD] at hwd hrd hb hlo hasc
      unfold piece
      rw [hD]
      simp only at hwd hrd hb hlo ⊢
      by_cases hw : 1 < w
      · rw [if_pos hw] at hrd
        have h128 : 128 ≤ r := Nat.le_of_not_lt fun h => by have := (hlo h).2; omega
        have hpk2 : 128 ≤ pk s a := Nat.le_of_not_lt fun h => by have := hasc h; simp only [Prod.mk.injEq] at this; omega
        unfold piece1 step1
        rw [hrd]
        simp only
        rw [if_neg (by omega), if_neg (by omega), if_neg (by omega), if_neg (by omega), if_neg (show ¬ (r = 34 ∨ r = 92) by omega), if_neg (show ¬ r = 10 by omega), if_neg (show ¬ r = 9 by omega)]
        by_cases h160 : 160 ≤ r
        · rw [if_pos h160, if_pos h160, if_pos (.inr ⟨h160, hw⟩), (hb hw).1, ih (m - 1) (by omega) k1 k2 (a + w) (by omega) (by omega) (by omega)]
        · rw [if_neg h160, if_neg h160, if_neg (by omega)]
          obtain ⟨rfl, _, hc1, hc2, hsz⟩ := run_two hrd (by omega) (by omega)
          rw [take2 (by omega), pk_getb, pk_getb, hex2]
          obtain ⟨k3, rfl⟩ : ∃ k3, k1 = k3 + 1 := ⟨k1 - 1, by omega⟩
          rw [rqF, if_pos (by omega)]
          unfold piece1 step1
          rw [run_no (show pk s (a + 1) < 192 from hc2)]
          simp only
          rw [if_neg (by omega), if_neg (by omega), if_neg (by omega), if_neg (by omega), if_neg (by omega), if_neg (by omega), ih (m - 1) (by omega) k3 k2 (a + 1 + 1) (by omega) (by omega) (by omega), List.append_assoc]
      · rw [if_neg hw] at hrd
        obtain rfl : w = 1 := by omega
        unfold piece1 step1
        rw [hrd]
        simp only
        rw [if_neg (show ¬ 160 ≤ 0 by omega), if_neg (show ¬ 160 ≤ 0 by omega), ih (m - 1) (by omega) k1 k2 (a + 1) (by omega) (by omega) (by omega), take1 ha, hpk, hex1]
        congr 1
        by_cases h128 : r < 128
        · have hr : pk s a = r := by rw [← hpk]; exact (hlo h128).1
          rw [hr]
          by_cases c1 : r = 34 ∨ r = 92
          · rw [if_pos c1, if_pos c1]
          rw [if_neg c1, if_neg c1]
          by_cases c2 : r = 10
          · rw [if_pos c2, if_pos c2]
          rw [if_neg c2, if_neg c2]
          by_cases c3 : r = 9
          · rw [if_pos c3, if_pos c3]
          rw [if_neg c3, if_neg c3]
          by_cases c4 : 32 ≤ r ∧ r < 127
          · rw [if_pos c4, if_pos (.inl (by omega)), enc_one h128]
          · rw [if_neg c4, if_neg (by omega)]
        · have hr : 128 ≤ pk s a := Nat.le_of_not_lt fun h => by have := hasc h; simp only [Prod.mk.injEq] at this; omega
          rw [if_neg (by omega), if_neg (by omega), if_neg (by omega), if_neg (by omega), if_neg (by omega), if_neg (by omega), if_neg (by omega), if_neg (by omega)]
    · rw [rqF_end ha, quoF_end s ha]
theorem rq_len (s : ByteArray) (a : Nat) (ha : a < s.size) : 1 ≤ step1 s a ∧ a + step1 s a ≤ s.size := by
  have hrd := run_dec ha
  have hwd := dec_width s a
  unfold step1
  rw [hrd]
  by_cases hw : 1 < (Utf8.decode s a).2
  · rw [if_pos hw]
    split <;> omega
  · rw [if_neg hw]
    simp only
    rw [if_neg (by omega)]
    omega
end Go.Proofs.YtdmhemofhmfkoabGreatDoor
