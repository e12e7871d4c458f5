import Derived.Test.YtldkepokcbjlpaaPack14
namespace Go.Proofs.Ytldkepokcbjlpaa
open Go.RowKit Go.Conc
set_option maxRecDepth 60000
structure QS (w : World) (b : Nat) (P : Ps) (w' : World) (P' : Ps) (L' : List Value) : Prop where
  inv : PsI w' b P'
  inb : Inb w' P' L'
  chE : P'.ch = P.ch
  but : But (fun k => P.C b k ∨ k = P.ch) w w'
  cs : ∀ k, P'.C b k → P.C b k ∨ w.heap.size ≤ k
theorem Inb.to {w w' : World} {P P' : Ps} {L : List Value} (h : Inb w P L) (e1 : P'.ch = P.ch) (e2 : P'.tasks = P.tasks) (hb : w'.heap[P.ch]? = w.heap[P.ch]?) : Inb w' P' L := by
  obtain ⟨s, r, hc⟩ := h.ch
  exact ⟨s, r, by rw [e1, e2, hb]; exact hc⟩
theorem QSet.qs {w w' : World} {b : Nat} {P P' : Ps} {L : List Value} (h : QSet w b P w' P') (hI : PsI w b P) (hc : Inb w P L) (e1 : P'.ch = P.ch) (e2 : P'.tasks = P.tasks) : QS w b P w' P' L :=
  ⟨h.inv, hc.to e1 e2 (h.but.block _ hc.lt (fun hk => hI.ch_ne hc hk rfl)), e1, ⟨h.but.os, h.but.tape, h.but.output, h.but.size, fun k hl hn => h.but.block k hl (fun e => hn (.inl e))⟩, h.cs⟩
theorem QS.trans {w w1 w2 : World} {b : Nat} {P P1 P2 : Ps} {L1 L2 : List Value} (h : QS w b P w1 P1 L1) (_hlt : P.ch < w.heap.size) (g : QS w1 b P1 w2 P2 L2) : QS w b P w2 P2 L2 := by
  refine ⟨g.inv, g.inb, g.chE.trans h.chE, ⟨g.but.os.trans h.but.os, g.but.tape.trans h.but.tape, g.but.output.trans h.but.output, Nat.le_trans h.but.size g.but.size, fun k hl hn => ?_⟩, fun k hk => ?_⟩
  · refine (g.but.block k (Nat.lt_of_lt_of_le hl h.but.size) (fun e => ?_)).trans (h.but.block k hl hn)
    rcases e with e | e
    · rcases h.cs k e with h1 | h1
      · exact hn (.inl h1)
      · omega
    · exact hn (.inr (e.trans h.chE))
  · rcases g.cs k hk with h1 | h1
    · exact h.cs k h1
    · exact .inr (Nat.le_trans h.but.size h1)
theorem EmpQ.qs {w w' : World} {b : Nat} {P : Ps} {L : List Value} (h : EmpQ w P w') (hI : PsI w b P) (hc : Inb w P L) : QS w b P w' P [] :=
  ⟨hI.chd hc h.but, h.inb, rfl, ⟨h.but.os, h.but.tape, h.but.output, h.but.size, fun k hl hn => h.but.block k hl (fun e => hn (.inr e))⟩, fun _ hk => .inl hk⟩
theorem Ps.under_n {P : Ps} (h : ¬ P.under = 0) : 0 < P.sts.n ∧ P.under = P.next - 1 ∧ P.stat (P.next - 1) = 1 := by
  unfold Ps.under at h ⊢
  split at h
  · rename_i h1
    refine ⟨?_, by rw [if_pos h1], h1⟩
    unfold Ps.stat at h1
    split at h1
    · omega
    · rename_i h2
      unfold Ps.next at h2
      omega
  · exact absurd rfl h
structure AbQ (w : World) (b : Nat) (P : Ps) (L : List Value) (e : Ending) (w' : World) (P' : Ps) (L' : List Value) : Prop where
  s : QS w b P w' P' L'
  n : P.under = 0 → P' = P ∧ L' = L ∧ e = .returned (.tuple #[.int .i64 0, .int .i64 146])
  y : ¬ P.under = 0 → P' = P.fin 4 ∧ L' = [] ∧ e = .returned (.tuple #[.int .i64 P.under, .int .i64 0])
def AbP (w : World) (b : Nat) (P : Ps) (L : List Value) (e : Ending) (w' : World) : Prop := ∃ P' L', AbQ w b P L e w' P' L'
set_option maxHeartbeats 4000000 in
theorem abort_any (w : World) (b : Nat) (P : Ps) (L : List Value) (hI : PsI w b P) (hc : Inb w P L) : Calls Try.prog 15 #[.pointer (some ⟨b, 0, none⟩)] w fun e w' => AbP w b P L e w' := by
  have HI := hid hI
  have HC := hid hc
  have HU := hid (under_any w b P hI)
  clear hI hc
  by_cases h : P.under = 0
  · have HH := hid h
    clear h
    go_enter Try.func15, Try.ntmps15
    go_wp2_with (go_at_call 30; refine HU.out.mono ?_; rintro e w1 ⟨rfl, hb1⟩; rw [HH.out])
    refine bodyPost_ret (v := .tuple #[.int .i64 0, .int .i64 146]) (by simp [results, Try.results15, go_sem]) rfl ?_
    exact ⟨P, L, (QSet.same HI.out hb1).qs HI.out HC.out rfl rfl, fun _ => ⟨rfl, rfl, rfl⟩, fun h => absurd HH.out h⟩
  · have HH := hid h
    have HN := hid (Ps.under_n h)
    have h' : (P.under == 0) = false := by simp [h]
    have HEm : Hid (∀ V, Below w.heap.size w V → Calls Try.prog 34 #[.pointer (some ⟨b, 0, none⟩)] V fun e w' => EmpR V P e w') := fun V hV => empty_any V b P L (HI.out.below hV) (HC.out.to rfl rfl (hV.block _ HC.out.lt))
    clear h
    go_enter Try.func15, Try.ntmps15
    go_wp2_with (first | (go_at_call 30; refine HU.out.mono ?_; rintro e w1 ⟨rfl, hb1⟩) | (go_at_call 34; refine (HEm.out _ hb1).mono ?_; rintro e w2 ⟨rfl, hq2⟩) | (go_at_call 35; refine (end_any 4 ⟨by omega, by omega⟩ w2 b P ((HI.out.below hb1).chd (HC.out.to rfl rfl (hb1.block _ HC.out.lt)) hq2.but) HN.out.1).mono ?_; rintro e w3 ⟨rfl, hq3⟩))
    refine bodyPost_ret (v := .tuple #[.int .i64 P.under, .int .i64 0]) (by simp [results, Try.results15, go_sem]) rfl ?_
    have hI1 := HI.out.below hb1
    have hC1 : Inb w1 P L := HC.out.to rfl rfl (hb1.block _ HC.out.lt)
    have hI2 := hI1.chd hC1 hq2.but
    refine ⟨P.fin 4, [], (((QSet.same HI.out hb1).qs HI.out HC.out rfl rfl).trans HC.out.lt (hq2.qs hI1 hC1)).trans HC.out.lt (hq3.qs hI2 hq2.inb rfl rfl), fun h => absurd h HH.out, fun _ => ⟨rfl, rfl, rfl⟩⟩
end Go.Proofs.Ytldkepokcbjlpaa

namespace Go.Proofs.Ytldkepokcbjlpaa
open Go.RowKit Go.Conc
set_option maxRecDepth 60000
def vt0 : VT := .nil
def rt0 : RT := ⟨⟨#[]⟩, vt0, none, 0, 0, fun _ => 0⟩
def pt0 : PtT := ⟨0, ⟨none, 0, 0, fun _ => vt0⟩, ⟨none, 0, 0, fun _ => ⟨none, 0, 0, fun _ => rt0⟩⟩, ⟨none, 0, 0, fun _ => rt0⟩⟩
def Ps.new (tasks first sum : Int) (ch : Nat) : Ps := ⟨tasks, first, sum, ⟨none, 0, 0, fun _ => 0⟩, ch, fun _ => 0, fun _ => pt0⟩
structure NewQ (tasks first sum : Int) (w : World) (e : Ending) (w' : World) : Prop where
  n : (tasks < 1 ∨ 12 < tasks ∨ first < 1 ∨ 10000 < first) → e = .returned (.tuple #[.pointer none, .int .i64 140]) ∧ Below w.heap.size w w'
  y : ¬ (tasks < 1 ∨ 12 < tasks ∨ first < 1 ∨ 10000 < first) → e = .returned (.tuple #[.pointer (some ⟨w.heap.size + 1, 0, none⟩), .int .i64 0]) ∧ PsI w' (w.heap.size + 1) (Ps.new tasks first sum w.heap.size) ∧ Inb w' (Ps.new tasks first sum w.heap.size) [] ∧ Below w.heap.size w w'
theorem mkCh (w : World) (T : Nat) (hT : T ≤ 12) : (Instr.makeChan 76 (.int .i64 (T : Int))).run Try.prog w = .ok (.chan (some w.heap.size)) (w.alloc (.chan T #[] false 0 0 false)) := by
  obtain ⟨i0, hi, hz⟩ : ∃ i, Try.prog.info? 91 = some i ∧ i.bytes = 88 := by
    have h : (Try.prog.info? 91).map (fun i => i.bytes) = some 88 := by kernel_rfl
    cases hq : Try.prog.info? 91 with
    | none => rw [hq] at h; cases h
    | some i => rw [hq] at h; exact ⟨i, rfl, by simpa using h⟩
  exact run_makeChan Try.underlying76 hi .i64 T (by omega) (by rw [hz]; omega)
set_option maxHeartbeats 4000000 in
theorem new_any (tasks first sum : Int) (w : World) : Calls Try.prog 9 #[.int .i64 tasks, .int .i64 first, .int .u32 sum] w fun e w' => NewQ tasks first sum w e w' := by
  by_cases h0 : tasks < 1
  · have HE : Hid (tasks < 1 ∨ 12 < tasks ∨ first < 1 ∨ 10000 < first) := by unfold Hid; omega
    go_enter Try.func9, Try.ntmps9
    go_wp2
    refine bodyPost_ret (v := .tuple #[.pointer none, .int .i64 140]) (by simp [results, Try.results9, go_sem]) rfl ?_
    exact ⟨fun _ => ⟨rfl, Below.refl _ _⟩, fun h => absurd HE.out h⟩
  by_cases h1 : 12 < tasks
  · have HE : Hid (tasks < 1 ∨ 12 < tasks ∨ first < 1 ∨ 10000 < first) := by unfold Hid; omega
    go_enter Try.func9, Try.ntmps9
    go_wp2
    refine bodyPost_ret (v := .tuple #[.pointer none, .int .i64 140]) (by simp [results, Try.results9, go_sem]) rfl ?_
    exact ⟨fun _ => ⟨rfl, Below.refl _ _⟩, fun h => absurd HE.out h⟩
  by_cases h2 : first < 1
  · have HE : Hid (tasks < 1 ∨ 12 < tasks ∨ first < 1 ∨ 10000 < first) := by unfold Hid; omega
    go_enter Try.func9, Try.ntmps9
    go_wp2
    refine bodyPost_ret (v := .tuple #[.pointer none, .int .i64 140]) (by simp [results, Try.results9, go_sem]) rfl ?_
    exact ⟨fun _ => ⟨rfl, Below.refl _ _⟩, fun h => absurd HE.out h⟩
  by_cases h3 : 10000 < first
  · have HE : Hid (tasks < 1 ∨ 12 < tasks ∨ first < 1 ∨ 10000 < first) := by unfold Hid; omega
    go_enter Try.func9, Try.ntmps9
    go_wp2
    refine bodyPost_ret (v := .tuple #[.pointer none, .int .i64 140]) (by simp [results, Try.results9, go_sem]) rfl ?_
    exact ⟨fun _ => ⟨rfl, Below.refl _ _⟩, fun h => absurd HE.out h⟩
  have HE : Hid (¬ (tasks < 1 ∨ 12 < tasks ∨ first < 1 ∨ 10000 < first)) := by unfold Hid; omega
  obtain ⟨T, rfl⟩ : ∃ T : Nat, tasks = (T : Int) := ⟨tasks.toNat, by omega⟩
  have hmk := mkCh w T (by omega)
  go_enter Try.func9, Try.ntmps9
  go_wp2
  refine bodyPost_ret (v := .tuple #[.pointer (some ⟨w.heap.size + 1, 0, none⟩), .int .i64 0]) (by simp [results, Try.results9, go_sem]) rfl ?_
  refine ⟨fun h => absurd h HE.out, fun _ => ⟨rfl, ?_⟩⟩
  obtain ⟨W, hW⟩ : ∃ W, W = w.alloc (.chan T #[] false 0 0 false) := ⟨_, rfl⟩
  rw [← hW]
  have hs : W.heap.size = w.heap.size + 1 := by rw [hW]; simp
  have hb0 : Below w.heap.size w W := by rw [hW]; exact (Below.refl _ _).alloc (Nat.le_refl _) _
  have hb1 : ∀ o, Below W.heap.size W (W.alloc o) := fun o => (Below.refl _ _).alloc (Nat.le_refl _) _
  have hc0 : W.heap[w.heap.size]? = some (.chan T #[] false 0 0 false) := by rw [hW]; exact Array.getElem?_push_size
  refine ⟨⟨?_, World.ownsRow_nil _ _ _ _, by simp [Ps.lv, Ps.new, Value.ownBlock], fun j hj => absurd hj (Nat.not_lt_zero _), by show 1 ≤ (T : Int); omega, by show (T : Int) ≤ 12; omega, by show 1 ≤ first; omega, by show first ≤ 10000; omega, by show ((0 : Nat) : Int) ≤ 10000; omega⟩, ⟨0, 0, ?_⟩, hb0.trans ((hb1 _).mono (by omega))⟩
  · rw [← hs]
    exact Box.new W _ _
  · exact ((hb1 _).block w.heap.size (by omega)).trans hc0
end Go.Proofs.Ytldkepokcbjlpaa
