import Derived.Test.YtbcnlfbclgkeiaaLcB
namespace Go.Proofs.Ytbcnlfbclgkeiaa
open Go.RowKit Go.Conc
set_option maxRecDepth 8000
set_option maxHeartbeats 1000000 in
/-- isRecord -/
theorem isRec_any (x : IT) (w : World) : Calls Try.prog 33 #[.agg #[.int .i64 x.mark, .string x.r.key, .int .i64 x.r.v.kind, .int .i64 x.r.v.int, .string x.r.v.text, .slice x.r.v.p x.r.v.n x.r.v.c, .slice x.r.p x.r.n x.r.c]] w fun e w' => e = .returned (.bool (x.mark == 0)) ∧ Below w.heap.size w w' := by
  go_enter Try.func33, Try.ntmps33
  go_wp2
  refine bodyPost_ret (v := .bool (x.mark == 0)) (by simp [results, Try.results33, go_sem]) rfl ⟨rfl, (Below.refl _ _).alloc (Nat.le_refl _) _⟩
section
variable {w : World} {Z : Nat → Prop} {b : Nat} {L : Ln}
theorem LnI.c0 (h : LnI w Z b L) : w.cell? ⟨b, 0, none⟩ = some (.int .i64 L.room) := by rw [h.box.cell]; rfl
theorem LnI.c1 (h : LnI w Z b L) : w.cell? ⟨b, 1, none⟩ = some (.int .i64 (nR L.q)) := by rw [h.box.cell]; rfl
theorem LnI.c2 (h : LnI w Z b L) : w.cell? ⟨b, 2, none⟩ = some L.nextV := by rw [h.box.cell]; rfl
theorem LnI.c3 (h : LnI w Z b L) : w.cell? ⟨b, 3, none⟩ = some (.chan (some L.ch)) := by rw [h.box.cell]; rfl
theorem LnI.inCh_len (h : LnI w Z b L) : L.inCh.length + (if L.next = none then 0 else 1) = L.q.length := by
  unfold Ln.inCh
  cases hn : L.next with
  | none => simp
  | some n =>
    obtain ⟨x, q', e, _⟩ := h.nxt n hn
    simp [e]
end
theorem eqlChan (w : World) (c : Option Nat) : (binOp .eql 71 (.chan c) (.chan none)).run Try.prog w = .ok (.bool c.isNone) w := by
  have h : ∀ d : Nat, (Op.equalIn (d + 1) 71 (.chan c) (.chan none)).run Try.prog w = .ok c.isNone w := fun d => by
    cases c <;> simp [Op.equalIn, run_underlying Try.underlying71]
  have h1 : (Op.equal 71 (.chan c) (.chan none)).run Try.prog w = .ok c.isNone w := h 9999
  simp only [binOp]
  simp [h1]
set_option maxHeartbeats 1000000 in
theorem shut_no (w : World) (Z : Nat → Prop) (b : Nat) (L : Ln) (hI : LnI w Z b L) : Calls Try.prog 38 #[.pointer (some ⟨b, 0, none⟩)] w fun e w' => e = .returned (.bool false) ∧ w' = w := by
  have c3 := hI.c3
  have bl := hI.b_lt
  have hq := fun w => eqlChan w (some L.ch)
  clear hI
  go_enter Try.func38, Try.ntmps38
  go_wp2
  refine bodyPost_ret (v := .bool false) (by simp [results, Try.results38, go_sem]) rfl ⟨rfl, rfl⟩
set_option maxHeartbeats 1000000 in
theorem count_any (w : World) (Z : Nat → Prop) (b : Nat) (L : Ln) (hI : LnI w Z b L) : Calls Try.prog 32 #[.pointer (some ⟨b, 0, none⟩)] w fun e w' => e = .returned (.int .i64 (L.q.length : Int)) ∧ w' = w := by
  have c2 := hI.c2
  have c3 := hI.c3
  have bl := hI.b_lt
  have hlen := hI.len
  have hil := hI.inCh_len
  obtain ⟨s, r, hc⟩ := hI.buf
  have hlc := run_len_chan (P := Try.prog) 71 3 Try.underlying71 hc
  simp only [List.size_toArray, List.length_map] at hlc
  cases hn : L.next with
  | none =>
    have c2' : w.cell? ⟨b, 2, none⟩ = some (.pointer none) := by rw [c2]; simp [Ln.nextV, hn]
    rw [if_pos hn, Nat.add_zero] at hil
    rw [hil] at hlc
    clear hI c2 hc hil hn
    go_enter Try.func32, Try.ntmps32
    go_wp2
    refine bodyPost_ret (v := .int .i64 (L.q.length : Int)) (by simp [results, Try.results32, go_sem]) rfl ⟨rfl, rfl⟩
  | some n =>
    have c2' : w.cell? ⟨b, 2, none⟩ = some (.pointer (some ⟨n, 0, none⟩)) := by rw [c2]; simp [Ln.nextV, hn]
    rw [if_neg (by rw [hn]; simp)] at hil
    have hil' := hid hil
    have hb : L.inCh.length ≤ 30000 := by omega
    clear hI c2 hc hil hn
    go_enter Try.func32, Try.ntmps32
    go_wp2
    have e : ((L.inCh.length : Nat) : Int) + 1 = (L.q.length : Int) := by have := hil'.out; omega
    refine bodyPost_ret (v := .int .i64 (L.q.length : Int)) (by simp [results, Try.results32, go_sem, e]) rfl ⟨rfl, rfl⟩
end Go.Proofs.Ytbcnlfbclgkeiaa
