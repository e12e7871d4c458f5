import Derived.Test.YtpldokahoamdpaaPack2
import Derived.Test.YtpldokahoamdpaaPack3
namespace Go.Proofs.Ytpldokahoamdpaa
open Go.RowKit Go.Conc
set_option maxRecDepth 8000
/-- an item -/
structure IT where
  mark : Int
  r : RT
def IT.cells (x : IT) : List Value := [.int .i64 x.mark, .string x.r.key, .int .i64 x.r.v.kind, .int .i64 x.r.v.int, .string x.r.v.text, .slice x.r.v.p x.r.v.n x.r.v.c, .slice x.r.p x.r.n x.r.c]
def IT.val (x : IT) : Value := .agg #[.int .i64 x.mark, .string x.r.key, .int .i64 x.r.v.kind, .int .i64 x.r.v.int, .string x.r.v.text, .slice x.r.v.p x.r.v.n x.r.v.c, .slice x.r.p x.r.n x.r.c]
structure IT.In (w : World) (S : Nat → Prop) (x : IT) : Prop where
  r : RT.In w S x.r
  m0 : -9223372036854775808 ≤ x.mark
  m1 : x.mark ≤ 9223372036854775807
theorem IT.In.kept {w w' : World} {S : Nat → Prop} {x : IT} (h : IT.In w S x) (hs : w.heap.size ≤ w'.heap.size) (hb : ∀ b, S b → b < w.heap.size → w'.heap[b]? = w.heap[b]?) : IT.In w' S x := ⟨h.r.kept hs hb, h.m0, h.m1⟩
theorem IT.In.mono {w : World} {S S' : Nat → Prop} {x : IT} (h : IT.In w S x) (hb : ∀ b, S b → b < w.heap.size → S' b) : IT.In w S' x := ⟨h.r.mono hb, h.m0, h.m1⟩
theorem IT.In.below {w w' : World} {S : Nat → Prop} {x : IT} (h : IT.In w S x) (hb : Below w.heap.size w w') : IT.In w' S x := h.kept hb.size fun b _ hl => hb.block b hl
def elItem : El IT where
  ty := 35
  size := 7
  cells := IT.cells
  len := fun _ => rfl
  one := fun x u hu => by
    simp only [IT.cells, List.mem_cons, List.not_mem_nil, or_false] at hu
    rcases hu with rfl | rfl | rfl | rfl | rfl | rfl | rfl <;> rfl
  In := IT.In
  kept := fun h hs hb => h.kept hs hb
  mono := fun h hb => h.mono hb
/-- the empty record -/
def rz : RT := ⟨⟨#[]⟩, .mk 0 0 ⟨#[]⟩ 0 none 0 (fun _ => .nil), none, 0, 0, fun _ => 0⟩
theorem rz_in (w : World) (S : Nat → Prop) : RT.In w S rz := by
  refine ⟨⟨⟨by decide, by decide, by decide, by decide, by decide, Nat.le_refl _, Nat.zero_le _, Nat.zero_le _, fun _ => ⟨rfl, rfl⟩⟩, fun h => absurd h (Nat.lt_irrefl 0), fun j h => absurd h (Nat.not_lt_zero j)⟩, ?_, by decide⟩
  exact ⟨fun h => absurd h (Nat.lt_irrefl 0), Nat.le_refl _, Nat.zero_le _, Nat.zero_le _, fun j h => absurd h (Nat.not_lt_zero j), fun _ => ⟨rfl, rfl⟩⟩
/-- an item that a lane may hold -/
structure IT.Fine (x : IT) : Prop where
  sz : x.r.n + x.r.v.total ≤ 10000
  m : 0 ≤ x.mark
  z : x.mark ≠ 0 → x.r = rz
def nR (q : List IT) : Nat := (q.filter fun x => x.mark = 0).length
theorem nR_le (q : List IT) : nR q ≤ q.length := List.length_filter_le _ _
theorem nR_append (p q : List IT) : nR (p ++ q) = nR p + nR q := by simp [nR]
theorem nR_cons0 {x : IT} (q : List IT) (h : x.mark = 0) : nR (x :: q) = nR q + 1 := by simp [nR, h]
theorem nR_cons1 {x : IT} (q : List IT) (h : x.mark ≠ 0) : nR (x :: q) = nR q := by simp [nR, h]
/-- a lane: its room, the block of what was looked at, its channel, what is in it -/
structure Ln where
  room : Int
  next : Option Nat
  ch : Nat
  cap : Nat
  q : List IT
def Ln.C (L : Ln) (b k : Nat) : Prop := k = b ∨ k = L.ch ∨ L.next = some k
def Ln.inCh (L : Ln) : List IT := if L.next = none then L.q else L.q.tail
def Ln.nextV (L : Ln) : Value := .pointer (L.next.map fun n => ⟨n, 0, none⟩)
structure LnI (w : World) (Z : Nat → Prop) (b : Nat) (L : Ln) : Prop where
  box : Box w b #[.int .i64 L.room, .int .i64 (nR L.q), L.nextV, .chan (some L.ch)] 74
  buf : ∃ s r, w.heap[L.ch]? = some (.chan L.cap (L.inCh.map IT.val).toArray false s r false)
  nxt : ∀ n, L.next = some n → ∃ x q', L.q = x :: q' ∧ Box w n x.cells.toArray 35
  r0 : 0 ≤ L.room
  r1 : L.room ≤ 8
  cp : L.cap ≤ 60001
  len : L.q.length ≤ 30000
  it : ∀ x ∈ L.q, IT.In w (fun k => ¬ L.C b k ∧ ¬ Z k) x ∧ IT.Fine x
  cz : ∀ k, L.C b k → ¬ Z k
  fit : L.inCh.length ≤ L.cap
section
variable {w w' : World} {Z : Nat → Prop} {b : Nat} {L : Ln}
theorem LnI.ch_lt (h : LnI w Z b L) : L.ch < w.heap.size := by
  obtain ⟨s, r, hc⟩ := h.buf
  rcases Nat.lt_or_ge L.ch w.heap.size with h | h
  · exact h
  · rw [Array.getElem?_eq_none h] at hc; cases hc
theorem LnI.b_lt (h : LnI w Z b L) : b < w.heap.size := h.box.lt
theorem LnI.n_lt (h : LnI w Z b L) {n : Nat} (hn : L.next = some n) : n < w.heap.size := by
  obtain ⟨x, q', _, hb⟩ := h.nxt n hn
  exact hb.lt
theorem LnI.c_lt (h : LnI w Z b L) {k : Nat} (hk : L.C b k) : k < w.heap.size := by
  rcases hk with rfl | rfl | hk
  · exact h.b_lt
  · exact h.ch_lt
  · exact h.n_lt hk
theorem box_not_chan {w : World} {b c : Nat} {cs : Array Value} {t : TypeId} (h : Box w b cs t) {cap : Nat} {buf : Array Value} {cl : Bool} {s r : Nat} {tm : Bool} (hc : w.heap[c]? = some (.chan cap buf cl s r tm)) : b ≠ c := by
  rintro rfl
  unfold Box at h
  rw [h] at hc
  cases hc
theorem LnI.b_ch (h : LnI w Z b L) : b ≠ L.ch := by
  obtain ⟨s, r, hc⟩ := h.buf
  exact box_not_chan h.box hc
theorem LnI.n_ch (h : LnI w Z b L) {n : Nat} (hn : L.next = some n) : n ≠ L.ch := by
  obtain ⟨s, r, hc⟩ := h.buf
  obtain ⟨x, q', _, hb⟩ := h.nxt n hn
  exact box_not_chan hb hc
theorem LnI.b_n (h : LnI w Z b L) {n : Nat} (hn : L.next = some n) : b ≠ n := by
  obtain ⟨x, q', _, hb⟩ := h.nxt n hn
  rintro rfl
  have h1 := h.box
  unfold Box at h1 hb
  rw [h1] at hb
  simp [IT.cells] at hb
theorem LnI.but {X : Nat → Prop} (h : LnI w Z b L) (hb : But X w w') (hx : ∀ k, k < w.heap.size → X k → Z k) : LnI w' Z b L := by
  have hk : ∀ k, k < w.heap.size → ¬ Z k → w'.heap[k]? = w.heap[k]? := fun k hl hz => hb.block k hl fun e => hz (hx k hl e)
  obtain ⟨s, r, hc⟩ := h.buf
  refine ⟨h.box.kept (hk _ h.b_lt (h.cz _ (.inl rfl))), ⟨s, r, (hk _ h.ch_lt (h.cz _ (.inr (.inl rfl)))).trans hc⟩, fun n hn => ?_, h.r0, h.r1, h.cp, h.len, fun x hx2 => ⟨(h.it x hx2).1.kept hb.size (fun k hz hl => hk k hl hz.2), (h.it x hx2).2⟩, h.cz, h.fit⟩
  obtain ⟨x, q', e, hbx⟩ := h.nxt n hn
  exact ⟨x, q', e, hbx.kept (hk _ (h.n_lt hn) (h.cz _ (.inr (.inr hn))))⟩
theorem LnI.below (h : LnI w Z b L) (hb : Below w.heap.size w w') : LnI w' Z b L := h.but (X := fun _ => False) (But.ofBelow hb) fun _ _ e => e.elim
theorem LnI.z {Z' : Nat → Prop} (h : LnI w Z b L) (hz : ∀ k, k < w.heap.size → Z' k → Z k) : LnI w Z' b L :=
  ⟨h.box, h.buf, h.nxt, h.r0, h.r1, h.cp, h.len, fun x hx => ⟨(h.it x hx).1.mono fun k hk hl => ⟨hk.1, fun e => hk.2 (hz k hl e)⟩, (h.it x hx).2⟩, fun k hk e => h.cz k hk (hz k (h.c_lt hk) e), h.fit⟩
end
/-- what a call made of a lane -/
structure LSet (w : World) (Z : Nat → Prop) (b : Nat) (L : Ln) (w' : World) (L' : Ln) : Prop where
  ln : LnI w' Z b L'
  but : But (L.C b) w w'
  c : ∀ k, L'.C b k → L.C b k ∨ w.heap.size ≤ k
  room : L'.room = L.room
theorem LSet.refl {w : World} {Z : Nat → Prop} {b : Nat} {L : Ln} (h : LnI w Z b L) : LSet w Z b L w L := ⟨h, But.refl _ _, fun _ hk => .inl hk, rfl⟩
theorem LSet.below {w w' : World} {Z : Nat → Prop} {b : Nat} {L : Ln} (h : LnI w Z b L) (hb : Below w.heap.size w w') : LSet w Z b L w' L := ⟨h.below hb, But.ofBelow hb, fun _ hk => .inl hk, rfl⟩
theorem LSet.trans {w w1 w2 : World} {Z : Nat → Prop} {b : Nat} {L L1 L2 : Ln} (h : LSet w Z b L w1 L1) (g : LSet w1 Z b L1 w2 L2) : LSet w Z b L w2 L2 := by
  refine ⟨g.ln, ⟨g.but.os.trans h.but.os, g.but.tape.trans h.but.tape, g.but.output.trans h.but.output, Nat.le_trans h.but.size g.but.size, fun k hk hn => ?_⟩, fun k hk => ?_, g.room.trans h.room⟩
  · refine (g.but.block k (Nat.lt_of_lt_of_le hk h.but.size) fun hc => ?_).trans (h.but.block k hk hn)
    rcases h.c k hc with e | e
    · exact hn e
    · omega
  · rcases g.c k hk with h1 | h1
    · exact h.c k h1
    · exact .inr (Nat.le_trans h.but.size h1)
theorem But.setChan (w : World) (c cap : Nat) (buf : Array Value) (cl : Bool) (s r : Nat) (tm : Bool) : But (fun k => k = c) w (w.setChan c cap buf cl s r tm) :=
  ⟨rfl, rfl, rfl, by simp [World.setChan], fun k _ hn => by simp only [World.setChan]; rw [Array.getElem?_setIfInBounds_ne (fun e => hn e.symm)]⟩
end Go.Proofs.Ytpldokahoamdpaa

namespace Go.Proofs.Ytpldokahoamdpaa
open Go.RowKit Go.Conc
set_option maxRecDepth 8000
set_option maxHeartbeats 1000000 in
/-- isRecord -/
theorem isRec_any (x : IT) (w : World) : Calls Try.prog 33 #[.agg #[.int .i64 x.mark, .string x.r.key, .int .i64 x.r.v.kind, .int .i64 x.r.v.int, .string x.r.v.text, .slice x.r.v.p x.r.v.n x.r.v.c, .slice x.r.p x.r.n x.r.c]] w fun e w' => e = .returned (.bool (x.mark == 0)) ∧ Below w.heap.size w w' := by
  go_enter Try.func33, Try.ntmps33
  go_wp2
  refine bodyPost_ret (v := .bool (x.mark == 0)) (by simp [results, Try.results33, go_sem]) rfl ⟨rfl, (Below.refl _ _).alloc (Nat.le_refl _) _⟩
section
variable {w : World} {Z : Nat → Prop} {b : Nat} {L : Ln}
theorem LnI.c0 (h : LnI w Z b L) : w.cell? ⟨b, 0, none⟩ = some (.int .i64 L.room) := by rw [h.box.cell]; rfl
theorem LnI.c1 (h : LnI w Z b L) : w.cell? ⟨b, 1, none⟩ = some (.int .i64 (nR L.q)) := by rw [h.box.cell]; rfl
theorem LnI.c2 (h : LnI w Z b L) : w.cell? ⟨b, 2, none⟩ = some L.nextV := by rw [h.box.cell]; rfl
theorem LnI.c3 (h : LnI w Z b L) : w.cell? ⟨b, 3, none⟩ = some (.chan (some L.ch)) := by rw [h.box.cell]; rfl
theorem LnI.inCh_len (h : LnI w Z b L) : L.inCh.length + (if L.next = none then 0 else 1) = L.q.length := by
  unfold Ln.inCh
  cases hn : L.next with
  | none => simp
  | some n =>
    obtain ⟨x, q', e, _⟩ := h.nxt n hn
    simp [e]
end
theorem eqlChan (w : World) (c : Option Nat) : (binOp .eql 71 (.chan c) (.chan none)).run Try.prog w = .ok (.bool c.isNone) w := by
  have h : ∀ d : Nat, (Op.equalIn (d + 1) 71 (.chan c) (.chan none)).run Try.prog w = .ok c.isNone w := fun d => by
    cases c <;> simp [Op.equalIn, run_underlying Try.underlying71]
  have h1 : (Op.equal 71 (.chan c) (.chan none)).run Try.prog w = .ok c.isNone w := h 9999
  simp only [binOp]
  simp [h1]
set_option maxHeartbeats 1000000 in
theorem shut_no (w : World) (Z : Nat → Prop) (b : Nat) (L : Ln) (hI : LnI w Z b L) : Calls Try.prog 38 #[.pointer (some ⟨b, 0, none⟩)] w fun e w' => e = .returned (.bool false) ∧ w' = w := by
  have c3 := hI.c3
  have bl := hI.b_lt
  have hq := fun w => eqlChan w (some L.ch)
  clear hI
  go_enter Try.func38, Try.ntmps38
  go_wp2
  refine bodyPost_ret (v := .bool false) (by simp [results, Try.results38, go_sem]) rfl ⟨rfl, rfl⟩
set_option maxHeartbeats 1000000 in
theorem count_any (w : World) (Z : Nat → Prop) (b : Nat) (L : Ln) (hI : LnI w Z b L) : Calls Try.prog 32 #[.pointer (some ⟨b, 0, none⟩)] w fun e w' => e = .returned (.int .i64 (L.q.length : Int)) ∧ w' = w := by
  have c2 := hI.c2
  have c3 := hI.c3
  have bl := hI.b_lt
  have hlen := hI.len
  have hil := hI.inCh_len
  obtain ⟨s, r, hc⟩ := hI.buf
  have hlc := run_len_chan (P := Try.prog) 71 3 Try.underlying71 hc
  simp only [List.size_toArray, List.length_map] at hlc
  cases hn : L.next with
  | none =>
    have c2' : w.cell? ⟨b, 2, none⟩ = some (.pointer none) := by rw [c2]; simp [Ln.nextV, hn]
    rw [if_pos hn, Nat.add_zero] at hil
    rw [hil] at hlc
    clear hI c2 hc hil hn
    go_enter Try.func32, Try.ntmps32
    go_wp2
    refine bodyPost_ret (v := .int .i64 (L.q.length : Int)) (by simp [results, Try.results32, go_sem]) rfl ⟨rfl, rfl⟩
  | some n =>
    have c2' : w.cell? ⟨b, 2, none⟩ = some (.pointer (some ⟨n, 0, none⟩)) := by rw [c2]; simp [Ln.nextV, hn]
    rw [if_neg (by rw [hn]; simp)] at hil
    have hil' := hid hil
    have hb : L.inCh.length ≤ 30000 := by omega
    clear hI c2 hc hil hn
    go_enter Try.func32, Try.ntmps32
    go_wp2
    have e : ((L.inCh.length : Nat) : Int) + 1 = (L.q.length : Int) := by have := hil'.out; omega
    refine bodyPost_ret (v := .int .i64 (L.q.length : Int)) (by simp [results, Try.results32, go_sem, e]) rfl ⟨rfl, rfl⟩
end Go.Proofs.Ytpldokahoamdpaa
