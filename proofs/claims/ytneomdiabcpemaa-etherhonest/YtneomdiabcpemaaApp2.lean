import Derived.Test.YtneomdiabcpemaaTree
import Derived.ArgAppend
import Derived.Deep.RegionLaw
namespace Go.Proofs.Ytneomdiabcpemaa
open Go.RowKit
set_option maxRecDepth 8000

/-- where what was appended to lies now: where it lay, or in new memory -/
def Near (w : World) (v v' : Value) : Prop := v'.ownBlock = v.ownBlock ∨ ∀ g, v'.ownBlock = some g → w.heap.size ≤ g
theorem ownsRow_mono {base base' : Nat} {e : TypeId} {size n : Nat} {w : World} {v : Value} {xs : List Value} (h : w.ownsRow base e size v n xs) (hb : base' ≤ base) : w.ownsRow base' e size v n xs := by
  refine ⟨h.1, ?_⟩
  obtain ⟨_, h1 | ⟨g, cap, cur, hv, hbg, r⟩⟩ := h
  · exact .inl h1
  · exact .inr ⟨g, cap, cur, hv, Nat.le_trans hb hbg, r⟩
theorem grownBy_any {w w' : World} (h : w.grownBy w' none) (row : Option Nat) : w.grownBy w' row := ⟨h.os, h.tape, h.output, h.size, fun k hk _ => h.block k hk (by simp)⟩
theorem ownsRow_keep {base : Nat} {e : TypeId} {size n : Nat} {w w' : World} {v : Value} {xs : List Value} (h : w.ownsRow base e size v n xs) (hb : ∀ g, v.ownBlock = some g → g < w.heap.size → w'.heap[g]? = w.heap[g]?) : w'.ownsRow base e size v n xs := by
  refine ⟨h.1, ?_⟩
  have hlt := h.lt
  obtain ⟨_, h1 | ⟨g, cap, cur, hv, hbg, hh, r⟩⟩ := h
  · exact .inl h1
  · exact .inr ⟨g, cap, cur, hv, hbg, (hb g (by rw [hv]; rfl) (hlt g (by rw [hv]; rfl)).2).trans hh, r⟩

/-- what is known of a row's type -/
structure Kind (t e : TypeId) (i : TypeInfo) (z : Value) (size bytes : Nat) : Prop where
  ht : Try.prog.underlying t = some (.slice e)
  hi : Try.prog.info? e = some i
  hz : i.zero = some z
  hsize : i.size = size
  hby : i.bytes = bytes
  hzs : z.cells.size = size
  hsz : 0 < size

theorem run_app (w : World) (ty t e : TypeId) (i : TypeInfo) (z : Value) (size bytes : Nat) (K : Kind t e i z size bytes) (base : Nat) (v : Value) (n : Nat) (xs : List Value) (hown : w.ownsRow base e size v n xs)
    (ad : Addr) (m c : Nat) (news : List Value) (hl : news.length = m * size) (hnews : ∀ j u, news[j]? = some u → w.cell? (ad.add j) = some u) (h1 : ∀ u ∈ news, u.oneCell' = true)
    (h63 : n + m ≤ 140737488355328) (hbytes : (n + m) * bytes ≤ 140737488355328) (hbase : base ≤ w.heap.size) :
    ∃ v' w', (Builtin.append_ #[t, t] ty #[v, .slice (some ad) m c]).run Try.prog w = .ok v' w' ∧ w'.ownsRow base e size v' (n + m) (xs ++ news) ∧ w.grownBy w' v.ownBlock ∧ Near w v v' := by
  obtain ⟨ht, hi, hz0, hz1, hz2, hzs, hsz⟩ := K
  obtain ⟨hxl, ⟨hv, h0⟩ | ⟨g, cap, cur, hv, hbg, hh, hnc, hcm, hcs, htake⟩⟩ := id hown
  · subst hv h0
    obtain rfl : xs = [] := List.eq_nil_of_length_eq_zero (by simpa using hxl)
    obtain ⟨v', w', hrun, r1, r2, _⟩ := run_append_own (P := Try.prog) w w.heap.size t ty e i z size bytes ht hi hz0 hz1 hz2 hzs hsz (.slice none 0 0) 0 [] (World.ownsRow_nil w _ e size) ad m c news hl hnews h1 (by unfold maxLen; omega) hbytes (Nat.le_refl _)
    exact ⟨v', w', hrun, ownsRow_mono r1 hbase, r2, .inr fun g hg => (r1.lt g hg).1⟩
  · subst hv
    by_cases hroom : n + m ≤ cap
    · obtain ⟨w', hrun, r1, r2⟩ := run_append_fits (P := Try.prog) w base t ty e i size ht hi hz1 g n cap xs hown ad m c news hl hnews h1 hroom
      exact ⟨_, w', hrun, r1, r2, .inl rfl⟩
    · obtain ⟨v', w', hrun, r1, r2⟩ := run_append_arg_grows (P := Try.prog) w t ty e i z size bytes ht hi hz0 hz1 hz2 hzs hsz ⟨g, 0, none⟩ n cap xs hxl (hown.cells rfl) ad m c news hl hnews (by omega) (by unfold maxLen; omega) hbytes
      exact ⟨v', w', hrun, ownsRow_mono r1 hbase, grownBy_any r2 _, .inr fun g hg => (r1.lt g hg).1⟩

theorem step_app {ops : Array Oper} {o : Oper} {a : Act} {w : World} {K : Act → World → Prop} {Q : Exit → Act → World → Prop} {E : Prop}
    (hgd : o.guard = none) (s x : Operand) (t e : TypeId) (i : TypeInfo) (z : Value) (size bytes : Nat) (Kd : Kind t e i z size bytes) (hop : o.op = Op.call { callee := Callee.builtin Builtin.append, args := #[s, x], argTypes := #[t, t] })
    (base : Nat) (v : Value) (n : Nat) (xs : List Value) (hs : a.eval s = v) (hown : w.ownsRow base e size v n xs)
    (ad : Addr) (m c : Nat) (news : List Value) (hx : a.eval x = .slice (some ad) m c) (hl : news.length = m * size) (hnews : ∀ j u, news[j]? = some u → w.cell? (ad.add j) = some u) (h1 : ∀ u ∈ news, u.oneCell' = true)
    (h63 : n + m ≤ 140737488355328) (hbytes : (n + m) * bytes ≤ 140737488355328) (hbase : base ≤ w.heap.size)
    (hK : ∀ v' w', w'.ownsRow base e size v' (n + m) (xs ++ news) → w.grownBy w' v.ownBlock → Near w v v' → K (a.put o.dst v') w') :
    if Region.wanted o (yielded ops a.tmps) = true then Oper.wp Try.prog o a w K Q else E := by
  have hw : Region.wanted o (yielded ops a.tmps) = true := by simp [Region.wanted, hgd]
  rw [if_pos hw]
  obtain ⟨v', w', hrun, r1, r2, r3⟩ := run_app w o.type t e i z size bytes Kd base v n xs hown ad m c news hl hnews h1 h63 hbytes hbase
  unfold Oper.wp
  simp [execOp, hop, resolve, invoke, builtin, hs, hx, hrun, Result.andThen]
  exact hK v' w' r1 r2 r3

theorem wpList_app {w : World} {ops : Array Oper} {rest : List Oper} {o : Oper} {a : Act} {Q : Exit → Act → World → Prop} (hgd : o.guard = none) (s x : Operand)
    (t e : TypeId) (i : TypeInfo) (z : Value) (size bytes : Nat) (Kd : Kind t e i z size bytes)
    (ho : o.op = .call { callee := .builtin .append, args := #[s, x], argTypes := #[t, t] })
    (base : Nat) (v : Value) (n : Nat) (xs : List Value) (hs : a.eval s = v) (hown : w.ownsRow base e size v n xs)
    (ad : Addr) (m c : Nat) (news : List Value) (hx : a.eval x = .slice (some ad) m c) (hl : news.length = m * size) (hnews : ∀ j u, news[j]? = some u → w.cell? (ad.add j) = some u) (h1 : ∀ u ∈ news, u.oneCell' = true)
    (h63 : n + m ≤ 140737488355328) (hbytes : (n + m) * bytes ≤ 140737488355328) (hbase : base ≤ w.heap.size)
    (h : ∀ v' w', w'.ownsRow base e size v' (n + m) (xs ++ news) → w.grownBy w' v.ownBlock → Near w v v' → wpList Try.prog ops Q rest (a.put o.dst v') w') :
    wpList Try.prog ops Q (o :: rest) a w := by
  refine wpList_plain hgd fun K hK => ?_
  obtain ⟨v', w', hrun, r1, r2, r3⟩ := run_app w o.type t e i z size bytes Kd base v n xs hown ad m c news hl hnews h1 h63 hbytes hbase
  unfold Oper.wp
  simp [execOp, ho, resolve, invoke, builtin, hs, hx, hrun, Result.andThen]
  exact hK _ _ (h v' w' r1 r2 r3)

theorem kindV : ∃ i, Kind 94 96 i (.agg #[.int .i64 0, .int .i64 0, .string ⟨#[]⟩, .slice none 0 0]) 4 56 := by
  obtain ⟨i0, hi, hz0, hz1, hz2⟩ := info_parts (show (Try.prog.info? 96).map (fun i => (i.zero, i.size, i.bytes)) = some (some (.agg #[.int .i64 0, .int .i64 0, .string ⟨#[]⟩, .slice none 0 0]), 4, 56) by kernel_rfl)
  exact ⟨i0, Try.underlying94, hi, hz0, hz1, hz2, rfl, by decide⟩
theorem oneCell_cells (t : VT) : ∀ u ∈ t.cells, u.oneCell' = true := by
  intro u hu
  simp only [VT.cells, List.mem_cons, List.not_mem_nil, or_false] at hu
  rcases hu with rfl | rfl | rfl | rfl <;> rfl

/-- values in a row of the call's own, and what they hold in other blocks -/
structure OwnV (base : Nat) (w : World) (v : Value) (n : Nat) (g : Nat → VT) : Prop where
  own : w.ownsRow base 96 4 v n ((List.range n).flatMap fun j => (g j).cells)
  each : ∀ j, j < n → VT.In w (fun b => base ≤ b ∧ v.ownBlock ≠ some b) (g j)
theorem OwnV.nil (base : Nat) (w : World) (g : Nat → VT) : OwnV base w (.slice none 0 0) 0 g := ⟨World.ownsRow_nil _ _ _ _, fun j h => absurd h (by omega)⟩
theorem OwnV.keep {base : Nat} {w w' : World} {v : Value} {n : Nat} {g : Nat → VT} (h : OwnV base w v n g) (hs : w.heap.size ≤ w'.heap.size) (hb : ∀ k, base ≤ k → k < w.heap.size → w'.heap[k]? = w.heap[k]?) : OwnV base w' v n g :=
  ⟨ownsRow_keep h.own (fun k hk hl => hb k (h.own.lt k hk).1 hl), fun j hj => (h.each j hj).kept hs (fun b hS hl => hb b hS.1 hl)⟩
theorem OwnV.below {base : Nat} {w w' : World} {v : Value} {n : Nat} {g : Nat → VT} (h : OwnV base w v n g) (hb : Below w.heap.size w w') : OwnV base w' v n g := h.keep hb.size fun k _ hl => hb.block k hl
/-- one more: laid by an append -/
theorem OwnV.push {base : Nat} {w w' : World} {v v' : Value} {n : Nat} {g : Nat → VT} {u : VT} (h : OwnV base w v n g) (hu : VT.In w (fun b => base ≤ b ∧ v.ownBlock ≠ some b) u)
    (hown : w'.ownsRow base 96 4 v' (n + 1) (((List.range n).flatMap fun j => (g j).cells) ++ u.cells)) (hg : w.grownBy w' v.ownBlock) (hn : Near w v v') :
    OwnV base w' v' (n + 1) (fun j => if j < n then g j else u) := by
  have key : ∀ x, VT.In w (fun b => base ≤ b ∧ v.ownBlock ≠ some b) x → VT.In w' (fun b => base ≤ b ∧ v'.ownBlock ≠ some b) x := by
    intro x hx
    have h1 : VT.In w (fun b => base ≤ b ∧ v.ownBlock ≠ some b ∧ v'.ownBlock ≠ some b) x := by
      refine hx.mono fun b hb hl => ⟨hb.1, hb.2, fun e => ?_⟩
      rcases hn with h1 | h1
      · exact hb.2 (h1 ▸ e)
      · have := h1 b e; omega
    have h2 := h1.kept hg.size (fun b hb hl => hg.block b hl (fun e => hb.2.1 e.symm))
    exact h2.mono fun b hb _ => ⟨hb.1, hb.2.2⟩
  refine ⟨?_, fun j hj => ?_⟩
  · have e : ((List.range (n + 1)).flatMap fun j => (if j < n then g j else u).cells) = ((List.range n).flatMap fun j => (g j).cells) ++ u.cells := by
      rw [List.range_succ, List.flatMap_append]
      congr 1
      · rw [List.flatMap_def, List.flatMap_def]
        congr 1
        apply List.map_congr_left
        intro j hj
        rw [if_pos (List.mem_range.1 hj)]
      · simp
    rw [e]
    exact hown
  · by_cases hjn : j < n
    · rw [if_pos hjn]; exact key _ (h.each j hjn)
    · rw [if_neg hjn]; exact key _ hu
/-- the row read as a list -/
theorem flat_get (g : Nat → VT) : ∀ (n j r : Nat), j < n → r < 4 → ((List.range n).flatMap fun j => (g j).cells)[j * 4 + r]? = (g j).cells[r]? := by
  intro n
  induction n with
  | zero => intro j r h; omega
  | succ n ih =>
    intro j r hj hr
    have hl : ∀ m, ((List.range m).flatMap fun j => (g j).cells).length = m * 4 := by
      intro m
      induction m with
      | zero => rfl
      | succ m ih => rw [List.range_succ, List.flatMap_append, List.length_append, ih]; simp [VT.cells]; omega
    rw [List.range_succ, List.flatMap_append]
    by_cases h : j < n
    · rw [List.getElem?_append_left (by rw [hl]; omega)]
      exact ih j r h hr
    · obtain rfl : j = n := by omega
      rw [List.getElem?_append_right (by rw [hl]; omega), hl]
      simp only [List.flatMap_cons, List.flatMap_nil, List.append_nil]
      congr 1
      omega
theorem OwnV.at_ {base : Nat} {w : World} {v : Value} {n : Nat} {g : Nat → VT} (h : OwnV base w v n g) {b c : Nat} (hv : v = .slice (some ⟨b, 0, none⟩) n c) {j : Nat} (hj : j < n) : VT.At w b (0 + j * 4) (g j) := by
  have hc := h.own.cells (g := b) (by rw [hv]; rfl)
  have k : ∀ r u, r < 4 → (g j).cells[r]? = some u → w.cell? ⟨b, 0 + j * 4 + r, none⟩ = some u := by
    intro r u hr hu
    have := hc (j * 4 + r) u (by rw [flat_get g n j r hj hr]; exact hu)
    rw [Go.WideShapes.add_plain] at this
    rw [show 0 + j * 4 + r = 0 + (j * 4 + r) by omega]
    exact this
  exact ⟨k 0 _ (by omega) rfl, k 1 _ (by omega) rfl, k 2 _ (by omega) rfl, k 3 _ (by omega) rfl⟩
/-- the row as a value's items -/
theorem OwnV.in_ {base : Nat} {w : World} {v : Value} {n : Nat} {g : Nat → VT} (h : OwnV base w v n g) :
    ∃ p c, v = .slice p n c ∧ n ≤ c ∧ c ≤ maxLen ∧ (p = none → n = 0 ∧ c = 0) ∧ (0 < n → ∃ b o, p = some ⟨b, o, none⟩ ∧ base ≤ b ∧ b < w.heap.size ∧ ∀ j, j < n → VT.At w b (o + j * 4) (g j)) ∧ ∀ j, j < n → VT.In w (fun b => base ≤ b) (g j) := by
  have hlt := h.own.lt
  obtain ⟨_, ⟨hv, h0⟩ | ⟨gb, cap, cur, hv, hbg, hh, hnc, hcm, hcs, htake⟩⟩ := id h.own
  · subst h0
    exact ⟨none, 0, hv, Nat.le_refl _, Nat.zero_le _, fun _ => ⟨rfl, rfl⟩, fun hn => absurd hn (by omega), fun j hj => absurd hj (by omega)⟩
  · refine ⟨_, cap, hv, hnc, hcm, fun h => (by cases h), fun hn => ⟨gb, 0, rfl, hbg, (hlt gb (by rw [hv]; rfl)).2, fun j hj => h.at_ hv hj⟩, fun j hj => (h.each j hj).mono fun b hb _ => hb.1⟩
theorem cell_new (w : World) (cs : Array Value) (e : TypeId) (j : Nat) : (w.alloc (.cells cs e)).cell? ((⟨w.heap.size, 0, none⟩ : Addr).add j) = cs[j]? := by
  rw [Go.WideShapes.add_plain]
  have := (Box.new w cs e).cell (0 + j)
  rw [Nat.zero_add] at this ⊢
  exact this
theorem news4 (w : World) (a b c d : Value) (e : TypeId) : ∀ j u, [a, b, c, d][j]? = some u → (w.alloc (.cells #[a, b, c, d] e)).cell? ((⟨w.heap.size, 0, none⟩ : Addr).add j) = some u := by
  intro j u h
  rw [cell_new, ← h]
  simp

theorem ownsRow_slice {w : World} {base n : Nat} {e : TypeId} {size : Nat} {v : Value} {xs : List Value} (h : w.ownsRow base e size v n xs) : ∃ p c, v = .slice p n c := by
  obtain ⟨_, ⟨hv, h0⟩ | ⟨g, cap, cur, hv, _⟩⟩ := h
  · exact ⟨none, 0, by rw [hv, h0]⟩
  · exact ⟨_, cap, hv⟩
end Go.Proofs.Ytneomdiabcpemaa
