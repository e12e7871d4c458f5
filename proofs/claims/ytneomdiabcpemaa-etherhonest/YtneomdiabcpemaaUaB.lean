import Derived.Test.YtneomdiabcpemaaUaA
namespace Go.Proofs.Ytneomdiabcpemaa
open Go.RowKit
set_option maxRecDepth 8000

/-- a row of flights, whatever room stands behind it -/
structure RowX (w : World) (v : Value) (n : Nat) (xs : List Value) : Prop where
  len : xs.length = n * 3
  at_ : (v = .slice none 0 0 ∧ n = 0) ∨ ∃ g cap cur, v = .slice (some ⟨g, 0, none⟩) n cap ∧ w.heap[g]? = some (.cells cur 32 (0, 0)) ∧ n ≤ cap ∧ cap ≤ maxLen ∧ cap * 3 ≤ cur.size ∧ cur.toList.take (n * 3) = xs
theorem RowX.slice {w : World} {v : Value} {n : Nat} {xs : List Value} (h : RowX w v n xs) : ∃ p c, v = .slice p n c := by
  rcases h.at_ with ⟨hv, h0⟩ | ⟨g, cap, cur, hv, _⟩
  · exact ⟨none, 0, by rw [hv, h0]⟩
  · exact ⟨_, cap, hv⟩
theorem RowX.nil (w : World) : RowX w (.slice none 0 0) 0 [] := ⟨rfl, .inl ⟨rfl, rfl⟩⟩
theorem RowX.own {w : World} {base n : Nat} {v : Value} {xs : List Value} (h : w.ownsRow base 32 3 v n xs) : RowX w v n xs := by
  refine ⟨h.1, ?_⟩
  rcases h.2 with h1 | ⟨g, cap, cur, hv, _, hh, hn, hm, hc, ht⟩
  · exact .inl h1
  · exact .inr ⟨g, cap, cur, hv, hh, hn, hm, Nat.le_of_eq hc.symm, ht⟩
theorem RowX.kept {w w' : World} {v : Value} {n : Nat} {xs : List Value} (h : RowX w v n xs) (hb : ∀ g, v.ownBlock = some g → g < w.heap.size → w'.heap[g]? = w.heap[g]?) : RowX w' v n xs := by
  refine ⟨h.len, ?_⟩
  rcases h.at_ with h1 | ⟨g, cap, cur, hv, hh, r⟩
  · exact .inl h1
  · exact .inr ⟨g, cap, cur, hv, (hb g (by rw [hv]; rfl) (show Box w g cur 32 from hh).lt).trans hh, r⟩
theorem RowX.lt {w : World} {v : Value} {n : Nat} {xs : List Value} (h : RowX w v n xs) {g : Nat} (hg : v.ownBlock = some g) : g < w.heap.size ∧ ∃ cur, Box w g cur 32 := by
  rcases h.at_ with ⟨hv, _⟩ | ⟨g', cap, cur, hv, hh, _⟩
  · rw [hv] at hg; cases hg
  · rw [hv] at hg
    obtain rfl : g' = g := by simpa [Value.ownBlock] using hg
    exact ⟨(show Box w g' cur 32 from hh).lt, cur, hh⟩
theorem RowX.cells {w : World} {v : Value} {n : Nat} {xs : List Value} (h : RowX w v n xs) (hn : 0 < n) : ∃ g cap, v = .slice (some ⟨g, 0, none⟩) n cap ∧ n ≤ cap ∧ g < w.heap.size ∧ (∀ j u, xs[j]? = some u → w.cell? ⟨g, j, none⟩ = some u) ∧ ∀ j, w.frozen? ⟨g, j, none⟩ = false := by
  rcases h.at_ with ⟨_, h0⟩ | ⟨g, cap, cur, hv, hh, hnc, hcm, hcs, ht⟩
  · omega
  · have hb : Box w g cur 32 := hh
    refine ⟨g, cap, hv, hnc, hb.lt, fun j u hu => ?_, fun j => hb.frozen j⟩
    rw [hb.cell, ← hu, ← ht]
    have hj : j < n * 3 := by
      rw [← h.len]
      rcases Nat.lt_or_ge j xs.length with h1 | h1
      · exact h1
      · rw [List.getElem?_eq_none h1] at hu; cases hu
    rw [List.getElem?_take, if_pos hj]
    simp
/-- some flights laid behind them -/
theorem run_appX (w : World) (ty : TypeId) {v : Value} {n : Nat} {xs : List Value} (h : RowX w v n xs) (ad : Addr) (m c : Nat) (news : List Value) (hl : news.length = m * 3) (hnews : ∀ j u, news[j]? = some u → w.cell? (ad.add j) = some u) (h1 : ∀ u ∈ news, u.oneCell' = true)
    (h63 : (n + m) * 40 ≤ 140737488355328) :
    ∃ v' w', (Builtin.append_ #[36, 36] ty #[v, .slice (some ad) m c]).run Try.prog w = .ok v' w' ∧ RowX w' v' (n + m) (xs ++ news) ∧ w.grownBy w' v.ownBlock ∧ Near w v v' := by
  obtain ⟨i, Kd⟩ := kindFl
  obtain ⟨ht, hi, hz0, hz1, hz2, hzs, hsz⟩ := Kd
  have hm63 : n + m ≤ maxLen := by unfold maxLen; omega
  have hlen : (xs ++ news).length = (n + m) * 3 := by rw [List.length_append, h.len, hl, Nat.add_mul]
  obtain ⟨hv, h0⟩ | ⟨g, cap, cur, hv, hh, hnc, hcm, hcs, htake⟩ := h.at_
  · subst hv h0
    obtain rfl : xs = [] := List.eq_nil_of_length_eq_zero (by simpa using h.len)
    obtain ⟨v', w', hrun, r1, r2, _⟩ := run_append_own (P := Try.prog) w w.heap.size 36 ty 32 i _ 3 40 ht hi hz0 hz1 hz2 hzs hsz (.slice none 0 0) 0 [] (World.ownsRow_nil w _ 32 3) ad m c news hl hnews h1 (by unfold maxLen; omega) h63 (Nat.le_refl _)
    exact ⟨v', w', hrun, RowX.own r1, r2, .inr fun g hg => (r1.lt g hg).1⟩
  · subst hv
    have hbx : Box w g cur 32 := hh
    by_cases hroom : n + m ≤ cap
    · have hr := run_append_room (P := Try.prog) w 36 ty 32 i ht hi g n cap cur hh ad m c news (by rw [hz1]; exact hl) hnews h1 hroom (by rw [hz1]; omega)
      refine ⟨_, _, hr, ⟨hlen, .inr ⟨g, cap, _, rfl, setRow_heap w g cur _ 32 _ hh, hroom, hcm, ?_, ?_⟩⟩, ⟨rfl, rfl, rfl, by simp, fun k _ hk => setRow_other w g k _ (fun e => hk (by simp [e, Value.ownBlock]))⟩, .inl rfl⟩
      · simp only [List.size_toArray, List.length_append, List.length_take, List.length_drop, Array.length_toList]
        rw [hz1]
        omega
      · rw [hz1, htake, ← hlen]
        exact List.take_left
    · have holds : ∀ j u, xs[j]? = some u → w.cell? ((⟨g, 0, none⟩ : Addr).add j) = some u := by
        intro j u hu
        rw [Go.WideShapes.add_plain, hbx.cell, ← hu, ← htake]
        have hj : j < n * 3 := by
          rw [← h.len]
          rcases Nat.lt_or_ge j xs.length with h1 | h1
          · exact h1
          · rw [List.getElem?_eq_none h1] at hu; cases hu
        rw [List.getElem?_take, if_pos hj]
        simp
      obtain ⟨v', w', hrun, r1, r2⟩ := run_append_arg_grows (P := Try.prog) w 36 ty 32 i _ 3 40 ht hi hz0 hz1 hz2 hzs hsz ⟨g, 0, none⟩ n cap xs h.len holds ad m c news hl hnews (by omega) hm63 (by omega)
      exact ⟨v', w', hrun, RowX.own r1, grownBy_any r2 _, .inr fun g hg => (r1.lt g hg).1⟩
theorem step_appX {ops : Array Oper} {o : Oper} {a : Act} {w : World} {K : Act → World → Prop} {Q : Exit → Act → World → Prop} {E : Prop}
    (hgd : o.guard = none) (s x : Operand) (hop : o.op = Op.call { callee := Callee.builtin Builtin.append, args := #[s, x], argTypes := #[36, 36] })
    (v : Value) (n : Nat) (xs : List Value) (hs : a.eval s = v) (hown : RowX w v n xs)
    (ad : Addr) (m c : Nat) (news : List Value) (hx : a.eval x = .slice (some ad) m c) (hl : news.length = m * 3) (hnews : ∀ j u, news[j]? = some u → w.cell? (ad.add j) = some u) (h1 : ∀ u ∈ news, u.oneCell' = true)
    (h63 : (n + m) * 40 ≤ 140737488355328)
    (hK : ∀ v' w', RowX w' v' (n + m) (xs ++ news) → w.grownBy w' v.ownBlock → Near w v v' → K (a.put o.dst v') w') :
    if Region.wanted o (yielded ops a.tmps) = true then Oper.wp Try.prog o a w K Q else E := by
  have hw : Region.wanted o (yielded ops a.tmps) = true := by simp [Region.wanted, hgd]
  rw [if_pos hw]
  obtain ⟨v', w', hrun, r1, r2, r3⟩ := run_appX w o.type hown ad m c news hl hnews h1 h63
  unfold Oper.wp
  simp [execOp, hop, resolve, invoke, builtin, hs, hx, hrun, Result.andThen]
  exact hK v' w' r1 r2 r3

theorem flat3_len (L : List FL) : (L.flatMap FL.cells).length = L.length * 3 := by
  induction L with
  | nil => rfl
  | cons x L ih => simp [FL.cells] at ih ⊢; omega
theorem flat3 : ∀ (L : List FL) (j r : Nat) (x : FL), L[j]? = some x → r < 3 → (L.flatMap FL.cells)[j * 3 + r]? = x.cells[r]?
  | [], j, r, x, h, _ => by simp at h
  | y :: L, 0, r, x, h, hr => by
    simp at h
    subst h
    rw [List.flatMap_cons, List.getElem?_append_left (by simp [FL.cells]; omega)]
    simp
  | y :: L, j + 1, r, x, h, hr => by
    rw [List.flatMap_cons, List.getElem?_append_right (by simp [FL.cells]; omega)]
    have := flat3 L j r x (by simpa using h) hr
    rw [← this]
    congr 1
    simp [FL.cells]
    omega
/-- a network's blocks -/
def EtC (b : Nat) (v : Value) (L : List FL) (k : Nat) : Prop := k = b ∨ v.ownBlock = some k ∨ ∃ x ∈ L, x.d = k
/-- a network in memory, apart from the blocks of Z -/
structure EtI (w : World) (Z : Nat → Prop) (b : Nat) (m : Int) (v : Value) (L : List FL) : Prop where
  bx : Box w b #[.int .i64 m, v] 63
  row : RowX w v L.length (L.flatMap FL.cells)
  dat : ∀ x ∈ L, Box w x.d (bys x.zs) 5
  pw : L.Pairwise (fun x y => x.d ≠ y.d)
  z : ∀ k, EtC b v L k → ¬ Z k
  len : L.length ≤ 256
  sz : ∀ x ∈ L, x.zs.length ≤ 32776
  by_ : ∀ x ∈ L, ∀ z ∈ x.zs, 0 ≤ z ∧ z < 256
/-- all that is of Z stays -/
def Fr (Z : Nat → Prop) (w w' : World) : Prop := But (fun k => ¬ Z k) w w'
/-- a network that says A -/
def EtA (w : World) (Z : Nat → Prop) (b : Nat) (m : Int) (A : List FA) : Prop := ∃ v L, EtI w Z b m v L ∧ L.map FL.a = A
theorem box_ty {w : World} {b : Nat} {cs cs' : Array Value} {e e' : TypeId} (h : Box w b cs e) (h' : Box w b cs' e') : e = e' := by
  unfold Box at h h'
  rw [h] at h'
  cases h'
  rfl
theorem EtI.lt {w : World} {Z : Nat → Prop} {b : Nat} {m : Int} {v : Value} {L : List FL} (h : EtI w Z b m v L) {k : Nat} (hk : EtC b v L k) : k < w.heap.size := by
  rcases hk with rfl | hk | ⟨x, hx, rfl⟩
  · exact h.bx.lt
  · exact (h.row.lt hk).1
  · exact (h.dat x hx).lt
theorem EtI.ne_row {w : World} {Z : Nat → Prop} {b : Nat} {m : Int} {v : Value} {L : List FL} (h : EtI w Z b m v L) : v.ownBlock ≠ some b := fun e => by
  obtain ⟨_, cur, hc⟩ := h.row.lt e
  have := box_ty h.bx hc
  cases this
theorem EtI.ne_dat {w : World} {Z : Nat → Prop} {b : Nat} {m : Int} {v : Value} {L : List FL} (h : EtI w Z b m v L) {x : FL} (hx : x ∈ L) : x.d ≠ b ∧ v.ownBlock ≠ some x.d := by
  refine ⟨fun e => ?_, fun e => ?_⟩
  · have h1 := h.dat x hx
    rw [e] at h1
    have := box_ty h.bx h1
    cases this
  · obtain ⟨_, cur, hc⟩ := h.row.lt e
    have := box_ty (h.dat x hx) hc
    cases this
/-- nothing of its own has changed -/
theorem EtI.kept {w w' : World} {Z Z' : Nat → Prop} {b : Nat} {m : Int} {v : Value} {L : List FL} (h : EtI w Z b m v L) (hb : ∀ k, EtC b v L k → w'.heap[k]? = w.heap[k]?) (hz : ∀ k, EtC b v L k → ¬ Z' k) : EtI w' Z' b m v L :=
  ⟨h.bx.kept (hb b (.inl rfl)), h.row.kept (fun g hg _ => hb g (.inr (.inl hg))), fun x hx => (h.dat x hx).kept (hb _ (.inr (.inr ⟨x, hx, rfl⟩))), h.pw, hz, h.len, h.sz, h.by_⟩
theorem EtI.below {w w' : World} {Z : Nat → Prop} {b : Nat} {m : Int} {v : Value} {L : List FL} (h : EtI w Z b m v L) (hb : Below w.heap.size w w') : EtI w' Z b m v L :=
  h.kept (fun _ hk => hb.block _ (h.lt hk)) h.z
theorem Fr.refl (Z : Nat → Prop) (w : World) : Fr Z w w := But.refl _ _
theorem Fr.trans {Z : Nat → Prop} {a b c : World} (h : Fr Z a b) (k : Fr Z b c) : Fr Z a c := But.trans h k
theorem Fr.below {Z : Nat → Prop} {w w' : World} (h : Below w.heap.size w w') : Fr Z w w' := But.ofBelow h
/-- blocks that are others' now -/
theorem EtA.z {w : World} {Z Z' : Nat → Prop} {b : Nat} {m : Int} {A : List FA} (h : EtA w Z b m A) (hz : ∀ k, k < w.heap.size → Z' k → Z k) : EtA w Z' b m A := by
  obtain ⟨v, L, hI, hA⟩ := h
  exact ⟨v, L, hI.kept (fun _ _ => rfl) (fun k hk hz' => hI.z k hk (hz k (hI.lt hk) hz')), hA⟩
/-- what others did, in blocks of theirs and in new ones -/
theorem EtA.but {w w' : World} {Z Z' : Nat → Prop} {b : Nat} {m : Int} {A : List FA} (h : EtA w Z b m A) (hb : But Z w w') (hz : ∀ k, k < w.heap.size → Z' k → Z k) : EtA w' Z' b m A := by
  obtain ⟨v, L, hI, hA⟩ := h
  exact ⟨v, L, hI.kept (fun k hk => hb.block k (hI.lt hk) (hI.z k hk)) (fun k hk hz' => hI.z k hk (hz k (hI.lt hk) hz')), hA⟩
theorem EtA.below {w w' : World} {Z Z' : Nat → Prop} {b : Nat} {m : Int} {A : List FA} (h : EtA w Z b m A) (hb : Below w.heap.size w w') (hz : ∀ k, k < w.heap.size → Z' k → Z k) : EtA w' Z' b m A :=
  h.but (But.ofBelow hb) hz
end Go.Proofs.Ytneomdiabcpemaa
