import Derived.Test.YtehpdhhlggegdaaPack9
import Derived.Test.YtehpdhhlggegdaaPack1
import Derived.Test.YtehpdhhlggegdaaPack23
import Derived.Laws.OwnMore
import Derived.Test.YtehpdhhlggegdaaDecP
namespace Go.Proofs.Ytehpdhhlggegdaa
open Go.RowKit
set_option maxRecDepth 8000

theorem kindI : ∃ i, Kind 45 3 i (.int .i64 0) 1 8 := by
  obtain ⟨i0, hi, hz0, hz1, hz2⟩ := info_parts (show (Try.prog.info? 3).map (fun i => (i.zero, i.size, i.bytes)) = some (some (.int .i64 0), 1, 8) by kernel_rfl)
  exact ⟨i0, Try.underlying45, hi, hz0, hz1, hz2, rfl, by decide⟩

set_option maxHeartbeats 1000000 in
theorem copyRecord_any (r : RT) (w : World) (S : Nat → Prop) (hin : RT.In w S r) (hn1 : r.n + r.v.total ≤ 10000) :
    Calls Try.prog 18 #[r.val] w fun e w' => ∃ u : RT, e = .returned u.val ∧ RT.Alike r u ∧ RT.In w' (fun b => w.heap.size ≤ b) u ∧ Below w.heap.size w w' := by
  have HI : Hid (RT.In w S r) := hin
  unfold RT.val
  clear hin
  go_enter Try.func18, Try.ntmps18
  obtain ⟨i0, Kd⟩ := kindI
  go_wp2_with (at_builtin; refine wpList_appS rfl (.tmp 4) (.tmp 6) 45 3 i0 _ 1 8 Kd rfl (w.heap.size + 2) (.slice none 0 0) 0 [] rfl (World.ownsRow_nil _ _ _ _) r.p r.n r.c ((List.range r.n).map fun j => .int .i64 (r.loop j)) rfl ?_ (oneCell_ints _ _) ?_ ?_ ?_ ?_)
  · exact (HI.out.l.kept (by simp; omega) fun b _ hb => ((Below.heap_alloc _ _ _ (by simp; omega)).trans (Below.heap_alloc _ _ _ hb))).src
  · omega
  · omega
  · simp
  intro v1 w1 ho1 hg1 _
  have ho1 : w1.ownsRow (w.heap.size + 2) 3 1 v1 r.n ((List.range r.n).map fun j => .int .i64 (r.loop j)) := by simpa using ho1
  obtain ⟨p1, c1, rfl, hI1⟩ := Ints.own ho1 (by omega) HI.out.l.fit
  have hz : ((w.alloc (.cells #[.string r.key, .int .i64 r.v.kind, .int .i64 r.v.int, .string r.v.text, .slice r.v.p r.v.n r.v.c, .slice r.p r.n r.c] 47)).alloc (.cells #[.string ⟨#[]⟩, .int .i64 0, .int .i64 0, .string ⟨#[]⟩, .slice none 0 0, .slice none 0 0] 47)).heap.size = w.heap.size + 2 := by simp
  have hgb : Below (w.heap.size + 2) _ w1 := ⟨hg1.os, hg1.tape, hg1.output, hg1.size, fun k hk => hg1.block k (by rw [hz]; exact hk) (by simp [Value.ownBlock])⟩
  have hB0 := ((Box.new w #[.string r.key, .int .i64 r.v.kind, .int .i64 r.v.int, .string r.v.text, .slice r.v.p r.v.n r.v.c, .slice r.p r.n r.c] 47).below ((Below.refl _ _).alloc (Nat.le_refl _) (.cells #[.string ⟨#[]⟩, .int .i64 0, .int .i64 0, .string ⟨#[]⟩, .slice none 0 0, .slice none 0 0] 47))).kept (hgb.block _ (by omega))
  have hB1 := (Box.new (w.alloc (.cells #[.string r.key, .int .i64 r.v.kind, .int .i64 r.v.int, .string r.v.text, .slice r.v.p r.v.n r.v.c, .slice r.p r.n r.c] 47)) #[.string ⟨#[]⟩, .int .i64 0, .int .i64 0, .string ⟨#[]⟩, .slice none 0 0, .slice none 0 0] 47).kept (hgb.block _ (by simp))
  rw [show (w.alloc (.cells #[.string r.key, .int .i64 r.v.kind, .int .i64 r.v.int, .string r.v.text, .slice r.v.p r.v.n r.v.c, .slice r.p r.n r.c] 47)).heap.size = w.heap.size + 1 by simp] at hB1
  have hbel : Below w.heap.size w w1 := (((Below.refl _ _).alloc (Nat.le_refl _) _).alloc (by simp) _).trans (hgb.mono (by omega))
  have hsz1 : w.heap.size + 2 ≤ w1.heap.size := by rw [← hz]; exact hg1.size
  have HX : Hid (Box w1 w.heap.size #[.string r.key, .int .i64 r.v.kind, .int .i64 r.v.int, .string r.v.text, .slice r.v.p r.v.n r.v.c, .slice r.p r.n r.c] 47 ∧ Box w1 (w.heap.size + 1) #[.string ⟨#[]⟩, .int .i64 0, .int .i64 0, .string ⟨#[]⟩, .slice none 0 0, .slice none 0 0] 47 ∧ Below w.heap.size w w1 ∧ Ints w1 (fun b => w.heap.size + 2 ≤ b) p1 r.n c1 r.loop) := ⟨hB0, hB1, hbel, hI1⟩
  have HC : Hid (∀ W, Below w1.heap.size w1 W → Calls Try.prog 8 #[r.v.val] W fun e w' => ∃ u, e = .returned u.val ∧ VT.Alike r.v u ∧ VT.In w' (fun b => W.heap.size ≤ b) u ∧ Below W.heap.size W w') :=
    fun W hW => deep_any r.v W (fun b => S b ∧ b < w.heap.size) (((HI.out.v.mono fun b hb hl => ⟨hb, hl⟩).kept hbel.size (fun b hb _ => hbel.block b hb.2)).below hW) (by omega)
  unfold VT.val at HC
  have x0 := hB0.cell 0
  have x1 := hB0.cell 1
  have x2 := hB0.cell 2
  have x3 := hB0.cell 3
  have x4 := hB0.cell 4
  have x5 := hB0.cell 5
  simp at x0 x1 x2 x3 x4 x5
  have hl0 := hB0.lt
  have hl1 := hB1.lt
  clear hB0 hB1 hbel hI1 hgb hg1 ho1 hz
  go_wp2_with fail
  go_region_with (go_at_call 8; (refine (HC.out _ ?_).mono ?_; exact (Below.refl _ _).drew; rintro e w4 ⟨u, rfl, hal4, hin4, hb4⟩; have hk4 : Below w1.heap.size w1 w4 := (Below.refl w1.heap.size w1).drew.trans hb4; have y0 := (HX.out.1.below hk4).cell 0; have g0 := (HX.out.2.1.below hk4).frozen 0; have g1 := (HX.out.2.1.below hk4).frozen 1; have g2 := (HX.out.2.1.below hk4).frozen 2; have g3 := (HX.out.2.1.below hk4).frozen 3; have g4 := (HX.out.2.1.below hk4).frozen 4; have g5 := (HX.out.2.1.below hk4).frozen 5; have z0 := (HX.out.2.1.below hk4).cell 0; have z1 := (HX.out.2.1.below hk4).cell 1; have z2 := (HX.out.2.1.below hk4).cell 2; have z3 := (HX.out.2.1.below hk4).cell 3; have z4 := (HX.out.2.1.below hk4).cell 4; have z5 := (HX.out.2.1.below hk4).cell 5; have hs4 := hk4.size; have l0 : w.heap.size < w4.heap.size := (by omega); have l1 : w.heap.size + 1 < w4.heap.size := (by omega); simp at y0 z0 z1 z2 z3 z4 z5))
  all_goals
    have hin5 : VT.In w4 (fun b => w1.heap.size ≤ b) u := hin4
    go_wp2
    have hk : But (fun x => x = w.heap.size + 1) w4 ((((((w4.setCell ⟨w.heap.size + 1, 0, none⟩ (.string r.key)).setCell ⟨w.heap.size + 1, 1, none⟩ (.int .i64 u.kind)).setCell ⟨w.heap.size + 1, 2, none⟩ (.int .i64 u.int)).setCell ⟨w.heap.size + 1, 3, none⟩ (.string u.text)).setCell ⟨w.heap.size + 1, 4, none⟩ (.slice u.p u.n u.c)).setCell ⟨w.heap.size + 1, 5, none⟩ (.slice p1 r.n c1)) :=
      ((((((But.one w4 (w.heap.size + 1)).setAt 0 _).setAt 1 _).setAt 2 _).setAt 3 _).setAt 4 _).setAt 5 _
    refine bodyPost_ret (v := .agg #[.string r.key, .int .i64 u.kind, .int .i64 u.int, .string u.text, .slice u.p u.n u.c, .slice p1 r.n c1]) (by simp [results, Try.results18, go_sem, z0, z1, z2, z3, z4, z5]) rfl ⟨⟨r.key, u, p1, r.n, c1, r.loop⟩, rfl, ⟨rfl, hal4, rfl, fun _ _ => rfl⟩, ⟨?_, ?_, HI.out.k⟩, ?_⟩
    · exact (hin5.but hk (fun b hb _ => by omega)).mono fun b hb _ => by omega
    · exact ((HX.out.2.2.2.kept hk4.size (fun b _ hl => hk4.block b hl)).kept hk.size (fun b hb hl => hk.block b hl (by omega))).mono fun b hb _ => by omega
    · exact (HX.out.2.2.1.trans (hk4.mono (by omega))).trans (hk.below (by omega) (fun x hx => by omega))
end Go.Proofs.Ytehpdhhlggegdaa

namespace Go.Proofs.Ytehpdhhlggegdaa
open Go.RowKit
set_option maxRecDepth 8000

/-- nothing is missing in what is read -/
theorem whole_mkL {l : List VT} (h : ∀ v ∈ l, Whole v) : Whole (mkL l) := by
  intro j hj
  have : l.getD j .nil = l[j] := by simp [List.getD_eq_getElem?_getD, hj]
  show Whole (l.getD j .nil)
  rw [this]
  exact h _ (List.getElem_mem hj)
theorem itemsS_whole {g : Nat → Nat → DR} (hg : ∀ a q v a' q', g a q = .ok (v, a', q') → Whole v) : ∀ m a q l a' q', itemsS g m a q = .ok (l, a', q') → ∀ v ∈ l, Whole v := by
  intro m
  induction m with
  | zero => intro a q l a' q' h v hv; simp only [itemsS, Except.ok.injEq, Prod.mk.injEq] at h; obtain ⟨rfl, _⟩ := h; cases hv
  | succ m ih =>
    intro a q l a' q' h
    rw [itemsS] at h
    split at h
    · cases h
    · rename_i l1 a1 q1 h1
      split at h
      · cases h
      · rename_i v a2 q2 h2
        simp only [Except.ok.injEq, Prod.mk.injEq] at h
        obtain ⟨rfl, rfl, rfl⟩ := h
        intro x hx
        rcases List.mem_append.1 hx with hx | hx
        · exact ih _ _ _ _ _ h1 x hx
        · rw [List.mem_singleton.1 hx]; exact hg _ _ _ _ _ h2
theorem leaf_whole (k i : Int) (s : ByteArray) : Whole (.mk k i s 0 none 0 (fun _ => .nil)) := fun j hj => absurd hj (by omega)
theorem partS_whole {f : Nat → Int} {n : Nat} {g : Nat → Nat → DR} (hg : ∀ a q v a' q', g a q = .ok (v, a', q') → Whole v) {d a q a' q' : Nat} {v : VT} (h : partS f n g d a q = .ok (v, a', q')) : Whole v := by
  unfold partS at h
  split at h
  · cases h
  split at h
  · cases h
  split at h
  · cases h
  split at h
  · cases h
  split at h
  · simp only [Except.ok.injEq, Prod.mk.injEq] at h; rw [← h.1]; exact leaf_whole _ _ _
  split at h
  · split at h
    · cases h
    · simp only [Except.ok.injEq, Prod.mk.injEq] at h; rw [← h.1]; exact leaf_whole _ _ _
  split at h
  · cases h
  split at h
  · split at h
    · cases h
    split at h
    · cases h
    · simp only [Except.ok.injEq, Prod.mk.injEq] at h; rw [← h.1]; exact leaf_whole _ _ _
  split at h
  · cases h
  split at h
  · cases h
  · rename_i l a2 q2 h2
    simp only [Except.ok.injEq, Prod.mk.injEq] at h
    rw [← h.1]
    exact whole_mkL (itemsS_whole hg _ _ _ _ _ _ h2)
theorem decS_whole {f : Nat → Int} {n : Nat} : ∀ (k d a q : Nat) (v : VT) (a' q' : Nat), decS f n k d a q = .ok (v, a', q') → Whole v := by
  intro k
  induction k with
  | zero => intro d a q v a' q' h; exact partS_whole (fun _ _ _ _ _ h => by cases h) h
  | succ k ih => intro d a q v a' q' h; exact partS_whole (fun a q v a' q' h => ih _ _ _ _ _ _ h) h
/-- what the machine comes to, and what reading comes to -/
theorem head_err {f : Nat → Int} {n e : Nat} (h : headS f n [] 0 0 = .error e) : decS f n 3 0 0 0 = .error e := by
  unfold headS at h
  simp only [List.length_nil, Nat.sub_zero] at h
  cases hd : decS f n 3 0 0 0 with
  | error e2 => rw [hd] at h; simp only [Except.error.injEq] at h; rw [h]
  | ok t => rw [hd] at h; simp only [remU, ahead] at h; cases h
theorem head_ok {f : Nat → Int} {n a q : Nat} {L : List PT} (h : headS f n [] 0 0 = .ok (L, a, q)) : ∃ v, decS f n 3 0 0 0 = .ok (v, a, q) ∧ flatP v = L ∧ Whole v := by
  unfold headS at h
  simp only [List.length_nil, Nat.sub_zero] at h
  cases hd : decS f n 3 0 0 0 with
  | error e2 => rw [hd] at h; cases h
  | ok t =>
    obtain ⟨v, a', q'⟩ := t
    rw [hd] at h
    simp only [remU, ahead, List.append_nil, Except.ok.injEq, Prod.mk.injEq] at h
    obtain ⟨rfl, rfl, rfl⟩ := h
    exact ⟨v, rfl, rfl, decS_whole _ _ _ _ _ _ _ hd⟩
/-- the open lists' counts in memory: the last is the innermost -/
def stC (st : List Nat) : List Value := st.reverse.map fun c : Nat => Value.int .i64 (c : Int)
theorem stC_len (st : List Nat) : (stC st).length = st.length := by simp [stC]
theorem stC_cons (c : Nat) (st : List Nat) : stC (c :: st) = stC st ++ [.int .i64 (c : Int)] := by simp [stC]
theorem owns_some {w : World} {base n : Nat} {e : TypeId} {size : Nat} {v : Value} {xs : List Value} (h : w.ownsRow base e size v n xs) (hn : 0 < n) : ∃ g cap, v = .slice (some ⟨g, 0, none⟩) n cap ∧ n ≤ cap := by
  obtain ⟨_, ⟨hv, h0⟩ | ⟨g, cap, cur, hv, _, _, hnc, _⟩⟩ := h
  · omega
  · exact ⟨g, cap, hv, hnc⟩
/-- the machine at work: its parts, its open lists -/
structure Mach (w0 : World) (B : Nat) (wr : World) (v5 v6 : Value) (L : List PT) (st : List Nat) : Prop where
  own : wr.ownsRow (B + 1) 93 4 v5 L.length (ptCells L)
  stk : wr.ownsRow (B + 1) 3 1 v6 st.length (stC st)
  apart : ∀ g, v5.ownBlock = some g → v6.ownBlock ≠ some g
  box : Box wr B #[.int .i64 0, .int .i64 0, .string ⟨#[]⟩, .slice none 0 0] 24
  below : Below B w0 wr
  ok : ∀ q ∈ L, PTOk q
  len : L.length ≤ 12
  dep : st.length ≤ 3
  pos : ∀ c ∈ st, 0 < c ∧ c ≤ 6
theorem Mach.kept {w0 : World} {B : Nat} {wr w2 : World} {v5 v6 : Value} {L : List PT} {st : List Nat} (h : Mach w0 B wr v5 v6 L st) (hb : Below wr.heap.size wr w2) : Mach w0 B w2 v5 v6 L st :=
  ⟨ownsRow_keep h.own (fun k _ hl => hb.block k hl), ownsRow_keep h.stk (fun k _ hl => hb.block k hl), h.apart, h.box.below hb, h.below.trans (hb.mono (by have := h.box.lt; omega)), h.ok, h.len, h.dep, h.pos⟩
/-- a part more -/
theorem Mach.part {w0 : World} {B : Nat} {wr w3 : World} {v5 v5' v6 : Value} {L : List PT} {st : List Nat} {q : PT} (h : Mach w0 B wr v5 v6 L st) (hq : PTOk q) (hl : L.length < 12)
    (ho : w3.ownsRow (B + 1) 93 4 v5' (L.length + 1) (ptCells L ++ q.cells)) (hg : wr.grownBy w3 v5.ownBlock) (hn : Near wr v5 v5') : Mach w0 B w3 v5' v6 (L ++ [q]) st := by
  have hbl := h.box.lt
  have k1 : ∀ g, v6.ownBlock = some g → g < wr.heap.size → w3.heap[g]? = wr.heap[g]? := fun g hg6 hl => hg.block g hl fun e => h.apart g e.symm hg6
  refine ⟨?_, ownsRow_keep h.stk k1, ?_, h.box.kept (hg.block _ h.box.lt fun e => by have := (h.own.lt _ e.symm).1; omega), h.below.grown hg (by omega) fun k hk => (by have := (h.own.lt k hk).1; omega), ?_, ?_, h.dep, h.pos⟩
  · rw [show (L ++ [q]).length = L.length + 1 by simp, show ptCells (L ++ [q]) = ptCells L ++ q.cells by simp [ptCells]]
    exact ho
  · intro g hg5 hg6
    rcases hn with e | e
    · exact h.apart g (e ▸ hg5) hg6
    · have h1 := e g hg5
      have h2 := (h.stk.lt g hg6).2
      omega
  · intro x hx
    rcases List.mem_append.1 hx with hx | hx
    · exact h.ok x hx
    · rw [List.mem_singleton.1 hx]; exact hq
  · simp; omega
/-- a list more -/
theorem Mach.push {w0 : World} {B : Nat} {wr w3 : World} {v5 v6 v6' : Value} {L : List PT} {st : List Nat} {m : Nat} (h : Mach w0 B wr v5 v6 L st) (h0 : 0 < m) (h6 : m ≤ 6) (hd : st.length ≤ 2)
    (ho : w3.ownsRow (B + 1) 3 1 v6' (st.length + 1) (stC st ++ [.int .i64 (m : Int)])) (hg : wr.grownBy w3 v6.ownBlock) (hn : Near wr v6 v6') : Mach w0 B w3 v5 v6' L (m :: st) := by
  have hbl := h.box.lt
  have k1 : ∀ g, v5.ownBlock = some g → g < wr.heap.size → w3.heap[g]? = wr.heap[g]? := fun g hg5 hl => hg.block g hl fun e => h.apart g hg5 e.symm
  refine ⟨ownsRow_keep h.own k1, ?_, ?_, h.box.kept (hg.block _ h.box.lt fun e => by have := (h.stk.lt _ e.symm).1; omega), h.below.grown hg (by omega) fun k hk => (by have := (h.stk.lt k hk).1; omega), h.ok, h.len, ?_, ?_⟩
  · rw [stC_cons]
    exact ho
  · intro g hg5 hg6
    rcases hn with e | e
    · exact h.apart g hg5 (e ▸ hg6)
    · have h1 := e g hg6
      have h2 := (h.own.lt g hg5).2
      omega
  · simp only [List.length_cons]; omega
  · intro x hx
    rcases List.mem_cons.1 hx with rfl | hx
    · exact ⟨h0, h6⟩
    · exact h.pos x hx
/-- the innermost list, one item on -/
theorem Mach.dec {w0 : World} {B : Nat} {wr : World} {v5 : Value} {g cap : Nat} {L : List PT} {st : List Nat} {c : Nat} (h : Mach w0 B wr v5 (.slice (some ⟨g, 0, none⟩) (st.length + 1) cap) L ((c + 2) :: st)) :
    Mach w0 B (wr.setCell ⟨g, st.length, none⟩ (.int .i64 ((c : Int) + 1))) v5 (.slice (some ⟨g, 0, none⟩) (st.length + 1) cap) L ((c + 1) :: st) := by
  have hs := h.stk.stored st.length (.int .i64 ((c : Int) + 1))
  have hbl := h.box.lt
  have hg1 := h.stk.lt g rfl
  have hk : But (fun x => x = g) wr (wr.setCell ⟨g, st.length, none⟩ (.int .i64 ((c : Int) + 1))) := (But.one _ g).setAt _ _
  refine ⟨ownsRow_keep h.own (fun k hk2 hl => hk.block k hl fun e => h.apart k hk2 (by rw [e]; rfl)), ?_, h.apart, h.box.but hk (by omega), h.below.trans (hk.below (by omega) (fun x hx => by omega)), h.ok, h.len, h.dep, ?_⟩
  · have e : (stC ((c + 2) :: st)).set st.length (.int .i64 ((c : Int) + 1)) = stC ((c + 1) :: st) := by
      rw [stC_cons, stC_cons, List.set_append_right _ _ (by rw [stC_len]; exact Nat.le_refl _), stC_len]
      simp
    have h1 := hs.1
    rw [e] at h1
    exact h1
  · intro x hx
    rcases List.mem_cons.1 hx with rfl | hx
    · have := h.pos (c + 2) (List.mem_cons_self ..); omega
    · exact h.pos x (List.mem_cons_of_mem _ hx)
/-- the innermost list is at its end -/
theorem Mach.pop {w0 : World} {B : Nat} {wr : World} {v5 : Value} {g cap : Nat} {L : List PT} {st : List Nat} {c : Nat} {x : Value} (h : Mach w0 B wr v5 (.slice (some ⟨g, 0, none⟩) (st.length + 1) cap) L (c :: st)) :
    Mach w0 B (wr.setCell ⟨g, st.length, none⟩ x) v5 (.slice (some ⟨g, 0, none⟩) st.length cap) L st := by
  have hs := h.stk.stored st.length x
  have hbl := h.box.lt
  have hg1 := h.stk.lt g rfl
  have hk : But (fun x => x = g) wr (wr.setCell ⟨g, st.length, none⟩ x) := (But.one _ g).setAt _ _
  refine ⟨ownsRow_keep h.own (fun k hk2 hl => hk.block k hl fun e => h.apart k hk2 (by rw [e]; rfl)), ?_, fun k hk2 e => h.apart k hk2 (by rw [← e]; rfl), h.box.but hk (by omega), h.below.trans (hk.below (by omega) (fun x hx => by omega)), h.ok, h.len, ?_, fun c hc => h.pos c (List.mem_cons_of_mem _ hc)⟩
  · have e : (stC (c :: st)).set st.length x = stC st ++ [x] := by
      rw [stC_cons, List.set_append_right _ _ (by rw [stC_len]; exact Nat.le_refl _), stC_len]
      simp
    have h1 := hs.1
    rw [e] at h1
    refine ⟨by rw [stC_len]; omega, .inr ?_⟩
    obtain ⟨_, ⟨hv, h0⟩ | ⟨g', cap', cur, hv, hbg, hh, hnc, hcm, hcs, htake⟩⟩ := h1
    · cases hv
    · simp only [Value.slice.injEq, Option.some.injEq, Addr.mk.injEq, and_true, true_and] at hv
      obtain ⟨rfl, rfl⟩ := hv
      refine ⟨g, cap, cur, rfl, hbg, hh, by omega, hcm, hcs, ?_⟩
      have h2 := congrArg (List.take (st.length * 1)) htake
      rw [List.take_take, show min (st.length * 1) ((st.length + 1) * 1) = st.length * 1 by omega, List.take_append_of_le_length (by rw [stC_len]; omega)] at h2
      rw [h2]
      exact List.take_of_length_le (by rw [stC_len]; omega)
  · have := h.dep; simp only [List.length_cons] at this; omega
/-- where the stack lies, and its innermost count -/
theorem Mach.top {w0 : World} {B : Nat} {wr : World} {v5 v6 : Value} {L : List PT} {st : List Nat} {c : Nat} (h : Mach w0 B wr v5 v6 L (c :: st)) : ∃ g cap, v6 = .slice (some ⟨g, 0, none⟩) (st.length + 1) cap ∧ wr.cell? ⟨g, st.length, none⟩ = some (.int .i64 (c : Int)) ∧ wr.frozen? ⟨g, st.length, none⟩ = false ∧ st.length + 1 ≤ cap ∧ g ≠ B := by
  obtain ⟨g, cap, hv, hnc⟩ := owns_some h.stk (by simp)
  subst hv
  refine ⟨g, cap, rfl, ?_, h.stk.frozenAt _, hnc, by have := (h.stk.lt g rfl).1; omega⟩
  · have h1 := h.stk.cellAt st.length (by simp)
    rw [stC_cons, List.getElem?_append_right (by rw [stC_len]; exact Nat.le_refl _), stC_len] at h1
    simpa using h1
/-- the parts as build reads them -/
theorem pts_get : ∀ (L : List PT) (j r : Nat) (q : PT), L[j]? = some q → r < 4 → (ptCells L)[j * 4 + r]? = q.cells[r]? := by
  intro L
  induction L with
  | nil => intro j r q h; simp at h
  | cons x L ih =>
    intro j r q h hr
    have e : ptCells (x :: L) = x.cells ++ ptCells L := by simp [ptCells]
    have e4 : x.cells.length = 4 := rfl
    cases j with
    | zero =>
      simp only [List.getElem?_cons_zero, Option.some.injEq] at h
      subst h
      rw [e, List.getElem?_append_left (by rw [e4]; omega)]
      simp
    | succ j =>
      simp only [List.getElem?_cons_succ] at h
      rw [e, List.getElem?_append_right (by rw [e4]; omega), e4, show (j + 1) * 4 + r - 4 = j * 4 + r by omega]
      exact ih j r q h hr
theorem Mach.pts {w0 : World} {B : Nat} {wr : World} {v5 v6 : Value} {L : List PT} {st : List Nat} (h : Mach w0 B wr v5 v6 L st) (hL : 0 < L.length) : ∃ g cap, v5 = .slice (some ⟨g, 0, none⟩) L.length cap ∧ Pts wr g 0 L := by
  obtain ⟨g, cap, hv, _⟩ := owns_some h.own hL
  refine ⟨g, cap, hv, (h.own.lt g (by rw [hv]; rfl)).2, fun j q hq => ?_⟩
  have hc := h.own.cells (g := g) (by rw [hv]; rfl)
  have k : ∀ r u, r < 4 → q.cells[r]? = some u → wr.cell? ⟨g, 0 + j * 4 + r, none⟩ = some u := by
    intro r u hr hu
    have := hc (j * 4 + r) u (by rw [pts_get L j r q hq hr]; exact hu)
    rw [Go.WideShapes.add_plain] at this
    rw [show 0 + j * 4 + r = 0 + (j * 4 + r) by omega]
    exact this
  exact ⟨k 0 _ (by omega) rfl, k 1 _ (by omega) rfl, k 2 _ (by omega) rfl, k 3 _ (by omega) rfl⟩
end Go.Proofs.Ytehpdhhlggegdaa

namespace Go.Proofs.Ytehpdhhlggegdaa
open Go.RowKit
set_option maxRecDepth 8000
theorem part_any (db : Nat) (p : Option Addr) (n c : Nat) (f : Nat → Int) : ∀ k d, d + k = 3 → ItemC db p n c f d (decS f n k d) := by
  intro k
  induction k with
  | zero => intro d h; exact part_step db p n c f d (by omega) _ (fun h2 => by omega) (fun _ _ _ _ _ h2 => by cases h2)
  | succ k ih => intro d h; exact part_step db p n c f d (by omega) _ (fun h2 => ih (d + 1) (by omega)) (fun a q v a' q' h2 => ⟨decS_le _ _ _ _ _ _ _ h2, decS_q _ _ _ _ _ _ _ h2⟩)
end Go.Proofs.Ytehpdhhlggegdaa
