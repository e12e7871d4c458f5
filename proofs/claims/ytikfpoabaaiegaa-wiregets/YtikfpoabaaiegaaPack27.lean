import Derived.Test.YtikfpoabaaiegaaPack26
import Derived.Test.YtikfpoabaaiegaaPack6
import Derived.Test.YtikfpoabaaiegaaPack18
import Derived.Test.YtikfpoabaaiegaaPack19
namespace Go.Proofs.Ytikfpoabaaiegaa
set_option maxRecDepth 8000
def Low {α : Type} (s : RS α) : Prop := ∀ L e, s L = .error e → e ≠ 0 ∧ e < 999
theorem low_bind {α β : Type} {s : RS α} {f : α → RS β} (h : Low s) (hf : ∀ y, Low (f y)) : Low (bindS s f) := by
  intro L e he
  unfold bindS at he
  cases hs : s L with
  | error k => rw [hs] at he; cases he; exact h L _ hs
  | ok z => obtain ⟨y, R⟩ := z; rw [hs] at he; exact hf y R e he
theorem low_ret {α : Type} (x : α) : Low (retS x) := fun L e h => by cases h
theorem low_fail {α : Type} {k : Nat} (h0 : k ≠ 0) (h : k < 999) : Low (failS k : RS α) := fun L e he => by cases he; exact ⟨h0, h⟩
theorem low_take (n : Nat) : Low (takeS n) := fun L e h => by
  unfold takeS at h
  split at h
  · cases h
  · cases h; omega
theorem low_numG (b : Nat) : ∀ k i u, Low (numG b k i u)
  | 0, _, _ => low_fail (by decide) (by decide)
  | k + 1, i, u => by
    unfold numG
    refine low_bind (low_take 1) fun l => ?_
    by_cases h1 : (l.headD 0).toNat < 128
    · rw [if_pos h1]
      by_cases h2 : 0 < i ∧ (l.headD 0).toNat = 0
      · rw [if_pos h2]; exact low_fail (by decide) (by decide)
      rw [if_neg h2]
      generalize (u ||| (l.headD 0).toNat % 128 * 2 ^ (7 * i)) = v
      by_cases h3 : b < v
      · rw [if_pos h3]; exact low_fail (by decide) (by decide)
      · rw [if_neg h3]; exact low_ret _
    · rw [if_neg h1]; exact low_numG b k _ _
theorem low_num (b : Nat) : Low (numS b) := low_numG b 5 0 0
theorem low_word : Low wordS := low_bind (low_take 4) fun _ => low_ret _
theorem low_first (x : Int) : Low (firstS x) := low_bind (low_take 1) fun l => by
  split
  · exact low_ret _
  · exact low_fail (by decide) (by decide)
theorem low_key : Low keyS := low_bind (low_num 12) fun n => low_bind (low_take n) fun _ => low_ret _
theorem low_val : Low valS := fun L e h => by
  unfold valS at h
  split at h
  · rename_i k hk
    cases h
    have := dec_known _ _ _ _ _ hk
    rcases this with h1 | h1 | h1 | h1 <;> omega
  · cases h
theorem low_iter {α σ : Type} {item : σ → RS α} {nx : σ → α → σ} (h : ∀ s, Low (item s)) : ∀ (n : Nat) (s : σ), Low (iterS item nx n s)
  | 0, _ => low_ret _
  | n + 1, s => low_bind (low_iter h n s) fun _ => low_bind (h _) fun _ => low_ret _
theorem low_list {α σ : Type} {b : Nat} {item : σ → RS α} {nx : σ → α → σ} {s : σ} (h : ∀ s, Low (item s)) : Low (listS b item nx s) := low_bind (low_num b) fun m => low_bind (low_iter h m s) fun _ => low_ret _
theorem low_rec : Low recS := low_bind low_key fun _ => low_bind low_val fun _ => low_bind (low_list fun _ => low_bind (low_num 9) fun _ => low_ret _) fun _ => low_ret _
theorem low_recs : Low recsS := low_list fun _ => low_rec
theorem low_if {α : Type} {c : Prop} [Decidable c] {s r : RS α} (h1 : Low s) (h2 : Low r) : Low (if c then s else r) := by
  by_cases h : c
  · rw [if_pos h]; exact h1
  · rw [if_neg h]; exact h2
theorem low_rise (l : Option ByteArray) : Low (riseS l) := low_bind low_key fun _ => low_if (low_ret _) (low_fail (by decide) (by decide))
theorem low_cells : Low cellsS := low_list fun s => low_bind (low_rise s) fun _ => low_bind (low_list fun _ => low_val) fun _ => low_ret _
theorem low_state : Low stateS := low_bind (low_num _) fun _ => low_bind low_cells fun _ => low_ret _
theorem low_gone : Low goneS := low_list low_rise
theorem low_delta : Low deltaS := low_bind (low_num _) fun _ => low_bind low_cells fun _ => low_bind low_gone fun _ => low_ret _
theorem low_man : Low manS := low_bind (low_first _) fun _ => low_bind (low_num _) fun _ => low_bind low_word fun _ => low_bind (low_list fun _ => low_bind (low_num _) fun _ => low_bind low_word fun _ => low_ret _) fun _ => low_ret _
theorem low_out : Low outS := low_bind (low_first _) fun _ => low_bind (low_num _) fun _ => low_bind low_rec fun _ => low_ret _
theorem low_logsL : Low logsL := low_list fun _ => low_bind low_recs fun _ => low_ret _
theorem low_front : Low frontS := low_bind (low_first _) fun _ => low_bind (low_num _) fun _ => low_bind (low_num _) fun _ => low_bind (low_num _) fun _ => low_ret _
theorem low_whole : Low wholeS_ := low_bind low_state fun _ => low_bind low_logsL fun _ => low_bind low_recs fun _ => low_ret _
theorem low_patch : Low patchS_ := low_bind low_word fun _ => low_bind low_delta fun _ => low_bind low_logsL fun _ => low_bind low_recs fun _ => low_ret _
theorem Low.no {α : Type} {s : RS α} (h : Low s) (L : List Int) : s L ≠ .error 999 := fun e => by have := (h L 999 e).2; omega
end Go.Proofs.Ytikfpoabaaiegaa

namespace Go.Proofs.Ytikfpoabaaiegaa
open Go.RowKit
set_option maxRecDepth 8000
end Go.Proofs.Ytikfpoabaaiegaa

namespace Go.Proofs.Ytikfpoabaaiegaa
open Go.RowKit
set_option maxRecDepth 8000
theorem valC_get : ∀ (L : List VT) (i r : Nat) (h : i < L.length), r < 4 → (valC L)[i * 4 + r]? = (L[i]'h).cells[r]? := by
  intro L
  induction L with
  | nil => intro i r h; exact absurd h (by simp)
  | cons q L ih =>
    intro i r h hr
    have e : valC (q :: L) = q.cells ++ valC L := by simp [valC]
    rw [e]
    cases i with
    | zero =>
      rw [List.getElem?_append_left (by simp [VT.cells]; omega)]
      simp
    | succ i =>
      have hl : q.cells.length = 4 := rfl
      rw [List.getElem?_append_right (by rw [hl]; omega), hl]
      have h2 := ih i r (by simpa using h) hr
      rw [show (i + 1) * 4 + r - 4 = i * 4 + r by omega, h2]
      simp
end Go.Proofs.Ytikfpoabaaiegaa

namespace Go.Proofs.Ytikfpoabaaiegaa
open Go.RowKit
set_option maxRecDepth 8000
theorem But.two (w : World) (A B : Obj) {n : Nat} (hn : w.heap.size = n) : But (fun x => x = n) (w.alloc A) (w.alloc B).drew := by
  refine ⟨rfl, rfl, rfl, by simp [World.drew], fun q hq hne => ?_⟩
  have h1 : q < w.heap.size := by simp at hq; omega
  exact (Below.heap_alloc w B q h1).trans (Below.heap_alloc w A q h1).symm
end Go.Proofs.Ytikfpoabaaiegaa

namespace Go.Proofs.Ytikfpoabaaiegaa
open Go.RowKit
set_option maxRecDepth 8000
structure GW (rb : Nat) (w1 w : World) (bv : Value) (pa : Int) (a b c : Value) (i j k : Nat) : Prop where
  box : Box w rb #[bv, .int .i64 pa, .int .i64 0, a, b, c, .int .i64 (i : Int), .int .i64 (j : Int), .int .i64 (k : Int)] 133
  but : But (fun x => x = rb) w1 w
theorem GW.start {w0 : World} {rb : Nat} {w : World} {bv : Value} {pa : Int} {a b c : Value} {N : List Int} {K : List ByteArray} {V : List VT} (h : GM w0 rb w bv pa 0 a b c N K V) : GW rb w w bv pa a b c 0 0 0 := ⟨h.box, But.refl _ _⟩
theorem GW.kept {rb : Nat} {w1 w w2 : World} {bv : Value} {pa : Int} {a b c : Value} {i j k : Nat} (h : GW rb w1 w bv pa a b c i j k) (hb : Below w.heap.size w w2) : GW rb w1 w2 bv pa a b c i j k := ⟨h.box.below hb, h.but.trans (But.ofBelow hb)⟩
theorem GW.drew {rb : Nat} {w1 w : World} {bv : Value} {pa : Int} {a b c : Value} {i j k : Nat} (h : GW rb w1 w bv pa a b c i j k) : GW rb w1 w.drew bv pa a b c i j k := ⟨h.box, h.but.drew⟩
theorem GM.numAt {w0 : World} {rb : Nat} {w : World} {bv : Value} {pa : Int} {a b c : Value} {N : List Int} {K : List ByteArray} {V : List VT} (h : GM w0 rb w bv pa 0 a b c N K V) {i : Nat} {x : Int} (hi : N[i]? = some x) : ∃ g cap, a = .slice (some ⟨g, 0, none⟩) N.length cap ∧ w.cell? ⟨g, i, none⟩ = some (.int .i64 x) ∧ g ≠ rb ∧ g < w.heap.size ∧ i < N.length := by
  obtain ⟨hl, _⟩ := List.getElem?_eq_some_iff.1 hi
  obtain ⟨g, cap, hv⟩ := own_some h.oN (by omega)
  have hlt := h.oN.lt g (by rw [hv]; rfl)
  have hc := h.oN.cells (g := g) (by rw [hv]; rfl) i (.int .i64 x) (by simp [intC, hi])
  rw [Go.WideShapes.add_plain, Nat.zero_add] at hc
  exact ⟨g, cap, hv, hc, by omega, hlt.2, hl⟩
theorem GM.keyAt {w0 : World} {rb : Nat} {w : World} {bv : Value} {pa : Int} {a b c : Value} {N : List Int} {K : List ByteArray} {V : List VT} (h : GM w0 rb w bv pa 0 a b c N K V) {i : Nat} {x : ByteArray} (hi : K[i]? = some x) : ∃ g cap, b = .slice (some ⟨g, 0, none⟩) K.length cap ∧ w.cell? ⟨g, i, none⟩ = some (.string x) ∧ g ≠ rb ∧ g < w.heap.size ∧ i < K.length := by
  obtain ⟨hl, _⟩ := List.getElem?_eq_some_iff.1 hi
  obtain ⟨g, cap, hv⟩ := own_some h.oK (by omega)
  have hlt := h.oK.lt g (by rw [hv]; rfl)
  have hc := h.oK.cells (g := g) (by rw [hv]; rfl) i (.string x) (by simp [strC, hi])
  rw [Go.WideShapes.add_plain, Nat.zero_add] at hc
  exact ⟨g, cap, hv, hc, by omega, hlt.2, hl⟩
theorem GM.valAt {w0 : World} {rb : Nat} {w : World} {bv : Value} {pa : Int} {a b c : Value} {N : List Int} {K : List ByteArray} {V : List VT} (h : GM w0 rb w bv pa 0 a b c N K V) {i : Nat} {x : VT} (hi : V[i]? = some x) : ∃ g cap, c = .slice (some ⟨g, 0, none⟩) V.length cap ∧ (w.cell? ⟨g, i * 4, none⟩ = some (.int .i64 x.kind) ∧ w.cell? ⟨g, i * 4 + 1, none⟩ = some (.int .i64 x.int) ∧ w.cell? ⟨g, i * 4 + 2, none⟩ = some (.string x.text) ∧ w.cell? ⟨g, i * 4 + 3, none⟩ = some (.slice x.p x.n x.c)) ∧ g ≠ rb ∧ g < w.heap.size ∧ i < V.length := by
  obtain ⟨hl, rfl⟩ := List.getElem?_eq_some_iff.1 hi
  obtain ⟨g, cap, hv⟩ := own_some h.oV (by omega)
  have hlt := h.oV.lt g (by rw [hv]; rfl)
  have k : ∀ r u, r < 4 → (V[i]).cells[r]? = some u → w.cell? ⟨g, i * 4 + r, none⟩ = some u := by
    intro r u hr hu
    have := h.oV.cells (g := g) (by rw [hv]; rfl) (i * 4 + r) u (by rw [valC_get V i r hl hr]; exact hu)
    rw [Go.WideShapes.add_plain, Nat.zero_add] at this
    exact this
  exact ⟨g, cap, hv, ⟨k 0 _ (by omega) rfl, k 1 _ (by omega) rfl, k 2 _ (by omega) rfl, k 3 _ (by omega) rfl⟩, by omega, hlt.2, hl⟩
set_option maxHeartbeats 1000000 in
theorem refNum3 {w0 : World} {rb : Nat} {w1 w : World} {bv : Value} {pa : Int} {a b c : Value} {N : List Int} {K : List ByteArray} {V : List VT} {i j k : Nat} {x : Int} (h : GM w0 rb w1 bv pa 0 a b c N K V) (hb : GW rb w1 w bv pa a b c i j k) (hN : N.length ≤ 1000000000) (hi : N[i]? = some x) :
    Calls Try.prog 68 #[.pointer (some ⟨rb, 3, none⟩)] w fun e w' => e = .returned (.int .i64 x) ∧ GW rb w1 w' bv pa a b c (i + 1) j k ∧ But (fun x => x = rb) w w' := by
  obtain ⟨g, cap, rfl, hc, hne, hgl, hl⟩ := h.numAt hi
  have hx := hb.box
  have x3 := hx.cell 6
  have f3 := hx.frozen 6
  have hx2 := hx.set 6 (.int .i64 ((i : Int) + 1))
  have y0 := hx2.cell 3
  have y3 := hx2.cell 6
  simp at x3 y0 y3
  have kp : ∀ o, (w.setCell ⟨rb, 6, none⟩ (.int .i64 ((i : Int) + 1))).cell? ⟨g, o, none⟩ = w1.cell? ⟨g, o, none⟩ := fun o => (World.cell?_of_block (a := ⟨g, o, none⟩) (Below.heap_setCell _ _ _ _ hne)).trans (World.cell?_of_block (a := ⟨g, o, none⟩) (hb.but.block g hgl hne))
  have hc3 := (kp i).trans hc
  have HF : Hid (GW rb w1 (w.setCell ⟨rb, 6, none⟩ (.int .i64 ((i : Int) + 1))) bv pa (.slice (some ⟨g, 0, none⟩) N.length cap) b c (i + 1) j k ∧ But (fun x => x = rb) w (w.setCell ⟨rb, 6, none⟩ (.int .i64 ((i : Int) + 1)))) := by
    have h4 : But (fun x => x = rb) w (w.setCell ⟨rb, 6, none⟩ (.int .i64 ((i : Int) + 1))) := (But.one w rb).setAt 6 _
    exact ⟨⟨by simpa using hx2, hb.but.trans h4⟩, h4⟩
  have hi1 : (i : Int) + 1 - 1 = (i : Int) := by omega
  have hlt' : (i : Int) < (N.length : Int) := by omega
  clear h hb hx hx2 kp hc
  go_enter Try.func68, Try.ntmps68
  go_wp2_with fail
  go_region
  all_goals
    go_wp2
    go_ret
    exact ⟨rfl, HF.out.1.drew, HF.out.2.drew⟩
set_option maxHeartbeats 1000000 in
theorem refKey3 {w0 : World} {rb : Nat} {w1 w : World} {bv : Value} {pa : Int} {a b c : Value} {N : List Int} {K : List ByteArray} {V : List VT} {i j k : Nat} {x : ByteArray} (h : GM w0 rb w1 bv pa 0 a b c N K V) (hb : GW rb w1 w bv pa a b c i j k) (hN : K.length ≤ 1000000000) (hi : K[j]? = some x) :
    Calls Try.prog 71 #[.pointer (some ⟨rb, 3, none⟩)] w fun e w' => e = .returned (.string x) ∧ GW rb w1 w' bv pa a b c i (j + 1) k ∧ But (fun x => x = rb) w w' := by
  obtain ⟨g, cap, rfl, hc, hne, hgl, hl⟩ := h.keyAt hi
  have hx := hb.box
  have x3 := hx.cell 7
  have f3 := hx.frozen 7
  have hx2 := hx.set 7 (.int .i64 ((j : Int) + 1))
  have y0 := hx2.cell 4
  have y3 := hx2.cell 7
  simp at x3 y0 y3
  have kp : ∀ o, (w.setCell ⟨rb, 7, none⟩ (.int .i64 ((j : Int) + 1))).cell? ⟨g, o, none⟩ = w1.cell? ⟨g, o, none⟩ := fun o => (World.cell?_of_block (a := ⟨g, o, none⟩) (Below.heap_setCell _ _ _ _ hne)).trans (World.cell?_of_block (a := ⟨g, o, none⟩) (hb.but.block g hgl hne))
  have hc3 := (kp j).trans hc
  have HF : Hid (GW rb w1 (w.setCell ⟨rb, 7, none⟩ (.int .i64 ((j : Int) + 1))) bv pa a (.slice (some ⟨g, 0, none⟩) K.length cap) c i (j + 1) k ∧ But (fun x => x = rb) w (w.setCell ⟨rb, 7, none⟩ (.int .i64 ((j : Int) + 1)))) := by
    have h4 : But (fun x => x = rb) w (w.setCell ⟨rb, 7, none⟩ (.int .i64 ((j : Int) + 1))) := (But.one w rb).setAt 7 _
    exact ⟨⟨by simpa using hx2, hb.but.trans h4⟩, h4⟩
  have hi1 : (j : Int) + 1 - 1 = (j : Int) := by omega
  have hlt' : (j : Int) < (K.length : Int) := by omega
  clear h hb hx hx2 kp hc
  go_enter Try.func71, Try.ntmps71
  go_wp2_with fail
  go_region
  all_goals
    go_wp2
    go_ret
    exact ⟨rfl, HF.out.1.drew, HF.out.2.drew⟩
set_option maxHeartbeats 1000000 in
theorem refVal3 {w0 : World} {rb : Nat} {w1 w : World} {bv : Value} {pa : Int} {a b c : Value} {N : List Int} {K : List ByteArray} {V : List VT} {i j k : Nat} {x : VT} (h : GM w0 rb w1 bv pa 0 a b c N K V) (hb : GW rb w1 w bv pa a b c i j k) (hN : V.length ≤ 1000000000) (hi : V[k]? = some x) :
    Calls Try.prog 95 #[.pointer (some ⟨rb, 3, none⟩)] w fun e w' => e = .returned x.val ∧ GW rb w1 w' bv pa a b c i j (k + 1) ∧ But (fun x => x = rb) w w' := by
  obtain ⟨g, cap, rfl, hc, hne, hgl, hl⟩ := h.valAt hi
  obtain ⟨Z, hZ⟩ : ∃ Z, Z = Obj.cells #[.int .i64 0, .int .i64 0, .string ⟨#[]⟩, .slice none 0 0] 24 := ⟨_, rfl⟩
  have hal : Below w.heap.size w (w.alloc Z) := (Below.refl _ _).alloc (Nat.le_refl _) _
  have hrb := hb.box.lt
  have hbw := hb.kept hal
  have x3 := hbw.box.cell 8
  have f3 := hbw.box.frozen 8
  have h4 : But (fun x => x = rb) w (w.setCell ⟨rb, 8, none⟩ (.int .i64 ((k : Int) + 1))) := (But.one w rb).setAt 8 _
  have hx2 := hb.box.set 8 (.int .i64 ((k : Int) + 1))
  have hxl := hx2.lt
  have hx3 := hx2.below ((Below.refl _ _).alloc (Nat.le_refl _) Z)
  have y0 := hx3.cell 5
  have y3 := hx3.cell 8
  simp at x3 y0 y3
  have kp : ∀ o, ((w.setCell ⟨rb, 8, none⟩ (.int .i64 ((k : Int) + 1))).alloc Z).cell? ⟨g, o, none⟩ = w1.cell? ⟨g, o, none⟩ := fun o => World.cell?_of_block (a := ⟨g, o, none⟩) (((hb.but.trans h4).alloc Z).block g hgl hne)
  have hc0 := (kp (k * 4)).trans hc.1
  have hc1 := (kp (k * 4 + 1)).trans hc.2.1
  have hc2 := (kp (k * 4 + 2)).trans hc.2.2.1
  have hc3 := (kp (k * 4 + 3)).trans hc.2.2.2
  have hsz : (w.setCell ⟨rb, 8, none⟩ (.int .i64 ((k : Int) + 1))).heap.size = w.heap.size := by simp [World.setCell]
  have hz := Box.new (w.setCell ⟨rb, 8, none⟩ (.int .i64 ((k : Int) + 1))) #[.int .i64 0, .int .i64 0, .string ⟨#[]⟩, .slice none 0 0] 24
  rw [hsz, ← hZ] at hz
  have z0 := hz.cell 0
  have z1 := hz.cell 1
  have z2 := hz.cell 2
  have z3 := hz.cell 3
  have q0 := hz.frozen 0
  have q1 := hz.frozen 1
  have q2 := hz.frozen 2
  have q3 := hz.frozen 3
  simp at z0 z1 z2 z3
  have HF : Hid (∀ W, But (fun x => x = w.heap.size) ((w.setCell ⟨rb, 8, none⟩ (.int .i64 ((k : Int) + 1))).alloc Z) W → GW rb w1 W bv pa a b (.slice (some ⟨g, 0, none⟩) V.length cap) i j (k + 1) ∧ But (fun x => x = rb) w W) := by
    intro W hW
    have h5 : But (fun x => x = rb) w W := by
      have h6 := h4.alloc Z
      refine ⟨hW.os.trans h6.os, hW.tape.trans h6.tape, hW.output.trans h6.output, Nat.le_trans h6.size hW.size, fun q hq hn => (hW.block q (Nat.lt_of_lt_of_le hq h6.size) (by omega)).trans (h6.block q hq hn)⟩
    refine ⟨⟨?_, hb.but.trans h5⟩, h5⟩
    have := hx3.but hW (by omega)
    simpa using this
  have hi1 : (k : Int) + 1 - 1 = (k : Int) := by omega
  have hlt' : (k : Int) < (V.length : Int) := by omega
  subst hZ
  unfold VT.val
  clear h hb hx2 hx3 kp hc hbw hal hz h4 hsz
  go_enter Try.func95, Try.ntmps95
  go_wp2_with fail
  go_region
  all_goals
    go_wp2
    obtain ⟨W, hW⟩ : ∃ W, W = ((w.setCell ⟨rb, 8, none⟩ (.int .i64 ((k : Int) + 1))).alloc (.cells #[.int .i64 x.kind, .int .i64 x.int, .string x.text, .slice x.p x.n x.c] 24)).drew := ⟨_, rfl⟩
    have hbx : Box W w.heap.size #[.int .i64 x.kind, .int .i64 x.int, .string x.text, .slice x.p x.n x.c] 24 := by
      rw [hW]
      have h9 := Box.new (w.setCell ⟨rb, 8, none⟩ (.int .i64 ((k : Int) + 1))) #[.int .i64 x.kind, .int .i64 x.int, .string x.text, .slice x.p x.n x.c] 24
      rw [show (w.setCell ⟨rb, 8, none⟩ (.int .i64 ((k : Int) + 1))).heap.size = w.heap.size by simp [World.setCell]] at h9
      exact h9
    have HP := hid (HF.out W (by rw [hW]; exact But.two _ _ _ (by simp [World.setCell])))
    rw [← hW]
    clear hW
    have m0 := hbx.cell 0
    have m1 := hbx.cell 1
    have m2 := hbx.cell 2
    have m3 := hbx.cell 3
    simp at m0 m1 m2 m3
    refine bodyPost_ret (v := .agg #[.int .i64 x.kind, .int .i64 x.int, .string x.text, .slice x.p x.n x.c]) (by simp [results, Try.results95, go_sem, m0, m1, m2, m3]) rfl ?_
    exact ⟨rfl, HP.out⟩
end Go.Proofs.Ytikfpoabaaiegaa
