import Derived.Test.YtdpfgflofjiheaaPack34
import Derived.Test.YtdpfgflofjiheaaPack10
import Derived.Test.YtdpfgflofjiheaaPack11
namespace Go.Proofs.Ytdpfgflofjiheaa
open Go.RowKit
set_option maxRecDepth 8000
theorem oneEv (xs : List EV) : ∀ u ∈ xs.flatMap EV.cells, u.oneCell' = true := by
  intro u hu
  obtain ⟨j, _, hj⟩ := List.mem_flatMap.1 hu
  exact elEv.one _ u hj
theorem Pcs.at_ {w : World} {base n c k : Nat} {p0 : Option Addr} {PS : List (Value × List EV)} (h : Pcs w base (.slice p0 n c) PS) (hk : k < PS.length) : ∃ (g : Nat) (pk : Option Addr) (m ck : Nat), p0 = some ⟨g, 0, none⟩ ∧ w.cell? ⟨g, k, none⟩ = some (.slice pk m ck) ∧ g < w.heap.size ∧ m = (PS[k]'hk).2.length ∧ Src w pk m ck 2 ((PS[k]'hk).2.flatMap EV.cells) := by
  obtain ⟨h1, _⟩ := h.each _ (List.getElem_mem hk)
  obtain ⟨pk, ck, hv⟩ := ownsRow_slice h1
  have hl : (PS.map fun p => p.1).length = PS.length := by simp
  have hr : w.ownsRow base 31 1 (.slice p0 n c) (PS.map fun p => p.1).length (PS.map fun p => p.1) := by rw [hl]; exact h.row
  obtain ⟨g, cg, hv2, _, _, _⟩ := row_some hr (by omega)
  rw [hl] at hv2
  have hp : p0 = some ⟨g, 0, none⟩ := (Value.slice.inj hv2).1
  have hn : n = PS.length := (Value.slice.inj hv2).2.1
  subst hp
  subst hn
  obtain ⟨c1, _, c3⟩ := row_at h.row (q := k) (u := (PS[k]'hk).1) (by rw [List.getElem?_map, List.getElem?_eq_getElem hk]; rfl)
  rw [hv] at c1 h1
  exact ⟨g, pk, _, ck, rfl, c1, c3, rfl, h1.src.2⟩
/-- the first pieces' events -/
def tot (PS : List (Value × List EV)) (k : Nat) : List EV := (PS.take k).flatMap fun p => p.2
theorem tot_succ {PS : List (Value × List EV)} {k : Nat} (hk : k < PS.length) : tot PS (k + 1) = tot PS k ++ (PS[k]'hk).2 := by
  unfold tot
  rw [List.take_succ_eq_append_getElem hk, List.flatMap_append]
  simp
theorem tot_all (PS : List (Value × List EV)) : tot PS PS.length = PS.flatMap fun p => p.2 := by unfold tot; rw [List.take_length]
theorem tot_le (PS : List (Value × List EV)) (k : Nat) : (tot PS k).length ≤ (PS.flatMap fun p => p.2).length := by
  have e : PS.flatMap (fun p => p.2) = tot PS k ++ (PS.drop k).flatMap fun p => p.2 := by
    unfold tot
    rw [← List.flatMap_append, List.take_append_drop]
  rw [e, List.length_append]
  omega
set_option maxHeartbeats 8000000 in
theorem concat_any (w : World) (base : Nat) (p0 : Option Addr) (n c : Nat) (PS : List (Value × List EV)) (h : Pcs w base (.slice p0 n c) PS) (hn : PS.length ≤ 140737488355328) (h47 : (PS.flatMap fun p => p.2).length * 16 ≤ 140737488355328) :
    Calls Try.prog 36 #[.slice p0 n c] w fun e w' => ∃ v, e = .returned v ∧ EvRow w.heap.size w' v (PS.flatMap fun p => p.2) ∧ Below w.heap.size w w' := by
  obtain ⟨p9, c9, h9⟩ := ownsRow_slice h.row
  obtain rfl : n = PS.length := by cases h9; rfl
  clear h9
  obtain ⟨n, hn0⟩ : ∃ n, n = PS.length := ⟨_, rfl⟩
  have H : Hid (Pcs w base (.slice p0 n c) PS) := by rw [hn0]; exact h
  obtain ⟨i0, Kd⟩ := kindEv
  have HKd := hid Kd
  have H47 := hid h47
  rw [← hn0] at hn ⊢
  have HN := hid hn0
  have hg47 : (tot PS n).length * 16 ≤ 140737488355328 := by have := tot_le PS n; omega
  have HGr := hid (grow_any (tot PS n).length w hg47)
  clear hn0 h Kd h47
  go_enter Try.func36, Try.ntmps36
  go_wp2_with fail
  go_loopw [3, 11] (fun x y wr => ∃ k : Nat, k ≤ n ∧ x = .int .i64 ((tot PS k).length : Int) ∧ y = .int .i64 (k : Int) ∧ wr = w) (fun _ y _ => n - (intOf y).toNat)
  case atStart => exact ⟨0, Nat.zero_le _, rfl, rfl, rfl⟩
  case round =>
    obtain ⟨k, hk, rfl, rfl, hw⟩ := hrel
    rw [hw]
    clear hw
    by_cases hlt : k < n
    · have hlt' : (k : Int) < (n : Int) := by omega
      obtain ⟨g, pk, m, ck, hp, c1, gl, hm, _⟩ := H.out.at_ (k := k) (by rw [← HN.out]; exact hlt)
      have HE : Hid ((tot PS (k + 1)).length = (tot PS k).length + m) := by show _ = _; rw [tot_succ (by rw [← HN.out]; exact hlt), List.length_append, hm]
      obtain ⟨A, hA⟩ : ∃ A, A = (tot PS k).length := ⟨_, rfl⟩
      have hAm : A + m ≤ 140737488355328 := by have := HE.out; have := tot_le PS (k + 1); have := H47.out; omega
      rw [← hA] at HE ⊢
      rw [hp]
      have h0 : ¬ ((A : Int) + (m : Int) < 0) := by omega
      clear hp hm hA
      go_wp2
      go_roundw
      case rel => exact ⟨k + 1, by omega, by rw [HE.out]; go_num, by go_num, by first | rfl | trivial⟩
      case measure => simp [intOf]; omega
    · obtain rfl : k = n := by omega
      go_wp2_with fail
      refine HGr.out.mono ?_
      rintro e w1 ⟨v1, rfl, hr1, hb1⟩
      have HR1 := hid hr1
      have HB1 := hid hb1
      clear hr1 hb1 HGr
      go_wp2_with fail
      go_loopw [6, 27] (fun x y wr => ∃ q : Nat, q ≤ k ∧ EvRow w.heap.size wr x (tot PS q) ∧ y = .int .i64 (q : Int) ∧ Below w.heap.size w wr) (fun _ y _ => k - (intOf y).toNat)
      case atStart => exact ⟨0, Nat.zero_le _, HR1.out, rfl, HB1.out⟩
      case round =>
        obtain ⟨q, hq, hr, rfl, hb⟩ := hrel
        have HR := hid hr
        have HB := hid hb
        clear hr hb
        by_cases hlt : q < k
        · have hlt' : (q : Int) < (k : Int) := by omega
          have hqP : q < PS.length := by rw [← HN.out]; exact hlt
          obtain ⟨g, pk, m, ck, hp, c1, gl, hm, hsr⟩ := (H.out.below HB.out).at_ hqP
          have HS := hid hsr
          have HE : Hid (tot PS (q + 1) = tot PS q ++ (PS[q]'hqP).2) := tot_succ hqP
          have HM := hid hm
          have hAm : ((tot PS q).length + m) * 16 ≤ 140737488355328 := by have h1 := HE.out; have h2 := congrArg List.length h1; rw [List.length_append] at h2; have := tot_le PS (q + 1); have := H47.out; omega
          obtain ⟨A, hA⟩ : ∃ A, A = (tot PS q).length := ⟨_, rfl⟩
          have HA := hid hA
          rw [← hA] at hAm
          rw [hp]
          clear hp hm hA hsr
          go_wp2_with (at_builtin; refine wpList_appS rfl (.tmp 31) (.tmp 32) 31 39 i0 _ 2 16 HKd.out rfl w.heap.size u6 (tot PS q).length _ rfl HR.out pk m ck _ rfl HS.out (oneEv _) (by rw [← HA.out]; omega) (by rw [← HA.out]; omega) HB.out.size ?_)
          intro v3 w3 ho3 hg3 hn3
          have HR3 : Hid (EvRow w.heap.size w3 v3 (tot PS (q + 1))) := by show EvRow _ _ _ _; rw [HE.out]; exact EvRow.appS rfl HM.out ho3
          have HB3 : Hid (Below w.heap.size w w3) := HB.out.grown hg3 HB.out.size (fun j hj => (World.ownsRow.lt HR.out j hj).1)
          clear ho3 hg3 hn3
          go_wp2
          go_roundw
          case rel => exact ⟨q + 1, by omega, HR3.out, by go_num, HB3.out⟩
          case measure => simp [intOf]; omega
        · obtain rfl : q = k := by omega
          have HE : Hid (tot PS q = PS.flatMap fun p => p.2) := by show _ = _; rw [HN.out]; exact tot_all PS
          go_wp2
          go_ret
          exact ⟨_, rfl, by rw [← HE.out]; exact HR.out, HB.out⟩
end Go.Proofs.Ytdpfgflofjiheaa

namespace Go.Proofs.Ytdpfgflofjiheaa
open Go.RowKit
set_option maxRecDepth 8000
/-- what a line is, from the place where the last life begins: the events so far, the error, all events -/
inductive Back (f : Nat → TR) (T : Nat) : Nat → List EV → Int → List EV → Prop
  | stop {fr acc} : ¬ 0 < beganOf f fr → Back f T fr acc 0 acc
  | none {fr acc} : 0 < beganOf f fr → NoLife f (fr - 1) (beganOf f fr) → Back f T fr acc 180 []
  | bad {fr acc a b} : 0 < beganOf f fr → LifeAt f (fr - 1) (beganOf f fr) a b → ¬ AllCp f a b (beganOf f fr) T → Back f T fr acc 181 []
  | go {fr acc a b m e r} : 0 < beganOf f fr → LifeAt f (fr - 1) (beganOf f fr) a b → (∀ k : Nat, k < T → OneCp f a b (beganOf f fr) (k : Int) (m k)) → Back f T a (evsF f (befP f m true) a (b - a) ++ acc) e r → Back f T fr acc e r
theorem Back.uniq {f : Nat → TR} {T N fr : Nat} {acc r : List EV} {e : Int} (hc : ∀ q, q < N → Can (T : Int) (f q)) (h : Back f T fr acc e r) : fr ≤ N → ∀ {e' : Int} {r' : List EV}, Back f T fr acc e' r' → e = e' ∧ r = r' := by
  induction h with
  | stop h0 =>
    intro hN e' r' g
    cases g with
    | stop => exact ⟨rfl, rfl⟩
    | none g0 => exact (h0 g0).elim
    | bad g0 => exact (h0 g0).elim
    | go g0 => exact (h0 g0).elim
  | none h0 h1 =>
    intro hN e' r' g
    cases g with
    | stop g0 => exact (g0 h0).elim
    | none => exact ⟨rfl, rfl⟩
    | bad g0 g1 => exact (g1.not h1).elim
    | go g0 g1 => exact (g1.not h1).elim
  | bad h0 h1 h2 =>
    intro hN e' r' g
    cases g with
    | stop g0 => exact (g0 h0).elim
    | none g0 g1 => exact (h1.not g1).elim
    | bad => exact ⟨rfl, rfl⟩
    | go g0 g1 g2 =>
      obtain ⟨rfl, rfl⟩ := h1.uniq g1
      exact (h2 fun k hk => ⟨_, g2 k hk⟩).elim
  | go h0 h1 h2 h3 ih =>
    intro hN e' r' g
    cases g with
    | stop g0 => exact (g0 h0).elim
    | none g0 g1 => exact (h1.not g1).elim
    | bad g0 g1 g2 =>
      obtain ⟨rfl, rfl⟩ := h1.uniq g1
      exact (g2 fun k hk => ⟨_, h2 k hk⟩).elim
    | go g0 g1 g2 g3 =>
      obtain ⟨rfl, rfl⟩ := h1.uniq g1
      have hb := h1.bn
      have hab := h1.ab
      rw [← evs_same (n := (T : Int)) hc (by omega) (by rw [Int.toNat_natCast]; exact h2) (by rw [Int.toNat_natCast]; exact g2)] at g3
      exact ih (by omega) g3
theorem Back.len {f : Nat → TR} {T fr : Nat} {acc r : List EV} {e : Int} (h : Back f T fr acc e r) : r.length ≤ acc.length + fr := by
  induction h with
  | stop => omega
  | none => exact Nat.zero_le _
  | bad => exact Nat.zero_le _
  | @go fr acc a b m e r h0 h1 h2 h3 ih =>
    have hb := h1.bn
    have hab := h1.ab
    have := evsF_len f (befP f m true) a (b - a)
    rw [List.length_append] at ih
    omega
theorem Cuts.uniq {f : Nat → TR} {n a a' : Nat} (h : Cuts f n a) (g : Cuts f n a') : a = a' := by
  obtain ⟨h1, h2, h3⟩ := h
  obtain ⟨g1, g2, g3⟩ := g
  rcases Nat.lt_trichotomy a a' with h | h | h
  · rcases g2 with g2 | g2
    · omega
    · exact (h3 (a' - 1) (by omega) (by omega) g2).elim
  · exact h
  · rcases h2 with h2 | h2
    · omega
    · exact (g3 (a - 1) (by omega) (by omega) h2).elim
theorem Cuts.start (f : Nat → TR) : Cuts f 0 0 := ⟨Nat.le_refl _, .inl rfl, fun q h1 h2 => by omega⟩
theorem Cuts.hit {f : Nat → TR} {k : Nat} (hk : (f k).kind = 11) : Cuts f (k + 1) (k + 1) := ⟨Nat.le_refl _, .inr hk, fun q h1 h2 => by omega⟩
theorem Cuts.miss {f : Nat → TR} {k a : Nat} (h : Cuts f k a) (hk : (f k).kind ≠ 11) : Cuts f (k + 1) a := by
  obtain ⟨h1, h2, h3⟩ := h
  refine ⟨by omega, h2, fun q g1 g2 => ?_⟩
  by_cases e : q = k
  · subst e; exact hk
  · exact h3 q g1 (by omega)
/-- what Line answers -/
def LineS (l : LT TR) (n : Int) (err : Int) (xs : List EV) : Prop :=
  (¬ CanL n l ∧ err = 181 ∧ xs = []) ∨ (CanL n l ∧ ∃ a, Cuts l.item l.n a ∧ Back l.item n.toNat a (evsF l.item (fun _ => true) a (l.n - a)) err xs)
theorem LineS.uniq {l : LT TR} {n e e' : Int} {xs xs' : List EV} (h : LineS l n e xs) (g : LineS l n e' xs') : e = e' ∧ xs = xs' := by
  rcases h with ⟨c, rfl, rfl⟩ | ⟨c, a, h1, h2⟩ <;> rcases g with ⟨c', rfl, rfl⟩ | ⟨c', a', g1, g2⟩
  · exact ⟨rfl, rfl⟩
  · exact (c c').elim
  · exact (c' c).elim
  · obtain rfl := h1.uniq g1
    have hn : ((n.toNat : Nat) : Int) = n := by have := c.1; omega
    exact Back.uniq (N := l.n) (by rw [hn]; exact c.2.2) h2 h1.1 g2
theorem LineS.len {l : LT TR} {n e : Int} {xs : List EV} (h : LineS l n e xs) : xs.length ≤ l.n := by
  rcases h with ⟨_, _, rfl⟩ | ⟨_, a, h1, h2⟩
  · exact Nat.zero_le _
  · have := h2.len
    have := evsF_len l.item (fun _ => true) a (l.n - a)
    have := h1.1
    omega
/-- events in a row of its own, with an error -/
def LineQ (l : LT TR) (n : Int) (w : World) (e : Ending) (w' : World) : Prop := ∃ (v : Value) (err : Int) (xs : List EV), LineS l n err xs ∧ e = .returned (.tuple #[v, .int .i64 err]) ∧ EvRow w.heap.size w' v xs ∧ Below w.heap.size w w'
end Go.Proofs.Ytdpfgflofjiheaa
