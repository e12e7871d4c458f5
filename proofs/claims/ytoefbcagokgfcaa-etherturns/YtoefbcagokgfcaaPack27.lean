import Derived.Test.YtoefbcagokgfcaaPack26
import Derived.Test.YtoefbcagokgfcaaUbE
import Derived.Test.YtoefbcagokgfcaaPack18
namespace Go.Proofs.Ytoefbcagokgfcaa
open Go.RowKit
set_option maxRecDepth 8000
section
variable {w w' : World} {Z Z1 Z2 : Nat → Prop} {xb b rb : Nat} {m : Int} {A A1 A2 A' : List FA} {N N' : Nat}
theorem PrI.more (h : PrI w Z Z1 Z2 xb b rb m A1 A2 N) (hb : Below w.heap.size w w') : PrI w' (fun k => Z k ∨ Bt w.heap.size w'.heap.size k) (fun k => Z1 k ∨ Bt w.heap.size w'.heap.size k) (fun k => Z2 k ∨ Bt w.heap.size w'.heap.size k) xb b rb m A1 A2 N :=
  h.but (But.ofBelow hb) (fun k hk hz => hz.resolve_right (fun e => by have := e.1; omega)) (fun k hk => by
    rcases hk with hk | hk
    · exact Nat.lt_of_lt_of_le (h.l1 k (h.s1 k hk)) hb.size
    · exact hk.2)
theorem PrI.less {Z' : Nat → Prop} (h : PrI w Z Z1 Z2 xb b rb m A1 A2 N) (hz : ∀ k, Z' k → Z k) : PrI w Z' Z1 Z2 xb b rb m A1 A2 N :=
  ⟨h.e, h.r, h.bx, h.x1, h.x2, fun hk => h.nx (hz _ hk), fun k hk => h.s1 k (hz k hk), fun k hk => h.s2 k (hz k hk), h.cov, h.l1, h.l2⟩
theorem Fr.less {Z' : Nat → Prop} (h : Fr Z w w') (hz : ∀ k, Z' k → Z k) : Fr Z' w w' := But.mono h fun k _ hn hk => hn (hz k hk)
theorem PrI.len (h : PrI w Z Z1 Z2 xb b rb m A1 A2 N) : A1.length ≤ 256 := by
  obtain ⟨v, L, hI, hA⟩ := h.e
  rw [← hA, List.length_map]
  exact hI.len
/-- behind a call -/
def PQ (w w' : World) (Z : Nat → Prop) (xb b rb : Nat) (m : Int) (A1 A2 : List FA) (N : Nat) : Prop := ∃ Z1 Z2, PrI w' Z Z1 Z2 xb b rb m A1 A2 N ∧ Fr Z w w'
theorem PrI.qe (h : PrI w Z Z1 Z2 xb b rb m A1 A2 N) (hF : Fr Z1 w w') (hE : EtA w' Z1 b m A') : PQ w w' Z xb b rb m A' A2 N := ⟨_, _, h.ether hF hE⟩
theorem PrI.qr (h : PrI w Z Z1 Z2 xb b rb m A1 A2 N) (hF : Fr Z2 w w') (hE : RfA w' Z2 rb m A' N') : PQ w w' Z xb b rb m A1 A' N' := ⟨_, _, h.ref hF hE⟩
theorem duo_drop (i : Int) (hib : i ≤ 9223372036854775807) (hN : N * 48 ≤ 140737488355328) (Z : Nat → Prop) (xb b rb : Nat) (m : Int) (A : List FA) (hA2 : A.length ≤ 256) : ∃ (x : Bool) (A' : List FA),
    (∀ w Z1 Z2, PrI w Z Z1 Z2 xb b rb m A A N → Calls Try.prog 23 #[.pointer (some ⟨b, 0, none⟩), .int .i64 i] w fun e w' => e = .returned (.bool x) ∧ PQ w w' Z xb b rb m A' A N) ∧
    (∀ w Z1 Z2, PrI w Z Z1 Z2 xb b rb m A' A N → Calls Try.prog 36 #[.pointer (some ⟨rb, 0, none⟩), .int .i64 i] w fun e w' => e = .returned (.bool x) ∧ PQ w w' Z xb b rb m A' A' N) := by
  by_cases hi : inA i A.length
  · refine ⟨true, A.eraseIdx i.toNat, fun w Z1 Z2 h => (drop_any w Z1 b m A h.e h.l1 i).mono ?_, fun w Z1 Z2 h => (rdrop_any w Z2 rb m A N h.r h.l2 hN (by omega) i hib).mono ?_⟩
    · intro e w' hq
      obtain ⟨rfl, hE, hF⟩ := hq.2 hi
      exact ⟨rfl, h.qe hF hE⟩
    · intro e w' hq
      obtain ⟨rfl, hE, hF⟩ := hq.2 hi
      exact ⟨rfl, h.qr hF hE⟩
  · refine ⟨false, A, fun w Z1 Z2 h => (drop_any w Z1 b m A h.e h.l1 i).mono ?_, fun w Z1 Z2 h => (rdrop_any w Z2 rb m A N h.r h.l2 hN (by omega) i hib).mono ?_⟩
    · intro e w' hq
      obtain ⟨rfl, hE, hF⟩ := hq.1 hi
      exact ⟨rfl, h.qe hF hE⟩
    · intro e w' hq
      obtain ⟨rfl, hE, hF⟩ := hq.1 hi
      exact ⟨rfl, h.qr hF hE⟩
theorem duo_flip (i bit : Int) (hib : i ≤ 9223372036854775807) (hbb : bit ≤ 9223372036854775807) (hN : N * 48 ≤ 140737488355328) (Z : Nat → Prop) (xb b rb : Nat) (m : Int) (A : List FA) : ∃ (x : Bool) (A' : List FA),
    (∀ w Z1 Z2, PrI w Z Z1 Z2 xb b rb m A A N → Calls Try.prog 19 #[.pointer (some ⟨b, 0, none⟩), .int .i64 i, .int .i64 bit] w fun e w' => e = .returned (.bool x) ∧ PQ w w' Z xb b rb m A' A N) ∧
    (∀ w Z1 Z2, PrI w Z Z1 Z2 xb b rb m A' A N → Calls Try.prog 38 #[.pointer (some ⟨rb, 0, none⟩), .int .i64 i, .int .i64 bit] w fun e w' => e = .returned (.bool x) ∧ PQ w w' Z xb b rb m A' A' N) := by
  by_cases hi : canF A i bit
  · obtain ⟨a, ha⟩ : ∃ a, A[i.toNat]? = some a := by
      have h1 : 0 ≤ i ∧ i < (A.length : Int) := hi.1
      exact ⟨_, List.getElem?_eq_getElem (by omega)⟩
    refine ⟨true, A.set i.toNat (a.flip bit.toNat), fun w Z1 Z2 h => (flip_any w Z1 b m A h.e i bit hbb).mono ?_, fun w Z1 Z2 h => (rflip_any w Z2 rb m A N h.r h.l2 hN i bit hib hbb).mono ?_⟩
    · intro e w' hq
      obtain ⟨rfl, ⟨a', ha', hE⟩, hF⟩ := hq.2 hi
      rw [ha] at ha'
      cases ha'
      exact ⟨rfl, h.qe hF hE⟩
    · intro e w' hq
      obtain ⟨rfl, ⟨a', ha', hE⟩, hF⟩ := hq.2 hi
      rw [ha] at ha'
      cases ha'
      exact ⟨rfl, h.qr hF hE⟩
  · refine ⟨false, A, fun w Z1 Z2 h => (flip_any w Z1 b m A h.e i bit hbb).mono ?_, fun w Z1 Z2 h => (rflip_any w Z2 rb m A N h.r h.l2 hN i bit hib hbb).mono ?_⟩
    · intro e w' hq
      obtain ⟨rfl, hE, hF⟩ := hq.1 hi
      exact ⟨rfl, h.qe hF hE⟩
    · intro e w' hq
      obtain ⟨rfl, hE, hF⟩ := hq.1 hi
      exact ⟨rfl, h.qr hF hE⟩
theorem duo_copy (i : Int) (hib : i ≤ 9223372036854775807) (hN : (N + 1) * 48 ≤ 140737488355328) (Z : Nat → Prop) (xb b rb : Nat) (m : Int) (A : List FA) (hA2 : A.length ≤ 256) : ∃ (x : Int) (A' : List FA),
    (∀ w Z1 Z2, PrI w Z Z1 Z2 xb b rb m A A N → Calls Try.prog 15 #[.pointer (some ⟨b, 0, none⟩), .int .i64 i] w fun e w' => e = .returned (.int .i64 x) ∧ PQ w w' Z xb b rb m A' A N) ∧
    (∀ w Z1 Z2, PrI w Z Z1 Z2 xb b rb m A' A N → Calls Try.prog 37 #[.pointer (some ⟨rb, 0, none⟩), .int .i64 i] w fun e w' => e = .returned (.int .i64 x) ∧ PQ w w' Z xb b rb m A' A' (N + 1)) := by
  by_cases hi : copyE i A.length = 0
  · obtain ⟨a, ha⟩ : ∃ a, A[i.toNat]? = some a := by
      have h1 : 0 ≤ i ∧ i < (A.length : Int) := by
        unfold copyE at hi
        split at hi
        · cases hi
        · rename_i h1
          exact Classical.not_not.1 h1
      exact ⟨_, List.getElem?_eq_getElem (by omega)⟩
    refine ⟨copyE i A.length, A ++ [a], fun w Z1 Z2 h => (copy_any w Z1 b m A h.e h.l1 i).mono ?_, fun w Z1 Z2 h => (rcopy_any w Z2 rb m A N h.r h.l2 hN (by omega) i hib).mono ?_⟩
    · rintro e w' ⟨he, hq, _, hF⟩
      obtain ⟨a', ha', hE⟩ := hq hi
      rw [ha] at ha'
      cases ha'
      exact ⟨he, h.qe hF hE⟩
    · rintro e w' ⟨he, hq, _, hF⟩
      obtain ⟨a', ha', hE⟩ := hq hi
      rw [ha] at ha'
      cases ha'
      exact ⟨he, h.qr hF hE⟩
  · refine ⟨copyE i A.length, A, fun w Z1 Z2 h => (copy_any w Z1 b m A h.e h.l1 i).mono ?_, fun w Z1 Z2 h => (rcopy_any w Z2 rb m A N h.r h.l2 hN (by omega) i hib).mono ?_⟩
    · rintro e w' ⟨he, _, hq, hF⟩
      exact ⟨he, h.qe hF (hq hi)⟩
    · rintro e w' ⟨he, _, hq, hF⟩
      exact ⟨he, h.qr hF (hq hi)⟩
theorem duo_send (fr tt : Int) (zs : List Int) (hby : ∀ z ∈ zs, 0 ≤ z ∧ z < 256) (hN : (N + 1) * 48 ≤ 140737488355328) (Z : Nat → Prop) (xb b rb : Nat) (m : Int) (A : List FA) (hA2 : A.length ≤ 256) : ∃ (x : Int) (A' : List FA),
    (∀ w Z1 Z2 p c, Src w p zs.length c 1 (zs.map (.int .u8)) → PrI w Z Z1 Z2 xb b rb m A A N → Calls Try.prog 10 #[.pointer (some ⟨b, 0, none⟩), .int .i64 fr, .int .i64 tt, .slice p zs.length c] w fun e w' => e = .returned (.int .i64 x) ∧ PQ w w' Z xb b rb m A' A N) ∧
    (∀ w Z1 Z2 (y : BY) S, y.zs = zs → Byts w S y.p y.n y.c y.f → PrI w Z Z1 Z2 xb b rb m A' A N → Calls Try.prog 33 #[.pointer (some ⟨rb, 0, none⟩), .int .i64 fr, .int .i64 tt, .slice y.p y.n y.c] w fun e w' => e = .returned (.int .i64 x) ∧ PQ w w' Z xb b rb m A' A' (N + 1)) := by
  by_cases hi : sendE m fr tt zs.length A.length = 0
  · refine ⟨sendE m fr tt zs.length A.length, A ++ [⟨fr, tt, zs⟩], fun w Z1 Z2 p c hs h => (send_any w Z1 b m A h.e h.l1 fr tt p c zs hs hby).mono ?_, fun w Z1 Z2 y S hz hy h => (rsend_any w Z2 rb m A N h.r h.l2 hN (by omega) fr tt y S hy).mono ?_⟩
    · rintro e w' ⟨he, hq, _, hF⟩
      exact ⟨he, h.qe hF (hq hi)⟩
    · subst hz
      rintro e w' ⟨he, hq, _, hF⟩
      exact ⟨he, h.qr hF (hq hi)⟩
  · refine ⟨sendE m fr tt zs.length A.length, A, fun w Z1 Z2 p c hs h => (send_any w Z1 b m A h.e h.l1 fr tt p c zs hs hby).mono ?_, fun w Z1 Z2 y S hz hy h => (rsend_any w Z2 rb m A N h.r h.l2 hN (by omega) fr tt y S hy).mono ?_⟩
    · rintro e w' ⟨he, _, hq, hF⟩
      exact ⟨he, h.qe hF (hq hi)⟩
    · subst hz
      rintro e w' ⟨he, _, hq, hF⟩
      exact ⟨he, h.qr hF (hq hi)⟩
/-- a flight handed out: bytes in a block of Z', or none -/
def Kp (w : World) (Z' : Nat → Prop) (p : Option Addr) (c : Nat) (zs : List Int) : Prop := (p = none ∧ c = 0 ∧ zs = []) ∨ ∃ d, p = some ⟨d, 0, none⟩ ∧ Z' d ∧ Box w d (bys zs) 5
theorem Kp.src {p : Option Addr} {c : Nat} {zs : List Int} (h : Kp w Z p c zs) : Src w p zs.length c 1 (zs.map (.int .u8)) := by
  rcases h with ⟨rfl, rfl, rfl⟩ | ⟨d, rfl, _, hb⟩
  · exact src_nil _
  · refine .inr ⟨_, rfl, by simp, fun j u hu => ?_⟩
    rw [Go.WideShapes.add_plain, hb.cell, ← hu]
    simp [bys]
theorem Kp.but {X : Nat → Prop} {p : Option Addr} {c : Nat} {zs : List Int} (h : Kp w Z p c zs) (hb : But X w w') (hx : ∀ d, Z d → X d → ∃ cs, Box w d cs 32) : Kp w' Z p c zs := by
  rcases h with h | ⟨d, rfl, hz, hd⟩
  · exact .inl h
  · exact .inr ⟨d, rfl, hz, hd.but hb (fun e => by
      obtain ⟨cs, h2⟩ := hx d hz e
      have := box_ty hd h2
      cases this)⟩
theorem Kp.fr {p : Option Addr} {c : Nat} {zs : List Int} (h : Kp w Z p c zs) (hb : Fr Z w w') : Kp w' Z p c zs := h.but hb fun _ hz hn => absurd hz hn
theorem Kp.fl {p : Option Addr} {c fb : Nat} {zs : List Int} {cs : Array Value} (h : Kp w Z p c zs) (hb : But (fun k => k = fb) w w') (hf : Box w fb cs 32) : Kp w' Z p c zs := h.but hb fun d _ hn => ⟨cs, by have e : d = fb := hn; rw [e]; exact hf⟩
theorem Kp.mono {Z' : Nat → Prop} {p : Option Addr} {c : Nat} {zs : List Int} (h : Kp w Z p c zs) (hz : ∀ k, Z k → Z' k) : Kp w Z' p c zs := by
  rcases h with h | ⟨d, rfl, hd, r⟩
  · exact .inl h
  · exact .inr ⟨d, rfl, hz d hd, r⟩
theorem Src.fl {q : Option Addr} {c fb m k : Nat} {zs : List Int} {x0 x1 : Int} {p : Option Addr} (h : Src w q zs.length c 1 (zs.map (.int .u8))) (hb : But (fun k => k = fb) w w') (hf : Box w fb #[.int .i64 x0, .int .i64 x1, .slice p m k] 32) : Src w' q zs.length c 1 (zs.map (.int .u8)) := by
  rcases h with h | ⟨ad, rfl, hl, h⟩
  · exact .inl h
  · refine .inr ⟨ad, rfl, hl, fun j u hu => ?_⟩
    have h1 := h j u hu
    obtain ⟨z, rfl⟩ : ∃ z, u = .int .u8 z := by
      rw [List.getElem?_map] at hu
      cases hz : zs[j]? with
      | none => rw [hz] at hu; cases hu
      | some z => rw [hz] at hu; exact ⟨z, by simpa using hu.symm⟩
    by_cases e : (ad.add j).block = fb
    · exfalso
      unfold World.cell? at h1
      rw [e, show w.heap[fb]? = _ from hf] at h1
      simp only at h1
      split at h1
      · cases h1
      · generalize (ad.add j).off = o at h1
        match o with
        | 0 => simp at h1
        | 1 => simp at h1
        | 2 => simp at h1
        | o + 3 => simp at h1
    · have hlt : (ad.add j).block < w.heap.size := by
        rcases Nat.lt_or_ge (ad.add j).block w.heap.size with h2 | h2
        · exact h2
        · unfold World.cell? at h1
          rw [Array.getElem?_eq_none h2] at h1
          cases h1
      exact (World.cell?_of_block (a := ad.add j) (hb.block _ hlt e)).trans h1
theorem Box.sets3 {b : Nat} {a0 a1 a2 : Value} {e : TypeId} (h : Box w b #[a0, a1, a2] e) (x0 x1 x2 : Value) : Box (((w.setCell ⟨b, 0, none⟩ x0).setCell ⟨b, 1, none⟩ x1).setCell ⟨b, 2, none⟩ x2) b #[x0, x1, x2] e := by
  have h0 : Box _ b #[x0, a1, a2] e := h.set 0 x0
  have h1 : Box _ b #[x0, x1, a2] e := h0.set 1 x1
  exact h1.set 2 x2
theorem But.sets3 (w : World) (b : Nat) (x0 x1 x2 : Value) : But (fun y => y = b) w (((w.setCell ⟨b, 0, none⟩ x0).setCell ⟨b, 1, none⟩ x1).setCell ⟨b, 2, none⟩ x2) := (((But.one w b).setAt 0 x0).setAt 1 x1).setAt 2 x2
theorem duo_deliver (i : Int) (hib : i ≤ 9223372036854775807) (hN : N * 48 ≤ 140737488355328) (xb b rb : Nat) (m : Int) (A : List FA) (hA2 : A.length ≤ 256) : ∃ (a : FA) (x : Bool) (A' : List FA),
    (∀ w Z Z1 Z2, PrI w Z Z1 Z2 xb b rb m A A N → Calls Try.prog 11 #[.pointer (some ⟨b, 0, none⟩), .int .i64 i] w fun e w' => ∃ p c Z', e = .returned (.tuple #[.agg #[.int .i64 a.fr, .int .i64 a.tt, .slice p a.zs.length c], .bool x]) ∧ Kp w' Z' p c a.zs ∧ (∀ k, Z k → Z' k) ∧ Fr Z w w' ∧ ∃ Z3 Z4, PrI w' Z' Z3 Z4 xb b rb m A' A N) ∧
    (∀ w Z Z1 Z2, PrI w Z Z1 Z2 xb b rb m A' A N → Calls Try.prog 35 #[.pointer (some ⟨rb, 0, none⟩), .int .i64 i] w fun e w' => ∃ p c, e = .returned (.tuple #[.agg #[.int .i64 a.fr, .int .i64 a.tt, .slice p a.zs.length c], .bool x]) ∧ Src w' p a.zs.length c 1 (a.zs.map (.int .u8)) ∧ PQ w w' Z xb b rb m A' A' N) := by
  by_cases hi : inA i A.length
  · obtain ⟨a, ha⟩ : ∃ a, A[i.toNat]? = some a := by
      have h1 : 0 ≤ i ∧ i < (A.length : Int) := hi
      exact ⟨_, List.getElem?_eq_getElem (by omega)⟩
    refine ⟨a, true, A.eraseIdx i.toNat, fun w Z Z1 Z2 h => (deliver_any w Z1 b m A h.e h.l1 i).mono ?_, fun w Z Z1 Z2 h => (rdeliver_any w Z2 rb m A N h.r h.l2 hN (by omega) i hib).mono ?_⟩
    · intro e w' hq
      obtain ⟨a', d, ha', he, hd, hbx, hE, hF⟩ := hq.2 hi
      rw [ha] at ha'
      cases ha'
      have hp := (h.ether hF (hE.z fun k _ hk => .inl hk)).1
      refine ⟨_, _, fun k => Z k ∨ k = d, he, .inr ⟨d, rfl, .inr rfl, hbx⟩, fun k hk => .inl hk, hF.less h.s1, _, _, ⟨hE, hp.r, hp.bx, .inl hp.x1, hp.x2, fun e => ?_, fun k hk => hk.imp (h.s1 k) id, fun k hk => ?_, fun k hk => (hp.cov k hk).imp .inl id, fun k hk => ?_, hp.l2⟩⟩
      · rcases e with e | e
        · exact hp.nx e
        · have := h.bx.lt
          omega
      · rcases hk with hk | hk
        · exact hp.s2 k hk
        · exact .inr ⟨by omega, by have := hbx.lt; omega⟩
      · rcases hk with hk | hk
        · exact hp.l1 k hk
        · have := hbx.lt; omega
    · intro e w' hq
      obtain ⟨a', q, c, ha', he, hs, hE, hF⟩ := hq.2 hi
      rw [ha] at ha'
      cases ha'
      exact ⟨q, c, he, hs, h.qr hF hE⟩
  · refine ⟨⟨0, 0, []⟩, false, A, fun w Z Z1 Z2 h => (deliver_any w Z1 b m A h.e h.l1 i).mono ?_, fun w Z Z1 Z2 h => (rdeliver_any w Z2 rb m A N h.r h.l2 hN (by omega) i hib).mono ?_⟩
    · intro e w' hq
      obtain ⟨he, hE, hF⟩ := hq.1 hi
      obtain ⟨Z3, Z4, h3, h4⟩ := h.qe hF hE
      exact ⟨none, 0, Z, he, .inl ⟨rfl, rfl, rfl⟩, fun k hk => hk, h4, Z3, Z4, h3⟩
    · intro e w' hq
      obtain ⟨he, hE, hF⟩ := hq.1 hi
      exact ⟨none, 0, he, src_nil _, h.qr hF hE⟩
end
end Go.Proofs.Ytoefbcagokgfcaa

namespace Go.Proofs.Ytoefbcagokgfcaa
open Go.RowKit
set_option maxRecDepth 8000
/-- two networks beside one another; nothing of K is theirs -/
def Tw (w : World) (K : Nat → Prop) (a b : Nat) (A B : List FA) : Prop := ∃ Za Zb : Nat → Prop, EtA w Za a 3 A ∧ EtA w Zb b 3 B ∧ (∀ k, K k → Za k) ∧ (∀ k, K k → Zb k) ∧ (∀ k, k < w.heap.size → Za k ∨ Zb k) ∧ (∀ k, Za k → k < w.heap.size) ∧ (∀ k, Zb k → k < w.heap.size)
/-- behind a call -/
def TwQ (w w' : World) (K : Nat → Prop) (a b : Nat) (A B : List FA) : Prop := Tw w' K a b A B ∧ Fr K w w'
section
variable {w w' : World} {K : Nat → Prop} {a b : Nat} {A B A' B' : List FA}
theorem Tw.swap (h : Tw w K a b A B) : Tw w K b a B A := by
  obtain ⟨Za, Zb, h1, h2, h3, h4, h5, h6, h7⟩ := h
  exact ⟨Zb, Za, h2, h1, h4, h3, fun k hk => (h5 k hk).symm, h7, h6⟩
theorem TwQ.swap (h : TwQ w w' K a b A B) : TwQ w w' K b a B A := ⟨h.1.swap, h.2⟩
theorem Tw.less {K' : Nat → Prop} (h : Tw w K a b A B) (hk : ∀ k, K' k → K k) : Tw w K' a b A B := by
  obtain ⟨Za, Zb, h1, h2, h3, h4, h5⟩ := h
  exact ⟨Za, Zb, h1, h2, fun k hh => h3 k (hk k hh), fun k hh => h4 k (hk k hh), h5⟩
theorem Tw.more (h : Tw w K a b A B) (hb : Below w.heap.size w w') : Tw w' (fun k => K k ∨ Bt w.heap.size w'.heap.size k) a b A B := by
  obtain ⟨Za, Zb, h1, h2, h3, h4, h5, h6, h7⟩ := h
  have hs := hb.size
  have low : ∀ {Z : Nat → Prop}, (∀ k, Z k → k < w.heap.size) → ∀ k, (Z k ∨ Bt w.heap.size w'.heap.size k) → k < w'.heap.size := fun hz k hk => by
    rcases hk with hk | hk
    · have := hz k hk; omega
    · exact hk.2
  have back : ∀ {Z : Nat → Prop} k, k < w.heap.size → (Z k ∨ Bt w.heap.size w'.heap.size k) → Z k := fun k hk hz => hz.resolve_right (fun e => by have := e.1; omega)
  refine ⟨fun k => Za k ∨ Bt w.heap.size w'.heap.size k, fun k => Zb k ∨ Bt w.heap.size w'.heap.size k, h1.below hb back, h2.below hb back, fun k hk => hk.imp (h3 k) id, fun k hk => hk.imp (h4 k) id, fun k hk => ?_, low h6, low h7⟩
  by_cases hkw : k < w.heap.size
  · exact (h5 k hkw).imp .inl .inl
  · exact .inl (.inr ⟨by omega, hk⟩)
theorem Tw.below (h : Tw w K a b A B) (hb : Below w.heap.size w w') : Tw w' K a b A B := (h.more hb).less fun _ hk => .inl hk
theorem Tw.drew (h : Tw w K a b A B) : Tw w.drew K a b A B := h.below (Below.refl _ _).drew
theorem Tw.len (h : Tw w K a b A B) : A.length ≤ 256 := by
  obtain ⟨Za, Zb, h1, _⟩ := h
  exact h1.len
theorem Tw.ok (h : Tw w K a b A B) : ∀ x ∈ A, x.Ok := by
  obtain ⟨Za, Zb, h1, _⟩ := h
  exact h1.ok
/-- a call of the first -/
theorem Tw.one {Q : (Nat → Prop) → Ending → World → Prop} {R : Ending → Prop} {f : Nat} {args : Array Value} (h : Tw w K a b A B) (hC : ∀ Z, EtA w Z a 3 A → (∀ k, Z k → k < w.heap.size) → Calls Try.prog f args w (Q Z)) (hQ : ∀ Z e w', Q Z e w' → R e ∧ EtA w' Z a 3 A' ∧ Fr Z w w') : Calls Try.prog f args w fun e w' => R e ∧ TwQ w w' K a b A' B := by
  obtain ⟨Za, Zb, h1, h2, h3, h4, h5, h6, h7⟩ := h
  refine (hC Za h1 h6).mono fun e w' hq => ?_
  obtain ⟨hr, hE, hF⟩ := hQ Za e w' hq
  have hs := hF.size
  refine ⟨hr, ⟨Za, fun k => Zb k ∨ Bt w.heap.size w'.heap.size k, hE, h2.but (hF.mono fun k hk hz => (h5 k hk).resolve_left hz) (fun k hk hz => hz.resolve_right (fun e => by have := e.1; omega)), h3, fun k hk => .inl (h4 k hk), fun k hk => ?_, fun k hk => Nat.lt_of_lt_of_le (h6 k hk) hs, fun k hk => ?_⟩, hF.less h3⟩
  · by_cases hkw : k < w.heap.size
    · exact (h5 k hkw).imp id .inl
    · exact .inr (.inr ⟨by omega, hk⟩)
  · rcases hk with hk | hk
    · exact Nat.lt_of_lt_of_le (h7 k hk) hs
    · exact hk.2
theorem tw_flip (h : Tw w K a b A B) (i bit : Int) (hb : bit ≤ 9223372036854775807) (hi : canF A i bit) {x : FA} (hx : A[i.toNat]? = some x) :
    Calls Try.prog 19 #[.pointer (some ⟨a, 0, none⟩), .int .i64 i, .int .i64 bit] w fun e w' => e = .returned (.bool true) ∧ TwQ w w' K a b (A.set i.toNat (x.flip bit.toNat)) B :=
  h.one (fun Z hE _ => flip_any w Z a 3 A hE i bit hb) fun _ e w' hq => by
    obtain ⟨he, ⟨y, hy, hE⟩, hF⟩ := hq.2 hi
    rw [hx] at hy
    cases hy
    exact ⟨he, hE, hF⟩
theorem tw_flip_no (h : Tw w K a b A B) (i bit : Int) (hb : bit ≤ 9223372036854775807) (hi : ¬ canF A i bit) :
    Calls Try.prog 19 #[.pointer (some ⟨a, 0, none⟩), .int .i64 i, .int .i64 bit] w fun e w' => e = .returned (.bool false) ∧ TwQ w w' K a b A B :=
  h.one (fun Z hE _ => flip_any w Z a 3 A hE i bit hb) fun _ _ _ hq => hq.1 hi
theorem tw_drop (h : Tw w K a b A B) (i : Int) (hi : inA i A.length) :
    Calls Try.prog 23 #[.pointer (some ⟨a, 0, none⟩), .int .i64 i] w fun e w' => e = .returned (.bool true) ∧ TwQ w w' K a b (A.eraseIdx i.toNat) B :=
  h.one (fun Z hE hZ => drop_any w Z a 3 A hE hZ i) fun _ _ _ hq => hq.2 hi
theorem tw_drop_no (h : Tw w K a b A B) (i : Int) (hi : ¬ inA i A.length) :
    Calls Try.prog 23 #[.pointer (some ⟨a, 0, none⟩), .int .i64 i] w fun e w' => e = .returned (.bool false) ∧ TwQ w w' K a b A B :=
  h.one (fun Z hE hZ => drop_any w Z a 3 A hE hZ i) fun _ _ _ hq => hq.1 hi
theorem tw_copy (h : Tw w K a b A B) (i : Int) (hi : copyE i A.length = 0) {x : FA} (hx : A[i.toNat]? = some x) :
    Calls Try.prog 15 #[.pointer (some ⟨a, 0, none⟩), .int .i64 i] w fun e w' => e = .returned (.int .i64 0) ∧ TwQ w w' K a b (A ++ [x]) B :=
  h.one (fun Z hE hZ => copy_any w Z a 3 A hE hZ i) fun _ e w' hq => by
    obtain ⟨he, hq, _, hF⟩ := hq
    obtain ⟨y, hy, hE⟩ := hq hi
    rw [hx] at hy
    cases hy
    rw [hi] at he
    exact ⟨he, hE, hF⟩
theorem tw_copy_no (h : Tw w K a b A B) (i : Int) {x : Int} (hi : copyE i A.length = x) (h0 : x ≠ 0) :
    Calls Try.prog 15 #[.pointer (some ⟨a, 0, none⟩), .int .i64 i] w fun e w' => e = .returned (.int .i64 x) ∧ TwQ w w' K a b A B :=
  h.one (fun Z hE hZ => copy_any w Z a 3 A hE hZ i) fun _ e w' hq => by
    obtain ⟨he, _, hq, hF⟩ := hq
    rw [hi] at he
    exact ⟨he, hq (by rw [hi]; exact h0), hF⟩
/-- a list that was answered, read whatever happens outside K -/
def FlsK (w : World) (K : Nat → Prop) (p : Option Addr) (A : List FA) : Prop := ∀ w', Fr K w w' → FlsR w' p A
theorem FlsK.now {p : Option Addr} (h : FlsK w K p A) : FlsR w p A := h w (Fr.refl _ _)
theorem FlsK.fr {p : Option Addr} (h : FlsK w K p A) (hF : Fr K w w') : FlsK w' K p A := fun w2 h2 => h w2 (hF.trans h2)
theorem FlsK.mono {K' : Nat → Prop} {p : Option Addr} (h : FlsK w K p A) (hk : ∀ k, K k → K' k) : FlsK w K' p A := fun w2 h2 => h w2 (h2.less hk)
theorem tw_list (h : Tw w K a b A B) : Calls Try.prog 13 #[.pointer (some ⟨a, 0, none⟩)] w fun e w' => ∃ g, e = .returned (.slice (some ⟨g, 0, none⟩) A.length A.length) ∧ FlsK w' (fun k => K k ∨ Bt w.heap.size w'.heap.size k) (some ⟨g, 0, none⟩) A ∧ Tw w' (fun k => K k ∨ Bt w.heap.size w'.heap.size k) a b A B ∧ Below w.heap.size w w' := by
  have ht := h
  obtain ⟨Za, Zb, h1, _⟩ := h
  refine (list_any w Za a 3 A h1).mono ?_
  rintro e w' ⟨g, U, rfl, hU, hI, hb⟩
  refine ⟨g, rfl, fun w2 h2 => ?_, ht.more hb, hb⟩
  have hI2 : LsI w2 w.heap.size g U := ⟨hI.bx.but h2 (fun h => h (.inr ⟨hI.new.1, hI.bx.lt⟩)), fun x hx => (hI.dat x hx).but h2 (fun h => h (.inr ⟨hI.new.2 x hx, (hI.dat x hx).lt⟩)), hI.new, hI.pw⟩
  exact hI2.fls hU
/-- parts of a list -/
theorem FlsR.drop {g o : Nat} (h : FlsR w (some ⟨g, o, none⟩) A) (n : Nat) : FlsR w (some ⟨g, o + n * 3, none⟩) (A.drop n) := by
  refine ⟨fun hn => ?_⟩
  have hl : n < A.length := by rw [List.length_drop] at hn; omega
  obtain ⟨b, o', hp, hb, hat⟩ := h.at_ (by omega)
  cases hp
  refine ⟨g, o + n * 3, rfl, hb, fun j x hx => ?_⟩
  rw [List.getElem?_drop] at hx
  have h1 := hat (n + j) x hx
  rw [show o + (n + j) * 3 = o + n * 3 + j * 3 by omega] at h1
  exact h1
theorem FlsR.take {p : Option Addr} (h : FlsR w p A) (n : Nat) : FlsR w p (A.take n) := by
  refine ⟨fun hn => ?_⟩
  have hl : 0 < A.length := by
    rw [List.length_take] at hn
    omega
  obtain ⟨b, o, hp, hb, hat⟩ := h.at_ hl
  refine ⟨b, o, hp, hb, fun j x hx => hat j x ?_⟩
  rw [List.getElem?_take] at hx
  split at hx
  · exact hx
  · cases hx
theorem FlsR.nil (w : World) (p : Option Addr) : FlsR w p [] := ⟨fun h => absurd h (by simp)⟩
end
end Go.Proofs.Ytoefbcagokgfcaa
