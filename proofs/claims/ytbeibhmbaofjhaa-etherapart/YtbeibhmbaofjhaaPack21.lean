import Derived.Test.YtbeibhmbaofjhaaPack19
namespace Go.Proofs.Ytbeibhmbaofjhaa
open Go.RowKit
set_option maxRecDepth 8000
/-- a list of lists of bytes, where one item lies -/
theorem bys_at {W w : World} {S : Nat → Prop} {l : LT BY} (h : LT.In elBy W S l) (hb : Below W.heap.size W w) {j : Nat} (hj : j < l.n) : ∃ b o, l.p = some ⟨b, o, none⟩ ∧ b < w.heap.size ∧ w.cell? ⟨b, o + j, none⟩ = some (.slice (l.item j).p (l.item j).n (l.item j).c) ∧ Src w (l.item j).p (l.item j).zs.length (l.item j).c 1 ((l.item j).zs.map (.int .u8)) ∧ ∀ z ∈ (l.item j).zs, 0 ≤ z ∧ z < 256 := by
  obtain ⟨b, o, hp, _, hl, hat⟩ := h.at_ (by omega)
  have h1 := hat j hj 0 _ rfl
  refine ⟨b, o, hp, Nat.lt_of_lt_of_le hl hb.size, ?_, (BY.src (h.each j hj)).below hb, BY.by_ (h.each j hj)⟩
  rw [show o + j * elBy.size + 0 = o + j by show o + j * 1 + 0 = o + j; omega] at h1
  exact (World.cell?_of_block (a := ⟨b, o + j, none⟩) (hb.block b hl)).trans h1
theorem bys_at' {W w : World} {S : Nat → Prop} {l : LT BY} (h : LT.In elBy W S l) (hb : Below W.heap.size W w) {b o : Nat} (hp : l.p = some ⟨b, o, none⟩) {j : Nat} (hj : j < l.n) : b < w.heap.size ∧ w.cell? ⟨b, o + j, none⟩ = some (.slice (l.item j).p (l.item j).n (l.item j).c) ∧ Src w (l.item j).p (l.item j).zs.length (l.item j).c 1 ((l.item j).zs.map (.int .u8)) ∧ ∀ z ∈ (l.item j).zs, 0 ≤ z ∧ z < 256 := by
  obtain ⟨b', o', hp', r⟩ := bys_at h hb hj
  rw [hp] at hp'
  cases hp'
  exact r
/-- the packets from c on up to s, in flight -/
def inFl (l : LT BY) (c s : Nat) : List FA := (List.range (s - c)).map fun j => ⟨(((c + j) % 3 : Nat) : Int), (((c + j + 1) % 3 : Nat) : Int), (l.item (c + j)).zs⟩
theorem inFl_len (l : LT BY) (c s : Nat) : (inFl l c s).length = s - c := by simp [inFl]
theorem inFl_send (l : LT BY) {c s : Nat} (h : c ≤ s) : inFl l c (s + 1) = inFl l c s ++ [⟨((s % 3 : Nat) : Int), (((s + 1) % 3 : Nat) : Int), (l.item s).zs⟩] := by
  unfold inFl
  rw [show s + 1 - c = (s - c) + 1 by omega, List.range_succ, List.map_append]
  simp [show c + (s - c) = s by omega]
  omega
theorem inFl_take (l : LT BY) {c s : Nat} (h : c < s) : (inFl l c s)[0]? = some ⟨((c % 3 : Nat) : Int), (((c + 1) % 3 : Nat) : Int), (l.item c).zs⟩ ∧ (inFl l c s).eraseIdx 0 = inFl l (c + 1) s := by
  have e : inFl l c s = ⟨((c % 3 : Nat) : Int), (((c + 1) % 3 : Nat) : Int), (l.item c).zs⟩ :: inFl l (c + 1) s := by
    unfold inFl
    rw [show s - c = (s - (c + 1)) + 1 by omega, List.range_succ_eq_map]
    simp only [List.map_cons, List.map_map, Nat.add_zero]
    congr 1
    apply List.map_congr_left
    intro j _
    simp only [Function.comp, Nat.succ_eq_add_one]
    rw [show c + (j + 1) = c + 1 + j by omega]
  rw [e]
  exact ⟨rfl, rfl⟩
theorem tmod3 (n : Nat) : (n : Int).tmod 3 = ((n % 3 : Nat) : Int) := by
  rw [Int.tmod_eq_emod_of_nonneg (by omega)]; omega
end Go.Proofs.Ytbeibhmbaofjhaa

namespace Go.Proofs.Ytbeibhmbaofjhaa
open Go.RowKit
set_option maxRecDepth 8000
theorem Src.at_ {w : World} {p : Option Addr} {c : Nat} {zs : List Int} (h : Src w p zs.length c 1 (zs.map (.int .u8))) (hn : 0 < zs.length) : ∃ b o, p = some ⟨b, o, none⟩ ∧ b < w.heap.size ∧ ∀ j z, zs[j]? = some z → w.cell? ⟨b, o + j, none⟩ = some (.int .u8 z) := by
  rcases h with ⟨_, h0, _, _⟩ | ⟨ad, h1, h2, h3⟩
  · omega
  · obtain ⟨b, o, spot⟩ := ad
    obtain ⟨z, hz⟩ : ∃ z, zs[0]? = some z := ⟨_, List.getElem?_eq_getElem hn⟩
    have f0 := h3 0 (.int .u8 z) (by simp [hz])
    have hspot : spot = none := by simpa [Addr.add] using World.cell?_spot f0
    subst hspot
    have hb := block_lt_of_cell f0
    refine ⟨b, o, h1, by simpa [Addr.add] using hb, fun j z hz => ?_⟩
    have := h3 j (.int .u8 z) (by simp [hz])
    rw [Go.WideShapes.add_plain] at this
    exact this
/-- how many bits are set, of the first f -/
def popc : Nat → Nat → Nat
  | 0, _ => 0
  | f + 1, x => x % 2 + popc f (x / 2)
theorem popc_zero : ∀ f, popc f 0 = 0
  | 0 => rfl
  | f + 1 => by rw [popc]; simp [popc_zero f]
theorem popc_le : ∀ f x, popc f x ≤ f
  | 0, _ => Nat.le_refl _
  | f + 1, x => by rw [popc]; have := popc_le f (x / 2); omega
/-- in how many bits two lists differ -/
def dist : List Int → List Int → Nat
  | x :: r, y :: s => popc 8 (x.toNat ^^^ y.toNat) + dist r s
  | _, _ => 0
theorem dist_le : ∀ a b, dist a b ≤ 8 * a.length
  | [], _ => by simp [dist]
  | _ :: _, [] => by simp [dist]
  | x :: r, y :: s => by
    have h1 := popc_le 8 (x.toNat ^^^ y.toNat)
    have h2 := dist_le r s
    simp only [dist, List.length_cons]
    omega
theorem dist_snoc : ∀ (a b : List Int) (x y : Int), a.length = b.length → dist (a ++ [x]) (b ++ [y]) = dist a b + popc 8 (x.toNat ^^^ y.toNat)
  | [], [], x, y, _ => by simp [dist]
  | [], _ :: _, _, _, h => by simp at h
  | _ :: _, [], _, _, h => by simp at h
  | x0 :: r, y0 :: s, x, y, h => by
    have := dist_snoc r s x y (by simpa using h)
    simp only [List.cons_append, dist, this]
    omega
end Go.Proofs.Ytbeibhmbaofjhaa

namespace Go.Proofs.Ytbeibhmbaofjhaa
open Go.RowKit
set_option maxRecDepth 8000
theorem popc_bit : ∀ k, k < 8 → popc 8 (1 <<< k) = 1 := by decide
theorem popc_flip8 : ∀ y : Fin 256, ∀ k : Fin 8, popc 8 (y.val ^^^ (1 <<< k.val)) ≤ popc 8 y.val + 1 := by decide +kernel
theorem popc_flip {y k : Nat} (hy : y < 256) (hk : k < 8) : popc 8 (y ^^^ (1 <<< k)) ≤ popc 8 y + 1 := popc_flip8 ⟨y, hy⟩ ⟨k, hk⟩
theorem flipB_nat (z : Int) (k : Nat) : (flipB z k).toNat = z.toNat ^^^ (1 <<< k) := by unfold flipB; simp
theorem flipB_flipB {z : Int} (k : Nat) (h : 0 ≤ z) : flipB (flipB z k) k = z := by
  unfold flipB
  simp [Nat.xor_assoc]
  omega
theorem dist_self : ∀ a, dist a a = 0
  | [] => rfl
  | x :: r => by simp [dist, dist_self r, popc_zero]
theorem dist_set : ∀ (s zs : List Int) (j k : Nat), s.length = zs.length → (∀ z ∈ s, 0 ≤ z ∧ z < 256) → (∀ z ∈ zs, 0 ≤ z ∧ z < 256) → k < 8 → dist s (zs.set j (flipB (zs.getD j 0) k)) ≤ dist s zs + 1
  | [], zs, j, k, _, _, _, _ => by simp [dist]
  | x :: s, [], j, k, h, _, _, _ => by simp at h
  | x :: s, y :: zs, 0, k, _, hs, hz, hk => by
    simp only [List.set_cons_zero, dist, List.getD_cons_zero, flipB_nat]
    have hx := hs x (by simp)
    have hy := hz y (by simp)
    have h1 : x.toNat ^^^ y.toNat < 256 := Nat.xor_lt_two_pow (n := 8) (by omega) (by omega)
    have h2 := popc_flip h1 hk
    rw [← Nat.xor_assoc]
    omega
  | x :: s, y :: zs, j + 1, k, h, hs, hz, hk => by
    simp only [List.set_cons_succ, dist, List.getD_cons_succ]
    have := dist_set s zs j k (by simpa using h) (fun z hz' => hs z (by simp [hz'])) (fun z hz' => hz z (by simp [hz'])) hk
    omega
theorem dist_flip {s zs : List Int} (bit : Nat) (h : s.length = zs.length) (hs : ∀ z ∈ s, 0 ≤ z ∧ z < 256) (hz : ∀ z ∈ zs, 0 ≤ z ∧ z < 256) : dist s (flipZ zs bit) ≤ dist s zs + 1 := dist_set s zs _ _ h hs hz (Nat.mod_lt _ (by omega))
theorem dist_set1 : ∀ (zs : List Int) (j k : Nat), j < zs.length → k < 8 → dist (zs.set j (flipB (zs.getD j 0) k)) zs = 1
  | [], j, k, h, _ => by simp at h
  | y :: zs, 0, k, _, hk => by
    simp only [List.set_cons_zero, dist, List.getD_cons_zero, flipB_nat, dist_self]
    rw [Nat.xor_comm, ← Nat.xor_assoc, Nat.xor_self, Nat.zero_xor, popc_bit k hk]
  | y :: zs, j + 1, k, h, hk => by
    simp only [List.set_cons_succ, dist, List.getD_cons_succ]
    rw [dist_set1 zs j k (by simpa using h) hk]
    simp [popc_zero]
theorem dist_flip1 {zs : List Int} {bit : Nat} (h : bit / 8 < zs.length) : dist (flipZ zs bit) zs = 1 := dist_set1 zs _ _ h (Nat.mod_lt _ (by omega))
theorem flipZ_len (zs : List Int) (bit : Nat) : (flipZ zs bit).length = zs.length := by simp [flipZ]
theorem flipZ_flipZ {zs : List Int} {bit : Nat} (h : bit / 8 < zs.length) (hz : ∀ z ∈ zs, 0 ≤ z ∧ z < 256) : flipZ (flipZ zs bit) bit = zs := by
  have hm : 0 ≤ zs[bit / 8] := (hz _ (List.getElem_mem h)).1
  unfold flipZ
  rw [List.set_set, List.getD_eq_getElem?_getD, List.getElem?_set_self h]
  simp only [Option.getD_some]
  rw [List.getD_eq_getElem?_getD, List.getElem?_eq_getElem h]
  simp only [Option.getD_some]
  rw [flipB_flipB _ hm]
  exact List.set_getElem_self h
/-- what is known of a network's packets -/
structure FA.Ok (a : FA) : Prop where
  len : a.zs.length ≤ 32776
  by_ : ∀ z ∈ a.zs, 0 ≤ z ∧ z < 256
theorem EtA.ok {w : World} {Z : Nat → Prop} {b : Nat} {m : Int} {A : List FA} (h : EtA w Z b m A) : ∀ a ∈ A, a.Ok := by
  obtain ⟨v, L, hI, rfl⟩ := h
  intro a ha
  obtain ⟨x, hx, rfl⟩ := List.mem_map.1 ha
  exact ⟨hI.sz x hx, hI.by_ x hx⟩
theorem EtA.len {w : World} {Z : Nat → Prop} {b : Nat} {m : Int} {A : List FA} (h : EtA w Z b m A) : A.length ≤ 256 := by
  obtain ⟨v, L, hI, rfl⟩ := h
  simpa using hI.len
/-- such a packet was sent, but for as many bits as were flipped -/
structure Like (fl : Nat) (s x : FA) : Prop where
  fr : s.fr = x.fr
  tt : s.tt = x.tt
  len : s.zs.length = x.zs.length
  d : dist s.zs x.zs ≤ fl
/-- what the book knows -/
structure Hon (S A : List FA) (cp dl dr fl : Nat) : Prop where
  sum : S.length + cp = dl + dr + A.length
  ok : ∀ s ∈ S, s.Ok
  kn : ∀ x ∈ A, ∃ s ∈ S, Like fl s x
theorem Hon.send {S A : List FA} {cp dl dr fl : Nat} (h : Hon S A cp dl dr fl) {a : FA} (ha : a.Ok) : Hon (S ++ [a]) (A ++ [a]) cp dl dr fl := by
  refine ⟨by simp; have := h.sum; omega, fun s hs => ?_, fun x hx => ?_⟩
  · rcases List.mem_append.1 hs with hs | hs
    · exact h.ok s hs
    · obtain rfl : s = a := by simpa using hs
      exact ha
  · rcases List.mem_append.1 hx with hx | hx
    · obtain ⟨s, hs, hl⟩ := h.kn x hx
      exact ⟨s, by simp [hs], hl⟩
    · obtain rfl : x = a := by simpa using hx
      exact ⟨x, by simp, rfl, rfl, rfl, by rw [dist_self]; omega⟩
theorem Hon.out {S A : List FA} {cp dl dr fl i : Nat} (h : Hon S A cp dl dr fl) (hi : i < A.length) : Hon S (A.eraseIdx i) cp (dl + 1) dr fl ∧ Hon S (A.eraseIdx i) cp dl (dr + 1) fl := by
  have hl : (A.eraseIdx i).length = A.length - 1 := List.length_eraseIdx_of_lt hi
  have hk : ∀ x ∈ A.eraseIdx i, ∃ s ∈ S, Like fl s x := fun x hx => h.kn x ((List.eraseIdx_sublist A i).subset hx)
  have := h.sum
  exact ⟨⟨by omega, h.ok, hk⟩, ⟨by omega, h.ok, hk⟩⟩
theorem Hon.copy {S A : List FA} {cp dl dr fl i : Nat} (h : Hon S A cp dl dr fl) {a : FA} (ha : A[i]? = some a) : Hon S (A ++ [a]) (cp + 1) dl dr fl := by
  refine ⟨by simp; have := h.sum; omega, h.ok, fun x hx => ?_⟩
  rcases List.mem_append.1 hx with hx | hx
  · exact h.kn x hx
  · obtain rfl : x = a := by simpa using hx
    exact h.kn x (List.mem_of_getElem? ha)
theorem Hon.flip {S A : List FA} {cp dl dr fl i : Nat} (h : Hon S A cp dl dr fl) (hA : ∀ a ∈ A, a.Ok) {a : FA} (ha : A[i]? = some a) (bit : Nat) : Hon S (A.set i (a.flip bit)) cp dl dr (fl + 1) := by
  refine ⟨by rw [List.length_set]; exact h.sum, h.ok, fun x hx => ?_⟩
  rcases List.mem_or_eq_of_mem_set hx with hx | rfl
  · obtain ⟨s, hs, hl⟩ := h.kn x hx
    exact ⟨s, hs, hl.fr, hl.tt, hl.len, Nat.le_succ_of_le hl.d⟩
  · obtain ⟨s, hs, hl⟩ := h.kn a (List.mem_of_getElem? ha)
    refine ⟨s, hs, hl.fr, hl.tt, ?_, ?_⟩
    · show s.zs.length = (flipZ a.zs bit).length
      rw [flipZ_len]; exact hl.len
    · show dist s.zs (flipZ a.zs bit) ≤ fl + 1
      have := dist_flip bit hl.len (h.ok s hs).by_ (hA a (List.mem_of_getElem? ha)).by_
      have := hl.d
      omega
end Go.Proofs.Ytbeibhmbaofjhaa
