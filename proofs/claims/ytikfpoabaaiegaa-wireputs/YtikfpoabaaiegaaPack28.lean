import Derived.Test.YtikfpoabaaiegaaWpE
import Derived.Test.YtikfpoabaaiegaaPack26
import Derived.Test.YtikfpoabaaiegaaRkE
namespace Go.Proofs.Ytikfpoabaaiegaa
open Go.RowKit
set_option maxRecDepth 8000
/-- the reference's bag: its numbers, keys and values in rows of its own, apart from one another -/
def intC (N : List Int) : List Value := N.map (.int .i64)
def strC (K : List ByteArray) : List Value := K.map .string
def valC (V : List VT) : List Value := V.flatMap VT.cells
theorem intC_app (N M : List Int) : intC (N ++ M) = intC N ++ intC M := by simp [intC]
theorem strC_app (N M : List ByteArray) : strC (N ++ M) = strC N ++ strC M := by simp [strC]
theorem valC_app (N M : List VT) : valC (N ++ M) = valC N ++ valC M := by simp [valC]
structure BG (w0 : World) (rb : Nat) (w : World) (a b c : Value) (N : List Int) (K : List ByteArray) (V : List VT) : Prop where
  oN : w.ownsRow (rb + 1) 3 1 a N.length (intC N)
  oK : w.ownsRow (rb + 1) 9 1 b K.length (strC K)
  oV : w.ownsRow (rb + 1) 24 4 c V.length (valC V)
  ab : ∀ g, a.ownBlock = some g → b.ownBlock ≠ some g
  ac : ∀ g, a.ownBlock = some g → c.ownBlock ≠ some g
  bc : ∀ g, b.ownBlock = some g → c.ownBlock ≠ some g
  box : Box w rb #[a, b, c, .int .i64 0, .int .i64 0, .int .i64 0] 104
  below : Below rb w0 w
abbrev BGx (w0 : World) (rb : Nat) (w : World) (N : List Int) (K : List ByteArray) (V : List VT) : Prop := ∃ a b c, BG w0 rb w a b c N K V
theorem BG.kept {w0 : World} {rb : Nat} {w w2 : World} {a b c : Value} {N : List Int} {K : List ByteArray} {V : List VT} (h : BG w0 rb w a b c N K V) (hb : Below w.heap.size w w2) : BG w0 rb w2 a b c N K V :=
  ⟨ownsRow_keep h.oN (fun k _ hl => hb.block k hl), ownsRow_keep h.oK (fun k _ hl => hb.block k hl), ownsRow_keep h.oV (fun k _ hl => hb.block k hl), h.ab, h.ac, h.bc, h.box.below hb, h.below.trans (hb.mono (by have := h.box.lt; omega))⟩
theorem apart_near {w : World} {a a' b : Value} {base : Nat} {e : TypeId} {size n : Nat} {xs : List Value} (hn : Near w a a') (hb : w.ownsRow base e size b n xs) (h : ∀ g, a.ownBlock = some g → b.ownBlock ≠ some g) : ∀ g, a'.ownBlock = some g → b.ownBlock ≠ some g := by
  intro g hg hg6
  rcases hn with e | e
  · exact h g (e ▸ hg) hg6
  · have h1 := e g hg
    have h2 := (hb.lt g hg6).2
    omega
theorem apart_symm {a b : Value} (h : ∀ g, a.ownBlock = some g → b.ownBlock ≠ some g) : ∀ g, b.ownBlock = some g → a.ownBlock ≠ some g := fun g h1 h2 => h g h2 h1
theorem BG.nums {w0 : World} {rb : Nat} {w w3 : World} {a a' b c : Value} {N M : List Int} {K : List ByteArray} {V : List VT} (h : BG w0 rb w a b c N K V)
    (ho : w3.ownsRow (rb + 1) 3 1 a' (N.length + M.length) (intC N ++ intC M)) (hg : w.grownBy w3 a.ownBlock) (hn : Near w a a') : BG w0 rb (w3.setCell ⟨rb, 0, none⟩ a') a' b c (N ++ M) K V := by
  have hbl := h.box.lt
  have k1 : ∀ g, b.ownBlock = some g → g < w.heap.size → w3.heap[g]? = w.heap[g]? := fun g hg6 hl => hg.block g hl fun e => h.ab g e.symm hg6
  have k2 : ∀ g, c.ownBlock = some g → g < w.heap.size → w3.heap[g]? = w.heap[g]? := fun g hg6 hl => hg.block g hl fun e => h.ac g e.symm hg6
  have hx3 : Box w3 rb _ _ := h.box.kept (hg.block _ h.box.lt fun e => by have := (h.oN.lt _ e.symm).1; omega)
  have hx4 := hx3.set 0 a'
  simp at hx4
  have hb : But (fun x => x = rb) w3 (w3.setCell ⟨rb, 0, none⟩ a') := (But.one w3 rb).setAt 0 _
  have hs3 := hg.size
  have hK := ownsRow_keep h.oK k1
  have hV := ownsRow_keep h.oV k2
  refine ⟨?_, ownsRow_keep hK (fun k hk2 hl => hb.block k hl (by have := (hK.lt k hk2).1; omega)), ownsRow_keep hV (fun k hk2 hl => hb.block k hl (by have := (hV.lt k hk2).1; omega)), apart_near hn h.oK h.ab, apart_near hn h.oV h.ac, h.bc, hx4, (h.below.grown hg (by omega) fun k hk => (by have := (h.oN.lt k hk).1; omega)).trans (hb.below (by omega) (fun x hx => by omega))⟩
  rw [List.length_append, intC_app]
  exact ownsRow_keep ho (fun k hk2 hl => hb.block k hl (by have := (ho.lt k hk2).1; omega))
theorem BG.keys {w0 : World} {rb : Nat} {w w3 : World} {a b b' c : Value} {N : List Int} {K M : List ByteArray} {V : List VT} (h : BG w0 rb w a b c N K V)
    (ho : w3.ownsRow (rb + 1) 9 1 b' (K.length + M.length) (strC K ++ strC M)) (hg : w.grownBy w3 b.ownBlock) (hn : Near w b b') : BG w0 rb (w3.setCell ⟨rb, 1, none⟩ b') a b' c N (K ++ M) V := by
  have hbl := h.box.lt
  have k1 : ∀ g, a.ownBlock = some g → g < w.heap.size → w3.heap[g]? = w.heap[g]? := fun g hg6 hl => hg.block g hl fun e => h.ab g hg6 e.symm
  have k2 : ∀ g, c.ownBlock = some g → g < w.heap.size → w3.heap[g]? = w.heap[g]? := fun g hg6 hl => hg.block g hl fun e => h.bc g e.symm hg6
  have hx3 : Box w3 rb _ _ := h.box.kept (hg.block _ h.box.lt fun e => by have := (h.oK.lt _ e.symm).1; omega)
  have hx4 := hx3.set 1 b'
  simp at hx4
  have hb : But (fun x => x = rb) w3 (w3.setCell ⟨rb, 1, none⟩ b') := (But.one w3 rb).setAt 1 _
  have hs3 := hg.size
  have hN := ownsRow_keep h.oN k1
  have hV := ownsRow_keep h.oV k2
  refine ⟨ownsRow_keep hN (fun k hk2 hl => hb.block k hl (by have := (hN.lt k hk2).1; omega)), ?_, ownsRow_keep hV (fun k hk2 hl => hb.block k hl (by have := (hV.lt k hk2).1; omega)), apart_symm (apart_near hn h.oN (apart_symm h.ab)), h.ac, apart_near hn h.oV h.bc, hx4, (h.below.grown hg (by omega) fun k hk => (by have := (h.oK.lt k hk).1; omega)).trans (hb.below (by omega) (fun x hx => by omega))⟩
  rw [List.length_append, strC_app]
  exact ownsRow_keep ho (fun k hk2 hl => hb.block k hl (by have := (ho.lt k hk2).1; omega))
theorem BG.vals {w0 : World} {rb : Nat} {w w3 : World} {a b c c' : Value} {N : List Int} {K : List ByteArray} {V M : List VT} (h : BG w0 rb w a b c N K V)
    (ho : w3.ownsRow (rb + 1) 24 4 c' (V.length + M.length) (valC V ++ valC M)) (hg : w.grownBy w3 c.ownBlock) (hn : Near w c c') : BG w0 rb (w3.setCell ⟨rb, 2, none⟩ c') a b c' N K (V ++ M) := by
  have hbl := h.box.lt
  have k1 : ∀ g, a.ownBlock = some g → g < w.heap.size → w3.heap[g]? = w.heap[g]? := fun g hg6 hl => hg.block g hl fun e => h.ac g hg6 e.symm
  have k2 : ∀ g, b.ownBlock = some g → g < w.heap.size → w3.heap[g]? = w.heap[g]? := fun g hg6 hl => hg.block g hl fun e => h.bc g hg6 e.symm
  have hx3 : Box w3 rb _ _ := h.box.kept (hg.block _ h.box.lt fun e => by have := (h.oV.lt _ e.symm).1; omega)
  have hx4 := hx3.set 2 c'
  simp at hx4
  have hb : But (fun x => x = rb) w3 (w3.setCell ⟨rb, 2, none⟩ c') := (But.one w3 rb).setAt 2 _
  have hs3 := hg.size
  have hN := ownsRow_keep h.oN k1
  have hK := ownsRow_keep h.oK k2
  refine ⟨ownsRow_keep hN (fun k hk2 hl => hb.block k hl (by have := (hN.lt k hk2).1; omega)), ownsRow_keep hK (fun k hk2 hl => hb.block k hl (by have := (hK.lt k hk2).1; omega)), ?_, h.ab, apart_symm (apart_near hn h.oN (apart_symm h.ac)), apart_symm (apart_near hn h.oK (apart_symm h.bc)), hx4, (h.below.grown hg (by omega) fun k hk => (by have := (h.oV.lt k hk).1; omega)).trans (hb.below (by omega) (fun x hx => by omega))⟩
  rw [List.length_append, valC_app]
  exact ownsRow_keep ho (fun k hk2 hl => hb.block k hl (by have := (ho.lt k hk2).1; omega))
/-- behind an append, ahead of the store: the bag's own cells -/
theorem BG.boxN {w0 : World} {rb : Nat} {w w3 : World} {a b c : Value} {N : List Int} {K : List ByteArray} {V : List VT} (h : BG w0 rb w a b c N K V) (hg : w.grownBy w3 a.ownBlock) : Box w3 rb #[a, b, c, .int .i64 0, .int .i64 0, .int .i64 0] 104 :=
  h.box.kept (hg.block _ h.box.lt fun e => by have := (h.oN.lt _ e.symm).1; omega)
theorem BG.boxK {w0 : World} {rb : Nat} {w w3 : World} {a b c : Value} {N : List Int} {K : List ByteArray} {V : List VT} (h : BG w0 rb w a b c N K V) (hg : w.grownBy w3 b.ownBlock) : Box w3 rb #[a, b, c, .int .i64 0, .int .i64 0, .int .i64 0] 104 :=
  h.box.kept (hg.block _ h.box.lt fun e => by have := (h.oK.lt _ e.symm).1; omega)
theorem BG.boxV {w0 : World} {rb : Nat} {w w3 : World} {a b c : Value} {N : List Int} {K : List ByteArray} {V : List VT} (h : BG w0 rb w a b c N K V) (hg : w.grownBy w3 c.ownBlock) : Box w3 rb #[a, b, c, .int .i64 0, .int .i64 0, .int .i64 0] 104 :=
  h.box.kept (hg.block _ h.box.lt fun e => by have := (h.oV.lt _ e.symm).1; omega)
end Go.Proofs.Ytikfpoabaaiegaa

namespace Go.Proofs.Ytikfpoabaaiegaa
open Go.RowKit
set_option maxRecDepth 8000
set_option maxHeartbeats 1000000 in
theorem refGrp4_any (u : Nat) (hu : u < 34359738368) (w : World) : Calls Try.prog 93 #[.int .i64 u] w fun e w' => ∃ v', e = .returned v' ∧ OwnBy w.heap.size w' v' (grpB u) ∧ Below w.heap.size w w' := by
  obtain ⟨i0, Kd⟩ := kindB
  have hul : (grpB u).length ≤ 10 := grpB_len 9 u (Nat.lt_of_lt_of_le hu (by decide))
  have HU : Hid ((grpB u).length ≤ 10) := hul
  clear hul
  go_enter Try.func93, Try.ntmps93
  go_wp2_with fail
  go_loopw [0, 3] (fun x v wr => ∃ (ys : List Int) (m : Nat), x = .int .i64 (m : Int) ∧ m < 34359738368 ∧ LayB w.heap.size w ys v wr ∧ ys ++ grpB m = grpB u) (fun x _ _ => (intOf x).toNat)
  case atStart => exact ⟨[], u, rfl, hu, LayB.refl (World.ownsRow_nil _ _ _ _), rfl⟩
  case round =>
    obtain ⟨L, m, rfl, hm, hO, hg⟩ := hrel
    have hzl : L.length ≤ 10 := by
      have h1 := HU.out
      rw [← hg, List.length_append] at h1
      omega
    have hsw := hO.bel.size
    have HG := hid hg
    have HO := hid hO
    have hrow : wr.ownsRow w.heap.size 5 1 u3 L.length (L.map (Value.int .u8)) := hO.own
    clear hO hg
    by_cases hs : m < 128
    · have hs' : ¬ (127 : Int) < (m : Int) := by omega
      have e1 : (m : Int) % 256 = (m : Int) := by omega
      go_wp2_with (at_builtin; refine wpList_app rfl (.tmp 15) (.tmp 18) 47 5 i0 _ 1 1 Kd rfl w.heap.size u3 L.length _ rfl (hrow.alloc _) ⟨wr.heap.size, 0, none⟩ 1 1 [.int .u8 (m : Int)] rfl rfl (cell_one_new _ _ _) (one8 _) (by omega) (by omega) (by simp; omega) ?_)
      intro v3 w3 ho3 hg3 hn3
      have HF := hid (HO.out.one (by omega) ho3 hg3)
      clear ho3 hg3 hn3 hrow
      go_wp2
      go_ret
      refine ⟨_, rfl, ?_⟩
      have e : grpB u = L ++ [(m : Int)] := by rw [← HG.out, grpB_small hs]
      rw [e]
      exact ⟨HF.out.own, HF.out.bel⟩
    · have hs' : (127 : Int) < (m : Int) := by omega
      go_wp2_with (at_builtin; refine wpList_app rfl (.tmp 6) (.tmp 11) 47 5 i0 _ 1 1 Kd rfl w.heap.size u3 L.length _ rfl (hrow.alloc _) ⟨wr.heap.size, 0, none⟩ 1 1 [.int .u8 ((m : Int) % 128 + 128)] rfl rfl (cell_one_new _ _ _) (one8 _) (by omega) (by omega) (by simp; omega) ?_)
      intro v3 w3 ho3 hg3 hn3
      have HF := hid (HO.out.one (by omega) ho3 hg3)
      clear ho3 hg3 hn3 hrow
      go_wp2
      go_roundw
      case rel =>
        have e3 : ((m % 128 + 128 : Nat) : Int) = (m : Int) % 128 + 128 := by omega
        refine ⟨L ++ [(m : Int) % 128 + 128], m / 128, ?_, by omega, HF.out, ?_⟩
        · go_num
        · rw [List.append_assoc, List.singleton_append, ← e3, ← grpB_great hs]; exact HG.out
      case measure => simp [intOf]; omega
end Go.Proofs.Ytikfpoabaaiegaa

namespace Go.Proofs.Ytikfpoabaaiegaa
open Go.RowKit
set_option maxRecDepth 8000
/-- where the bracket that opens here closes -/
def mS : Nat → List Nat → Option Nat
  | _, [] => none
  | d, c :: cs => if c = 91 ∨ c = 60 then (mS (d + 1) cs).map (· + 1) else if c = 93 ∨ c = 62 then (if d = 0 then none else if d = 1 then some 0 else (mS (d - 1) cs).map (· + 1)) else (mS d cs).map (· + 1)
/-- what is left of a bag -/
structure Bg where
  N : List Int
  K : List ByteArray
  V : List VT
def repS (one : Bg → Option (List Int × Bg)) : Nat → Bg → Option (List Int × Bg)
  | 0, g => some ([], g)
  | n + 1, g => match one g with
    | none => none
    | some (B, g') => match repS one n g' with
      | none => none
      | some (C, g'') => some (B ++ C, g'')
def numB (x : Int) : Option (List Int) := if 0 ≤ x ∧ x < 34359738368 then some (grpB x.toNat) else none
def wordOf (x : Int) : Option (List Int) := if 0 ≤ x ∧ x < 4294967296 then some (wordB x.toNat) else none
/-- a piece of a form that is no list -/
def pieceS (c : Nat) (g : Bg) : Option (List Int × Bg) :=
  if 65 ≤ c ∧ c ≤ 90 then some ([(c : Int)], g)
  else if c = 107 then (match g.K with
    | [] => none
    | s :: K => if s.size ≤ 1000 then some (keyB s, ⟨g.N, K, g.V⟩) else none)
  else if c = 118 then (match g.V with
    | [] => none
    | v :: V => some (encB (cleanT v), ⟨g.N, g.K, V⟩))
  else match g.N with
    | [] => none
    | x :: N => ((if c = 119 then wordOf x else numB x).map fun B => (B, ⟨N, g.K, g.V⟩))
/-- what a form writes of a bag -/
def wS : Nat → List Nat → Bg → Option (List Int × Bg)
  | _, [], g => some ([], g)
  | 0, _ :: _, _ => none
  | F + 1, c :: cs, g =>
    if c = 91 ∨ c = 60 then
      match mS 0 (c :: cs) with
      | none => none
      | some m => if m < 2 then none else match g.N with
        | [] => none
        | x :: N => match numB x with
          | none => none
          | some H => match repS (wS F (((c :: cs).take m).drop 2)) x.toNat ⟨N, g.K, g.V⟩ with
            | none => none
            | some (B, g2) => match wS F ((c :: cs).drop (m + 1)) g2 with
              | none => none
              | some (C, g3) => some (H ++ (B ++ C), g3)
    else match pieceS c g with
      | none => none
      | some (B, g2) => match wS F cs g2 with
        | none => none
        | some (C, g3) => some (B ++ C, g3)
/-- a list's items: what they write of the bag of all of them -/
theorem repS_list {α : Type} (one : Bg → Option (List Int × Bg)) (enc : α → List Int) (nf : α → List Int) (kf : α → List ByteArray) (vf : α → List VT) (f : Nat → α)
    (N : List Int) (K : List ByteArray) (V : List VT) : ∀ (n i : Nat), (∀ j, i ≤ j → j < i + n → ∀ N K V, one ⟨nf (f j) ++ N, kf (f j) ++ K, vf (f j) ++ V⟩ = some (enc (f j), ⟨N, K, V⟩)) →
    repS one n ⟨((List.range' i n).flatMap fun j => nf (f j)) ++ N, ((List.range' i n).flatMap fun j => kf (f j)) ++ K, ((List.range' i n).flatMap fun j => vf (f j)) ++ V⟩ = some ((List.range' i n).flatMap (fun j => enc (f j)), ⟨N, K, V⟩) := by
  intro n
  induction n with
  | zero => intro i _; rfl
  | succ n ih =>
    intro i h
    have h0 := h i (Nat.le_refl _) (by omega)
    have h1 := ih (i + 1) (fun j hj hl => h j (by omega) (by omega))
    simp only [List.range'_succ, List.flatMap_cons, List.append_assoc]
    unfold repS
    rw [h0]
    simp only
    rw [h1]
theorem repS_range {α : Type} (one : Bg → Option (List Int × Bg)) (enc : α → List Int) (nf : α → List Int) (kf : α → List ByteArray) (vf : α → List VT) (f : Nat → α)
    (N : List Int) (K : List ByteArray) (V : List VT) (n : Nat) (h : ∀ j, j < n → ∀ N K V, one ⟨nf (f j) ++ N, kf (f j) ++ K, vf (f j) ++ V⟩ = some (enc (f j), ⟨N, K, V⟩)) :
    repS one n ⟨((List.range n).flatMap fun j => nf (f j)) ++ N, ((List.range n).flatMap fun j => kf (f j)) ++ K, ((List.range n).flatMap fun j => vf (f j)) ++ V⟩ = some ((List.range n).flatMap (fun j => enc (f j)), ⟨N, K, V⟩) := by
  have h1 := repS_list one enc nf kf vf f N K V n 0 (fun j _ hj => h j (by omega))
  rw [List.range_eq_range']
  exact h1
theorem flatN_none {β : Type} (n : Nat) : ((List.range n).flatMap fun _ => ([] : List β)) = [] := by
  induction n with
  | zero => rfl
  | succ n ih => rw [List.range_succ, List.flatMap_append, ih]; rfl
theorem numB_ok {x : Int} (h0 : 0 ≤ x) (h1 : x < 34359738368) : numB x = some (grpB x.toNat) := if_pos ⟨h0, h1⟩
theorem numB_nat {n : Nat} (h1 : n < 34359738368) : numB (n : Int) = some (grpB n) := by rw [numB_ok (by omega) (by omega)]; rfl
/-- one step of a form -/
theorem wS_piece {F c : Nat} {cs : List Nat} {g g2 : Bg} {B : List Int} (hc : ¬ (c = 91 ∨ c = 60)) (h : pieceS c g = some (B, g2)) : wS (F + 1) (c :: cs) g = match wS F cs g2 with
    | none => none
    | some (C, g3) => some (B ++ C, g3) := by
  rw [wS, if_neg hc, h]
theorem wS_list {F c m : Nat} {cs item rest : List Nat} {g2 : Bg} {x : Int} {N : List Int} {K : List ByteArray} {V : List VT} {H B : List Int} (hc : c = 91 ∨ c = 60) (hm : mS 0 (c :: cs) = some m) (hm2 : ¬ m < 2) (hi : ((c :: cs).take m).drop 2 = item) (hr : (c :: cs).drop (m + 1) = rest) (hx : numB x = some H) (hB : repS (wS F item) x.toNat ⟨N, K, V⟩ = some (B, g2)) : wS (F + 1) (c :: cs) ⟨x :: N, K, V⟩ = match wS F rest g2 with
    | none => none
    | some (C, g3) => some (H ++ (B ++ C), g3) := by
  rw [wS, if_pos hc, hm]
  simp only
  rw [if_neg hm2, hx]
  simp only
  rw [hi, hB]
  simp only
  rw [hr]
theorem wS_nil (F : Nat) (g : Bg) : wS F [] g = some ([], g) := by cases F <;> rfl
def fRec : List Nat := [107, 118, 91, 97, 104, 93]
def recN (r : RT) : List Int := (r.n : Int) :: (List.range r.n).map r.loop
theorem wS_hop (F : Nat) (x : Int) (h0 : 0 ≤ x) (h1 : x ≤ 9) (N : List Int) (K : List ByteArray) (V : List VT) : wS (F + 1) [104] ⟨x :: N, K, V⟩ = some (hopB x, ⟨N, K, V⟩) := by
  rw [wS_piece (by decide) (show pieceS 104 ⟨x :: N, K, V⟩ = some (grpB x.toNat, ⟨N, K, V⟩) by simp [pieceS, numB_ok h0 (show x < 34359738368 by omega)]), wS_nil]
  simp [hopB]
theorem wS_rec (F : Nat) (r : RT) (hk : r.key.size ≤ 1000) (hn : r.n ≤ 3) (hl : ∀ j, j < r.n → 0 ≤ r.loop j ∧ r.loop j ≤ 9) (rest : List Nat) (N : List Int) (K : List ByteArray) (V : List VT) :
    wS (F + 4) (fRec ++ rest) ⟨recN r ++ N, r.key :: K, r.v :: V⟩ = match wS (F + 1) rest ⟨N, K, V⟩ with
    | none => none
    | some (C, g3) => some (recB r ++ C, g3) := by
  have h0 := repS_range (wS (F + 1) [104]) hopB (fun x => [x]) (fun _ => []) (fun _ => []) r.loop N K V r.n (fun j hj N K V => wS_hop F _ (hl j hj).1 (hl j hj).2 N K V)
  rw [flatN_none, flatN_none] at h0
  rw [show ((List.range r.n).flatMap fun j => [r.loop j]) = (List.range r.n).map r.loop by simp [List.map_eq_flatMap]] at h0
  show wS (F + 3 + 1) (107 :: (118 :: (91 :: (97 :: (104 :: (93 :: rest)))))) ⟨(r.n : Int) :: ((List.range r.n).map r.loop ++ N), r.key :: K, r.v :: V⟩ = _
  rw [wS_piece (by decide) (show pieceS 107 ⟨(r.n : Int) :: ((List.range r.n).map r.loop ++ N), r.key :: K, r.v :: V⟩ = some (keyB r.key, ⟨(r.n : Int) :: ((List.range r.n).map r.loop ++ N), K, r.v :: V⟩) by simp [pieceS, hk])]
  rw [show F + 3 = F + 2 + 1 from rfl, wS_piece (by decide) (show pieceS 118 ⟨(r.n : Int) :: ((List.range r.n).map r.loop ++ N), K, r.v :: V⟩ = some (encB (cleanT r.v), ⟨(r.n : Int) :: ((List.range r.n).map r.loop ++ N), K, V⟩) by simp [pieceS])]
  rw [show F + 2 = F + 1 + 1 from rfl, wS_list (m := 3) (item := [104]) (rest := rest) (.inl rfl) rfl (by decide) rfl rfl (numB_nat (by omega)) (by simpa using h0)]
  cases wS (F + 1) rest ⟨N, K, V⟩ with
  | none => rfl
  | some p => simp [recB, listB, valB, List.append_assoc]
end Go.Proofs.Ytikfpoabaaiegaa

namespace Go.Proofs.Ytikfpoabaaiegaa
open Go.RowKit
set_option maxRecDepth 8000
/-- a text's bytes -/
def txL (s : ByteArray) : List Nat := s.data.toList.map UInt8.toNat
theorem txL_len (s : ByteArray) : (txL s).length = s.size := by simp [txL]
theorem txL_drop {s : ByteArray} {a : Nat} (h : a < s.size) : (txL s).drop a = (s[a]'h).toNat :: (txL s).drop (a + 1) := by
  rw [List.drop_eq_getElem_cons (by rw [txL_len]; exact h)]
  congr 1
  simp [txL]
  rfl
theorem txL_lt {s : ByteArray} {a : Nat} (h : a < s.size) : (s[a]'h).toNat < 256 := UInt8.toNat_lt _
set_option maxHeartbeats 2000000 in
theorem refMatch_any (f : ByteArray) (i m : Nat) (hi : i ≤ f.size) (hs : f.size ≤ 1000) (hm : mS 0 ((txL f).drop i) = some m) (w : World) : Calls Try.prog 92 #[.string f, .int .i64 (i : Int)] w fun x w' => x = .returned (.int .i64 ((i + m : Nat) : Int)) ∧ Below w.heap.size w w' := by
  go_enter Try.func92, Try.ntmps92
  go_wp2_with fail
  go_loopw [5, 6] (fun x y wr => ∃ d k n : Nat, x = .int .i64 (d : Int) ∧ y = .int .i64 (k : Int) ∧ k ≤ f.size ∧ d ≤ k ∧ mS d ((txL f).drop k) = some n ∧ k + n = i + m ∧ Below w.heap.size w wr) (fun _ y _ => f.size - (intOf y).toNat)
  case atStart => exact ⟨0, i, m, rfl, rfl, hi, Nat.zero_le _, hm, rfl, Below.refl _ _⟩
  case round =>
    obtain ⟨d, k, n, rfl, rfl, hk, hdk, hmk, hn, hbel⟩ := hrel
    have HB := hid hbel
    clear hbel hm
    by_cases hlt : k < f.size
    · have hlt' : (k : Int) < (f.size : Int) := by omega
      rw [txL_drop hlt] at hmk
      have hg : (((f[k]'hlt).toNat : Nat) : Int) = (((f[k]'hlt).toNat : Nat) : Int) := rfl
      obtain ⟨c, hc⟩ : ∃ c, (f[k]'hlt).toNat = c := ⟨_, rfl⟩
      rw [hc] at hmk
      have hg : ((f[k]'hlt).toNat : Int) = (c : Int) := by rw [hc]
      have hcl : c < 256 := by rw [← hc]; exact txL_lt hlt
      clear hc
      rcases (by omega : c = 91 ∨ c = 60 ∨ c = 93 ∨ c = 62 ∨ (c ≠ 91 ∧ c ≠ 60 ∧ c ≠ 93 ∧ c ≠ 62)) with rfl | rfl | rfl | rfl | ⟨n1, n2, n3, n4⟩
      · simp only [mS, true_or, if_true] at hmk
        obtain ⟨n2, e2, e3⟩ := Option.map_eq_some_iff.1 hmk
        have HM := hid (And.intro e2 e3)
        clear hmk e2 e3
        go_wp2
        go_roundw
        case rel => exact ⟨d + 1, k + 1, n2, by go_num, by go_num, by omega, by omega, HM.out.1, by have := HM.out.2; omega, HB.out⟩
        case measure => simp [intOf]; omega
      · simp only [mS, or_true, if_true] at hmk
        obtain ⟨n2, e2, e3⟩ := Option.map_eq_some_iff.1 hmk
        have HM := hid (And.intro e2 e3)
        clear hmk e2 e3
        go_wp2
        go_roundw
        case rel => exact ⟨d + 1, k + 1, n2, by go_num, by go_num, by omega, by omega, HM.out.1, by have := HM.out.2; omega, HB.out⟩
        case measure => simp [intOf]; omega
      · have hmk2 : (if d = 0 then none else if d = 1 then some 0 else (mS (d - 1) ((txL f).drop (k + 1))).map (· + 1)) = some n := by simpa [mS] using hmk
        clear hmk
        by_cases h0 : d = 0
        · rw [if_pos h0] at hmk2; cases hmk2
        rw [if_neg h0] at hmk2
        by_cases h1 : d = 1
        · rw [if_pos h1] at hmk2
          have hn0 : n = 0 := by simpa using hmk2.symm
          subst h1
          subst hn0
          clear hmk2
          go_wp2
          go_ret
          exact ⟨by rw [show (i : Int) + (m : Int) = (k : Int) by omega]; rfl, HB.out⟩
        · rw [if_neg h1] at hmk2
          obtain ⟨n2, e2, e3⟩ := Option.map_eq_some_iff.1 hmk2
          have HM := hid (And.intro e2 e3)
          have hd1 : ((d : Int) - 1 == 0) = false := by rw [beq_eq_false_iff_ne]; omega
          clear hmk2 e2 e3
          go_wp2
          go_roundw
          case rel => exact ⟨d - 1, k + 1, n2, by go_num, by go_num, by omega, by omega, HM.out.1, by have := HM.out.2; omega, HB.out⟩
          case measure => simp [intOf]; omega
      · have hmk2 : (if d = 0 then none else if d = 1 then some 0 else (mS (d - 1) ((txL f).drop (k + 1))).map (· + 1)) = some n := by simpa [mS] using hmk
        clear hmk
        by_cases h0 : d = 0
        · rw [if_pos h0] at hmk2; cases hmk2
        rw [if_neg h0] at hmk2
        by_cases h1 : d = 1
        · rw [if_pos h1] at hmk2
          have hn0 : n = 0 := by simpa using hmk2.symm
          subst h1
          subst hn0
          clear hmk2
          go_wp2
          go_ret
          exact ⟨by rw [show (i : Int) + (m : Int) = (k : Int) by omega]; rfl, HB.out⟩
        · rw [if_neg h1] at hmk2
          obtain ⟨n2, e2, e3⟩ := Option.map_eq_some_iff.1 hmk2
          have HM := hid (And.intro e2 e3)
          have hd1 : ((d : Int) - 1 == 0) = false := by rw [beq_eq_false_iff_ne]; omega
          clear hmk2 e2 e3
          go_wp2
          go_roundw
          case rel => exact ⟨d - 1, k + 1, n2, by go_num, by go_num, by omega, by omega, HM.out.1, by have := HM.out.2; omega, HB.out⟩
          case measure => simp [intOf]; omega
      · simp only [mS, n1, n2, n3, n4, or_self, if_false] at hmk
        obtain ⟨n5, e2, e3⟩ := Option.map_eq_some_iff.1 hmk
        have HM := hid (And.intro e2 e3)
        have b1 : ((c : Int) == 91) = false := by rw [beq_eq_false_iff_ne]; omega
        have b2 : ((c : Int) == 60) = false := by rw [beq_eq_false_iff_ne]; omega
        have b3 : ((c : Int) == 93) = false := by rw [beq_eq_false_iff_ne]; omega
        have b4 : ((c : Int) == 62) = false := by rw [beq_eq_false_iff_ne]; omega
        clear hmk e2 e3 n1 n2 n3 n4
        go_wp2
        go_roundw
        case rel => exact ⟨d, k + 1, n5, by go_num, by go_num, by omega, by omega, HM.out.1, by have := HM.out.2; omega, HB.out⟩
        case measure => simp [intOf]; omega
    · rw [List.drop_of_length_le (by rw [txL_len]; omega)] at hmk
      cases hmk
end Go.Proofs.Ytikfpoabaaiegaa

namespace Go.Proofs.Ytikfpoabaaiegaa
open Go.RowKit
set_option maxRecDepth 8000
/-- the bag while it is taken out of: its places alone change -/
structure BW (rb : Nat) (w1 w : World) (a b c : Value) (i j k : Nat) : Prop where
  box : Box w rb #[a, b, c, .int .i64 (i : Int), .int .i64 (j : Int), .int .i64 (k : Int)] 104
  but : But (fun x => x = rb) w1 w
theorem BW.start {w0 : World} {rb : Nat} {w : World} {a b c : Value} {N : List Int} {K : List ByteArray} {V : List VT} (h : BG w0 rb w a b c N K V) : BW rb w w a b c 0 0 0 := ⟨h.box, But.refl _ _⟩
theorem BW.kept {rb : Nat} {w1 w w2 : World} {a b c : Value} {i j k : Nat} (h : BW rb w1 w a b c i j k) (hb : Below w.heap.size w w2) : BW rb w1 w2 a b c i j k := ⟨h.box.below hb, h.but.trans (But.ofBelow hb)⟩
theorem BW.drew {rb : Nat} {w1 w : World} {a b c : Value} {i j k : Nat} (h : BW rb w1 w a b c i j k) : BW rb w1 w.drew a b c i j k := ⟨h.box, h.but.drew⟩
/-- a row of bytes behind the bag grows -/
theorem BW.grown {rb : Nat} {w1 w w2 : World} {a b c v : Value} {i j k : Nat} {zs : List Int} (h : BW rb w1 w a b c i j k) (hrb : rb < w1.heap.size) (hv : OwnBy w1.heap.size w v zs) (hg : w.grownBy w2 v.ownBlock) : BW rb w1 w2 a b c i j k :=
  ⟨h.box.kept (hg.block _ h.box.lt fun e => by have := (World.ownsRow.lt hv _ e.symm).1; omega), h.but.grown hg fun g hg2 hl => absurd (World.ownsRow.lt hv g hg2).1 (by omega)⟩
/-- bytes that lie behind stay while places change -/
theorem own_but {rb B : Nat} {w w2 : World} {v : Value} {zs : List Int} (hv : OwnBy B w v zs) (hrb : rb < B) (hb : But (fun x => x = rb) w w2) : OwnBy B w2 v zs :=
  ownsRow_keep hv fun g hg hl => hb.block g hl (by have := (World.ownsRow.lt hv g hg).1; omega)
theorem BG.numAt {w0 : World} {rb : Nat} {w : World} {a b c : Value} {N : List Int} {K : List ByteArray} {V : List VT} (h : BG w0 rb w a b c N K V) {i : Nat} {x : Int} (hi : N[i]? = some x) : ∃ g cap, a = .slice (some ⟨g, 0, none⟩) N.length cap ∧ w.cell? ⟨g, i, none⟩ = some (.int .i64 x) ∧ g ≠ rb ∧ g < w.heap.size ∧ i < N.length := by
  obtain ⟨hl, _⟩ := List.getElem?_eq_some_iff.1 hi
  obtain ⟨g, cap, hv⟩ := own_some h.oN (by omega)
  have hlt := h.oN.lt g (by rw [hv]; rfl)
  have hc := h.oN.cells (g := g) (by rw [hv]; rfl) i (.int .i64 x) (by simp [intC, hi])
  rw [Go.WideShapes.add_plain, Nat.zero_add] at hc
  exact ⟨g, cap, hv, hc, by omega, hlt.2, hl⟩
theorem BG.keyAt {w0 : World} {rb : Nat} {w : World} {a b c : Value} {N : List Int} {K : List ByteArray} {V : List VT} (h : BG w0 rb w a b c N K V) {i : Nat} {x : ByteArray} (hi : K[i]? = some x) : ∃ g cap, b = .slice (some ⟨g, 0, none⟩) K.length cap ∧ w.cell? ⟨g, i, none⟩ = some (.string x) ∧ g ≠ rb ∧ g < w.heap.size ∧ i < K.length := by
  obtain ⟨hl, _⟩ := List.getElem?_eq_some_iff.1 hi
  obtain ⟨g, cap, hv⟩ := own_some h.oK (by omega)
  have hlt := h.oK.lt g (by rw [hv]; rfl)
  have hc := h.oK.cells (g := g) (by rw [hv]; rfl) i (.string x) (by simp [strC, hi])
  rw [Go.WideShapes.add_plain, Nat.zero_add] at hc
  exact ⟨g, cap, hv, hc, by omega, hlt.2, hl⟩
theorem valC_get : ∀ (L : List VT) (i r : Nat) (h : i < L.length), r < 4 → (valC L)[i * 4 + r]? = (L[i]'h).cells[r]? := by
  intro L
  induction L with
  | nil => intro i r h; exact absurd h (by simp)
  | cons q L ih =>
    intro i r h hr
    have e : valC (q :: L) = q.cells ++ valC L := by simp [valC]
    rw [e]
    cases i with
    | zero =>
      rw [List.getElem?_append_left (by simp [VT.cells]; omega)]
      simp
    | succ i =>
      have hl : q.cells.length = 4 := rfl
      rw [List.getElem?_append_right (by rw [hl]; omega), hl]
      have h2 := ih i r (by simpa using h) hr
      rw [show (i + 1) * 4 + r - 4 = i * 4 + r by omega, h2]
      simp
theorem BG.valAt {w0 : World} {rb : Nat} {w : World} {a b c : Value} {N : List Int} {K : List ByteArray} {V : List VT} (h : BG w0 rb w a b c N K V) {i : Nat} {x : VT} (hi : V[i]? = some x) : ∃ g cap, c = .slice (some ⟨g, 0, none⟩) V.length cap ∧ (w.cell? ⟨g, i * 4, none⟩ = some (.int .i64 x.kind) ∧ w.cell? ⟨g, i * 4 + 1, none⟩ = some (.int .i64 x.int) ∧ w.cell? ⟨g, i * 4 + 2, none⟩ = some (.string x.text) ∧ w.cell? ⟨g, i * 4 + 3, none⟩ = some (.slice x.p x.n x.c)) ∧ g ≠ rb ∧ g < w.heap.size ∧ i < V.length := by
  obtain ⟨hl, rfl⟩ := List.getElem?_eq_some_iff.1 hi
  obtain ⟨g, cap, hv⟩ := own_some h.oV (by omega)
  have hlt := h.oV.lt g (by rw [hv]; rfl)
  have k : ∀ r u, r < 4 → (V[i]).cells[r]? = some u → w.cell? ⟨g, i * 4 + r, none⟩ = some u := by
    intro r u hr hu
    have := h.oV.cells (g := g) (by rw [hv]; rfl) (i * 4 + r) u (by rw [valC_get V i r hl hr]; exact hu)
    rw [Go.WideShapes.add_plain, Nat.zero_add] at this
    exact this
  exact ⟨g, cap, hv, ⟨k 0 _ (by omega) rfl, k 1 _ (by omega) rfl, k 2 _ (by omega) rfl, k 3 _ (by omega) rfl⟩, by omega, hlt.2, hl⟩
set_option maxHeartbeats 1000000 in
theorem refNum_any {w0 : World} {rb : Nat} {w1 w : World} {a b c : Value} {N : List Int} {K : List ByteArray} {V : List VT} {i j k : Nat} {x : Int} (h : BG w0 rb w1 a b c N K V) (hb : BW rb w1 w a b c i j k) (hN : N.length ≤ 1000000000) (hi : N[i]? = some x) :
    Calls Try.prog 68 #[.pointer (some ⟨rb, 0, none⟩)] w fun e w' => e = .returned (.int .i64 x) ∧ BW rb w1 w' a b c (i + 1) j k ∧ But (fun x => x = rb) w w' := by
  obtain ⟨g, cap, rfl, hc, hne, hgl, hl⟩ := h.numAt hi
  have hx := hb.box
  have x3 := hx.cell 3
  have f3 := hx.frozen 3
  have hx2 := hx.set 3 (.int .i64 ((i : Int) + 1))
  have y0 := hx2.cell 0
  have y3 := hx2.cell 3
  simp at x3 y0 y3
  have kp : ∀ o, (w.setCell ⟨rb, 3, none⟩ (.int .i64 ((i : Int) + 1))).cell? ⟨g, o, none⟩ = w1.cell? ⟨g, o, none⟩ := fun o => (World.cell?_of_block (a := ⟨g, o, none⟩) (Below.heap_setCell _ _ _ _ hne)).trans (World.cell?_of_block (a := ⟨g, o, none⟩) (hb.but.block g hgl hne))
  have hc3 := (kp i).trans hc
  have HF : Hid (BW rb w1 (w.setCell ⟨rb, 3, none⟩ (.int .i64 ((i : Int) + 1))) (.slice (some ⟨g, 0, none⟩) N.length cap) b c (i + 1) j k ∧ But (fun x => x = rb) w (w.setCell ⟨rb, 3, none⟩ (.int .i64 ((i : Int) + 1)))) := by
    have h4 : But (fun x => x = rb) w (w.setCell ⟨rb, 3, none⟩ (.int .i64 ((i : Int) + 1))) := (But.one w rb).setAt 3 _
    exact ⟨⟨by simpa using hx2, hb.but.trans h4⟩, h4⟩
  have hi1 : (i : Int) + 1 - 1 = (i : Int) := by omega
  have hlt' : (i : Int) < (N.length : Int) := by omega
  clear h hb hx hx2 kp hc
  go_enter Try.func68, Try.ntmps68
  go_wp2_with fail
  go_region
  all_goals
    go_wp2
    go_ret
    exact ⟨rfl, HF.out.1.drew, HF.out.2.drew⟩
set_option maxHeartbeats 1000000 in
theorem refKey_any {w0 : World} {rb : Nat} {w1 w : World} {a b c : Value} {N : List Int} {K : List ByteArray} {V : List VT} {i j k : Nat} {x : ByteArray} (h : BG w0 rb w1 a b c N K V) (hb : BW rb w1 w a b c i j k) (hN : K.length ≤ 1000000000) (hi : K[j]? = some x) :
    Calls Try.prog 71 #[.pointer (some ⟨rb, 0, none⟩)] w fun e w' => e = .returned (.string x) ∧ BW rb w1 w' a b c i (j + 1) k ∧ But (fun x => x = rb) w w' := by
  obtain ⟨g, cap, rfl, hc, hne, hgl, hl⟩ := h.keyAt hi
  have hx := hb.box
  have x3 := hx.cell 4
  have f3 := hx.frozen 4
  have hx2 := hx.set 4 (.int .i64 ((j : Int) + 1))
  have y0 := hx2.cell 1
  have y3 := hx2.cell 4
  simp at x3 y0 y3
  have kp : ∀ o, (w.setCell ⟨rb, 4, none⟩ (.int .i64 ((j : Int) + 1))).cell? ⟨g, o, none⟩ = w1.cell? ⟨g, o, none⟩ := fun o => (World.cell?_of_block (a := ⟨g, o, none⟩) (Below.heap_setCell _ _ _ _ hne)).trans (World.cell?_of_block (a := ⟨g, o, none⟩) (hb.but.block g hgl hne))
  have hc3 := (kp j).trans hc
  have HF : Hid (BW rb w1 (w.setCell ⟨rb, 4, none⟩ (.int .i64 ((j : Int) + 1))) a (.slice (some ⟨g, 0, none⟩) K.length cap) c i (j + 1) k ∧ But (fun x => x = rb) w (w.setCell ⟨rb, 4, none⟩ (.int .i64 ((j : Int) + 1)))) := by
    have h4 : But (fun x => x = rb) w (w.setCell ⟨rb, 4, none⟩ (.int .i64 ((j : Int) + 1))) := (But.one w rb).setAt 4 _
    exact ⟨⟨by simpa using hx2, hb.but.trans h4⟩, h4⟩
  have hi1 : (j : Int) + 1 - 1 = (j : Int) := by omega
  have hlt' : (j : Int) < (K.length : Int) := by omega
  clear h hb hx hx2 kp hc
  go_enter Try.func71, Try.ntmps71
  go_wp2_with fail
  go_region
  all_goals
    go_wp2
    go_ret
    exact ⟨rfl, HF.out.1.drew, HF.out.2.drew⟩
end Go.Proofs.Ytikfpoabaaiegaa
