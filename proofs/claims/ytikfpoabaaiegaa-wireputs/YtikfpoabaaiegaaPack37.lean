import Derived.Test.YtikfpoabaaiegaaBgX
import Derived.Test.YtikfpoabaaiegaaBgZ
import Derived.Test.YtikfpoabaaiegaaBgC
import Derived.Test.YtikfpoabaaiegaaPack36
import Derived.Test.YtikfpoabaaiegaaStepC
import Derived.Orders
namespace Go.Proofs.Ytikfpoabaaiegaa
open Go.RowKit
set_option maxRecDepth 8000
theorem BG.start (w : World) : BG w w.heap.size (w.alloc (.cells #[.slice none 0 0, .slice none 0 0, .slice none 0 0, .int .i64 0, .int .i64 0, .int .i64 0] 104)) (.slice none 0 0) (.slice none 0 0) (.slice none 0 0) [] [] [] :=
  ⟨World.ownsRow_nil _ _ _ _, World.ownsRow_nil _ _ _ _, World.ownsRow_nil _ _ _ _, fun g h => (by cases h), fun g h => (by cases h), fun g h => (by cases h), Box.new _ _ _, (Below.refl _ _).alloc (Nat.le_refl _) _⟩
/-- the bag is written out -/
theorem refWritten {w0 : World} {rb : Nat} {w1 : World} {N : List Int} {K : List ByteArray} {V : List VT} {S : Nat → Prop} (h : BGx w0 rb w1 N K V) (_hr : rb ≤ w0.heap.size) (hV : ∀ x ∈ V, VT.In w0 S x) (hS : ∀ q, S q → q < rb)
    (hN : N.length ≤ 1000000000) (hK : K.length ≤ 1000000000) (hVl : V.length ≤ 1000000000) (F : Nat) (f : ByteArray) (hf : f.size ≤ 1000) (B : List Int) (g3 : Bg) (hw : wS F (txL f) ⟨N, K, V⟩ = some (B, g3)) (hB : B.length ≤ 100000000) :
    Calls Try.prog 46 #[.pointer (some ⟨rb, 0, none⟩), .slice none 0 0, .string f] w1 fun e w' => ∃ v', e = .returned v' ∧ OwnBy rb w' v' B ∧ Below rb w0 w' := by
  obtain ⟨a, b, c, h⟩ := h
  have hrb := h.box.lt
  have h1 := refWrite_any (S := S) h (fun x hx => (hV x hx).kept h.below.size (fun b hb _ => h.below.block b (hS b hb))) (fun q hq => by have := hS q hq; omega) hN hK hVl F f hf w1 0 0 0 (.slice none 0 0) [] B g3 (BW.start h) (World.ownsRow_nil _ _ _ _) (by simpa [lft] using hw) (by simpa using hB)
  refine h1.mono ?_
  rintro e w' ⟨v', i, j, k, rfl, ho, hb, _⟩
  exact ⟨v', rfl, (by simpa using ho : OwnBy w1.heap.size w' v' B).mono (by omega), h.below.trans (hb.but.below (by omega) (fun x hx => by omega))⟩
/-- the forms' texts -/
theorem wS_end {F : Nat} {cs : List Nat} {g g3 : Bg} {B C : List Int} (h : wS F (cs ++ []) g = some (B, g3)) (e : B = C) : wS F cs g = some (C, g3) := by rw [← e, ← h, List.append_nil]
theorem wS_recs (F : Nat) (r : RT) (hv : VR r) (N : List Int) (K : List ByteArray) (V : List VT) : wS (F + 4) fRec ⟨recN r ++ N, r.key :: K, r.v :: V⟩ = some (recB r, ⟨N, K, V⟩) := by
  have h := wS_rec F r (by have := hv.key; omega) hv.n hv.loop [] N K V
  rw [List.append_nil, wS_nil] at h
  simpa using h
/-- a row: where it stands, and a record -/
theorem wS_row (num : Nat) (hn : num ≤ 1073741824) (r : RT) (hv : VR r) : wS 8 [79, 110, 107, 118, 91, 97, 104, 93] ⟨(num : Int) :: recN r, [r.key], [r.v]⟩ = some (outB ⟨num, r⟩, ⟨[], [], []⟩) := by
  rw [show (8 : Nat) = 7 + 1 from rfl, wS_piece (by decide) (show pieceS 79 ⟨(num : Int) :: recN r, [r.key], [r.v]⟩ = some ([79], ⟨(num : Int) :: recN r, [r.key], [r.v]⟩) by simp [pieceS])]
  rw [show (7 : Nat) = 6 + 1 from rfl, wS_piece (by decide) (show pieceS 110 ⟨(num : Int) :: recN r, [r.key], [r.v]⟩ = some (grpB num, ⟨recN r, [r.key], [r.v]⟩) by simp [pieceS, numB_nat (show num < 34359738368 by omega)])]
  have h := wS_recs 2 r hv [] [] []
  rw [List.append_nil] at h
  rw [show wS 6 [107, 118, 91, 97, 104, 93] ⟨recN r, [r.key], [r.v]⟩ = _ from h]
  simp [outB]
/-- cells -/
theorem wS_v (F : Nat) (t : VT) (N : List Int) (K : List ByteArray) (V : List VT) : wS (F + 1) [118] ⟨N, K, t :: V⟩ = some (valB t, ⟨N, K, V⟩) := by
  rw [wS_piece (by decide) (show pieceS 118 ⟨N, K, t :: V⟩ = some (encB (cleanT t), ⟨N, K, V⟩) by simp [pieceS]), wS_nil]
  simp [valB]
theorem wS_cell (F : Nat) (t : VT) (hv : VC t) (N : List Int) (K : List ByteArray) (V : List VT) : wS (F + 3) [107, 91, 98, 118, 93] ⟨(t.n : Int) :: N, t.text :: K, vals t ++ V⟩ = some (cellB t, ⟨N, K, V⟩) := by
  have h0 := repS_range (wS (F + 1) [118]) valB (fun _ => []) (fun _ => []) (fun x => [x]) t.item N K V t.n (fun j hj N K V => wS_v F _ N K V)
  rw [flatN_none, flatN_none] at h0
  rw [show ((List.range t.n).flatMap fun j => [t.item j]) = vals t by simp [vals, List.map_eq_flatMap]] at h0
  rw [show F + 3 = F + 2 + 1 from rfl, wS_piece (by decide) (show pieceS 107 ⟨(t.n : Int) :: N, t.text :: K, vals t ++ V⟩ = some (keyB t.text, ⟨(t.n : Int) :: N, K, vals t ++ V⟩) by simp [pieceS, show t.text.size ≤ 1000 by have := hv.1; omega])]
  rw [show F + 2 = F + 1 + 1 from rfl, wS_list (m := 3) (item := [118]) (rest := []) (.inl rfl) rfl (by decide) rfl rfl (numB_nat (by have := hv.2; omega)) (by simpa using h0), wS_nil]
  simp [cellB, listB]
theorem wS_cells (F : Nat) (f : Nat → VT) (n : Nat) (hn : n ≤ 64) (hv : ∀ j, j < n → VC (f j)) (rest : List Nat) (N : List Int) (K : List ByteArray) (V : List VT) :
    wS (F + 4) ([60, 99, 107, 91, 98, 118, 93, 62] ++ rest) ⟨((n : Int) :: celN f n) ++ N, celK f n ++ K, celV f n ++ V⟩ = match wS (F + 3) rest ⟨N, K, V⟩ with
    | none => none
    | some (C, g3) => some (listB cellB n f ++ C, g3) := by
  have h0 := repS_range (wS (F + 3) [107, 91, 98, 118, 93]) cellB (fun t => [(t.n : Int)]) (fun t => [t.text]) (fun t => vals t) f N K V n (fun j hj N K V => wS_cell F _ (hv j hj) N K V)
  rw [show ((List.range n).flatMap fun j => [((f j).n : Int)]) = celN f n by simp [celN, List.map_eq_flatMap], show ((List.range n).flatMap fun j => [(f j).text]) = celK f n by simp [celK, List.map_eq_flatMap]] at h0
  show wS (F + 3 + 1) (60 :: (99 :: 107 :: 91 :: 98 :: 118 :: 93 :: 62 :: rest)) ⟨(n : Int) :: (celN f n ++ N), celK f n ++ K, celV f n ++ V⟩ = _
  rw [wS_list (m := 7) (item := [107, 91, 98, 118, 93]) (rest := rest) (.inr rfl) rfl (by decide) rfl rfl (numB_nat (by omega)) (by simpa [celV] using h0)]
  cases wS (F + 3) rest ⟨N, K, V⟩ with
  | none => rfl
  | some p => simp [listB, List.append_assoc]
theorem wS_state (s : ST) (hv : VS s) (rest : List Nat) (F : Nat) (N : List Int) (K : List ByteArray) (V : List VT) :
    wS (F + 5) ([110, 60, 99, 107, 91, 98, 118, 93, 62] ++ rest) ⟨[s.num] ++ ((s.n : Int) :: celN s.cell s.n) ++ N, celK s.cell s.n ++ K, celV s.cell s.n ++ V⟩ = match wS (F + 3) rest ⟨N, K, V⟩ with
    | none => none
    | some (C, g3) => some (stateB s ++ C, g3) := by
  have h0 := hv.num0
  have h1 := hv.num1
  show wS (F + 4 + 1) (110 :: ([60, 99, 107, 91, 98, 118, 93, 62] ++ rest)) ⟨s.num :: (((s.n : Int) :: celN s.cell s.n) ++ N), celK s.cell s.n ++ K, celV s.cell s.n ++ V⟩ = _
  rw [wS_piece (by decide) (show pieceS 110 ⟨s.num :: (((s.n : Int) :: celN s.cell s.n) ++ N), celK s.cell s.n ++ K, celV s.cell s.n ++ V⟩ = some (grpB s.num.toNat, ⟨((s.n : Int) :: celN s.cell s.n) ++ N, celK s.cell s.n ++ K, celV s.cell s.n ++ V⟩) by simp [pieceS, numB_ok h0 (show s.num < 34359738368 by omega)])]
  rw [wS_cells F s.cell s.n hv.n hv.cell rest N K V]
  cases wS (F + 3) rest ⟨N, K, V⟩ with
  | none => rfl
  | some p => simp [stateB, List.append_assoc]
end Go.Proofs.Ytikfpoabaaiegaa

namespace Go.Proofs.Ytikfpoabaaiegaa
open Go.RowKit
set_option maxRecDepth 8000
/-- a list of records -/
theorem wS_rows (F : Nat) (l : LT RT) (hl : VRs l) (rest : List Nat) (N : List Int) (K : List ByteArray) (V : List VT) :
    wS (F + 5) ([91, 108, 107, 118, 91, 97, 104, 93, 93] ++ rest) ⟨recsN l ++ N, rowK l l.n ++ K, rowV l l.n ++ V⟩ = match wS (F + 4) rest ⟨N, K, V⟩ with
    | none => none
    | some (C, g3) => some (recsB l ++ C, g3) := by
  have h0 := repS_range (wS (F + 4) fRec) recB recN (fun r => [r.key]) (fun r => [r.v]) l.item N K V l.n (fun j hj N K V => wS_recs F _ (hl.each j hj) N K V)
  rw [show ((List.range l.n).flatMap fun j => [(l.item j).key]) = rowK l l.n by simp [rowK, List.map_eq_flatMap], show ((List.range l.n).flatMap fun j => [(l.item j).v]) = rowV l l.n by simp [rowV, List.map_eq_flatMap]] at h0
  show wS (F + 4 + 1) (91 :: (108 :: 107 :: 118 :: 91 :: 97 :: 104 :: 93 :: 93 :: rest)) ⟨(l.n : Int) :: (rowN l l.n ++ N), rowK l l.n ++ K, rowV l l.n ++ V⟩ = _
  rw [wS_list (m := 8) (item := fRec) (rest := rest) (.inl rfl) rfl (by decide) rfl rfl (numB_nat (by have := hl.n; omega)) (by simpa [rowN] using h0)]
  cases wS (F + 4) rest ⟨N, K, V⟩ with
  | none => rfl
  | some p => simp [recsB, listB, List.append_assoc]
theorem wS_rows1 (F : Nat) (l : LT RT) (hl : VRs l) (N : List Int) (K : List ByteArray) (V : List VT) : wS (F + 5) [91, 108, 107, 118, 91, 97, 104, 93, 93] ⟨recsN l ++ N, rowK l l.n ++ K, rowV l l.n ++ V⟩ = some (recsB l, ⟨N, K, V⟩) := by
  have h := wS_rows F l hl [] N K V
  rw [wS_nil] at h
  simpa using h
def logsN (l : LT (LT RT)) : List Int := (l.n : Int) :: (List.range l.n).flatMap fun j => recsN (l.item j)
def logsK (l : LT (LT RT)) : List ByteArray := (List.range l.n).flatMap fun j => rowK (l.item j) (l.item j).n
def logsV (l : LT (LT RT)) : List VT := (List.range l.n).flatMap fun j => rowV (l.item j) (l.item j).n
/-- the logs, and what is pending -/
theorem wS_logs (F : Nat) (l : LT (LT RT)) (hn : l.n ≤ 4) (hl : ∀ j, j < l.n → VRs (l.item j)) (p : LT RT) (hp : VRs p) :
    wS (F + 8) [91, 112, 91, 108, 107, 118, 91, 97, 104, 93, 93, 93, 91, 108, 107, 118, 91, 97, 104, 93, 93] ⟨logsN l ++ recsN p, logsK l ++ rowK p p.n, logsV l ++ rowV p p.n⟩ = some (listB recsB l.n l.item ++ recsB p, ⟨[], [], []⟩) := by
  have h0 := repS_range (wS (F + 7) [91, 108, 107, 118, 91, 97, 104, 93, 93]) recsB recsN (fun r => rowK r r.n) (fun r => rowV r r.n) l.item (recsN p) (rowK p p.n) (rowV p p.n) l.n (fun j hj N K V => by have := wS_rows1 (F + 2) (l.item j) (hl j hj) N K V; rw [show F + 2 + 5 = F + 7 by omega] at this; exact this)
  have h1 := wS_rows1 (F + 2) p hp [] [] []
  rw [show F + 2 + 5 = F + 7 by omega] at h1
  simp only [List.append_nil] at h1
  have HR : repS (wS (F + 7) [91, 108, 107, 118, 91, 97, 104, 93, 93]) (l.n : Int).toNat ⟨((List.range l.n).flatMap fun j => recsN (l.item j)) ++ recsN p, logsK l ++ rowK p p.n, logsV l ++ rowV p p.n⟩ = some ((List.range l.n).flatMap (fun j => recsB (l.item j)), ⟨recsN p, rowK p p.n, rowV p p.n⟩) := by
    rw [Int.toNat_natCast]
    unfold logsK logsV
    exact h0
  have HN : logsN l ++ recsN p = (l.n : Int) :: (((List.range l.n).flatMap fun j => recsN (l.item j)) ++ recsN p) := rfl
  rw [HN, show F + 8 = F + 7 + 1 by omega]
  rw [wS_list (m := 11) (item := [91, 108, 107, 118, 91, 97, 104, 93, 93]) (rest := [91, 108, 107, 118, 91, 97, 104, 93, 93]) (N := ((List.range l.n).flatMap fun j => recsN (l.item j)) ++ recsN p) (.inl rfl) (by decide) (by decide) (by decide) (by decide) (numB_nat (by omega)) HR, h1]
  simp [listB, List.append_assoc]
end Go.Proofs.Ytikfpoabaaiegaa

namespace Go.Proofs.Ytikfpoabaaiegaa
open Go.RowKit
set_option maxRecDepth 8000
theorem wS_num {F c : Nat} {cs : List Nat} {u : Nat} (hu : u < 34359738368) (hc : c = 105 ∨ c = 116 ∨ c = 110) (N : List Int) (K : List ByteArray) (V : List VT) : wS (F + 1) (c :: cs) ⟨(u : Int) :: N, K, V⟩ = match wS F cs ⟨N, K, V⟩ with
    | none => none
    | some (C, g3) => some (grpB u ++ C, g3) :=
  wS_piece (by omega) (by rcases hc with rfl | rfl | rfl <;> simp [pieceS, numB_nat hu])
/-- a segment's front -/
theorem wS_front (F : Nat) (id task base : Nat) (h1 : id ≤ 9999) (h2 : task ≤ 11) (h3 : base ≤ 9999) (rest : List Nat) (N : List Int) (K : List ByteArray) (V : List VT) (C : List Int) (g3 : Bg) (h : wS F rest ⟨N, K, V⟩ = some (C, g3)) :
    wS (F + 4) (83 :: 105 :: 116 :: 105 :: rest) ⟨(id : Int) :: (task : Int) :: (base : Int) :: N, K, V⟩ = some (83 :: (grpB id ++ (grpB task ++ (grpB base ++ C))), g3) := by
  rw [show F + 4 = F + 3 + 1 by omega, wS_piece (by decide) (show pieceS 83 ⟨(id : Int) :: (task : Int) :: (base : Int) :: N, K, V⟩ = some ([83], ⟨(id : Int) :: (task : Int) :: (base : Int) :: N, K, V⟩) by simp [pieceS])]
  rw [show F + 3 = F + 2 + 1 by omega, wS_num (by omega) (by omega), show F + 2 = F + 1 + 1 by omega, wS_num (by omega) (by omega), wS_num (by omega) (by omega), h]
  simp
/-- a whole segment -/
theorem wS_full (id task : Nat) (h1 : id ≤ 9999) (h2 : task ≤ 11) (s : ST) (hs : VS s) (l : LT (LT RT)) (hn : l.n ≤ 4) (hl : ∀ j, j < l.n → VRs (l.item j)) (p : LT RT) (hp : VRs p) :
    wS 14 (83 :: 105 :: 116 :: 105 :: ([110, 60, 99, 107, 91, 98, 118, 93, 62] ++ [91, 112, 91, 108, 107, 118, 91, 97, 104, 93, 93, 93, 91, 108, 107, 118, 91, 97, 104, 93, 93])) ⟨(id : Int) :: (task : Int) :: ((0 : Nat) : Int) :: ([s.num] ++ ((s.n : Int) :: celN s.cell s.n) ++ (logsN l ++ recsN p)), celK s.cell s.n ++ (logsK l ++ rowK p p.n), celV s.cell s.n ++ (logsV l ++ rowV p p.n)⟩ = some (83 :: (grpB id ++ (grpB task ++ (grpB 0 ++ (stateB s ++ (listB recsB l.n l.item ++ recsB p))))), ⟨[], [], []⟩) := by
  have h0 := wS_logs 0 l hn hl p hp
  have h3 := wS_state s hs [91, 112, 91, 108, 107, 118, 91, 97, 104, 93, 93, 93, 91, 108, 107, 118, 91, 97, 104, 93, 93] 5 (logsN l ++ recsN p) (logsK l ++ rowK p p.n) (logsV l ++ rowV p p.n)
  rw [show (5 : Nat) + 3 = 0 + 8 by omega, h0] at h3
  exact wS_front 10 id task 0 h1 h2 (by omega) _ _ _ _ _ _ h3
/-- keys that are gone -/
theorem wS_k (F : Nat) (s : ByteArray) (hs : s.size ≤ 12) (N : List Int) (K : List ByteArray) (V : List VT) : wS (F + 1) [107] ⟨N, s :: K, V⟩ = some (keyB s, ⟨N, K, V⟩) := by
  rw [wS_piece (by decide) (show pieceS 107 ⟨N, s :: K, V⟩ = some (keyB s, ⟨N, K, V⟩) by simp [pieceS, show s.size ≤ 1000 by omega]), wS_nil]
  simp
def goneK (l : LT ByteArray) : List ByteArray := (List.range l.n).map l.item
theorem wS_gone (F : Nat) (l : LT ByteArray) (hn : l.n ≤ 64) (hv : ∀ j, j < l.n → (l.item j).size ≤ 12) (rest : List Nat) (N : List Int) (K : List ByteArray) (V : List VT) (C : List Int) (g3 : Bg) (h : wS (F + 1) rest ⟨N, K, V⟩ = some (C, g3)) :
    wS (F + 2) (60 :: 99 :: 107 :: 62 :: rest) ⟨(l.n : Int) :: N, goneK l ++ K, V⟩ = some (listB keyB l.n l.item ++ C, g3) := by
  have h0 := repS_range (wS (F + 1) [107]) keyB (fun _ => []) (fun s => [s]) (fun _ => []) l.item N K V l.n (fun j hj N K V => wS_k F _ (hv j hj) N K V)
  rw [flatN_none, flatN_none, show ((List.range l.n).flatMap fun j => [l.item j]) = goneK l by simp [goneK, List.map_eq_flatMap]] at h0
  rw [show F + 2 = F + 1 + 1 by omega, wS_list (m := 3) (item := [107]) (rest := rest) (.inr rfl) rfl (by decide) rfl rfl (numB_nat (by omega)) (by simpa using h0), h]
  simp [listB]
/-- a segment of what is other -/
theorem wS_patch (id task base sum : Nat) (h1 : id ≤ 9999) (h2 : task ≤ 11) (h3 : base ≤ 9999) (h4 : sum < 4294967296) (s : ST) (hs : VS s) (g : LT ByteArray) (hg : g.n ≤ 64) (hv : ∀ j, j < g.n → (g.item j).size ≤ 12) (l : LT (LT RT)) (hn : l.n ≤ 4) (hl : ∀ j, j < l.n → VRs (l.item j)) (p : LT RT) (hp : VRs p) :
    wS 16 (83 :: 105 :: 116 :: 105 :: 119 :: ([110, 60, 99, 107, 91, 98, 118, 93, 62] ++ (60 :: 99 :: 107 :: 62 :: [91, 112, 91, 108, 107, 118, 91, 97, 104, 93, 93, 93, 91, 108, 107, 118, 91, 97, 104, 93, 93]))) ⟨(id : Int) :: (task : Int) :: (base : Int) :: (sum : Int) :: ([s.num] ++ ((s.n : Int) :: celN s.cell s.n) ++ ((g.n : Int) :: (logsN l ++ recsN p))), celK s.cell s.n ++ (goneK g ++ (logsK l ++ rowK p p.n)), celV s.cell s.n ++ (logsV l ++ rowV p p.n)⟩ = some (83 :: (grpB id ++ (grpB task ++ (grpB base ++ (wordB sum ++ (stateB s ++ (listB keyB g.n g.item ++ (listB recsB l.n l.item ++ recsB p))))))), ⟨[], [], []⟩) := by
  have h0 := wS_logs 0 l hn hl p hp
  have hk := wS_gone 7 g hg hv _ _ _ _ _ _ h0
  have hst := wS_state s hs (60 :: 99 :: 107 :: 62 :: [91, 112, 91, 108, 107, 118, 91, 97, 104, 93, 93, 93, 91, 108, 107, 118, 91, 97, 104, 93, 93]) 6 ((g.n : Int) :: (logsN l ++ recsN p)) (goneK g ++ (logsK l ++ rowK p p.n)) (logsV l ++ rowV p p.n)
  rw [show (6 : Nat) + 3 = 7 + 2 by omega, hk] at hst
  have hw : wordOf (sum : Int) = some (wordB sum) := by unfold wordOf; rw [if_pos ⟨by omega, by omega⟩]; rfl
  refine wS_front 12 id task base h1 h2 h3 _ _ _ _ _ _ ?_
  rw [show (12 : Nat) = 11 + 1 by omega, wS_piece (by decide) (show pieceS 119 ⟨(sum : Int) :: ([s.num] ++ ((s.n : Int) :: celN s.cell s.n) ++ ((g.n : Int) :: (logsN l ++ recsN p))), celK s.cell s.n ++ (goneK g ++ (logsK l ++ rowK p p.n)), celV s.cell s.n ++ (logsV l ++ rowV p p.n)⟩ = some (wordB sum, ⟨[s.num] ++ ((s.n : Int) :: celN s.cell s.n) ++ ((g.n : Int) :: (logsN l ++ recsN p)), celK s.cell s.n ++ (goneK g ++ (logsK l ++ rowK p p.n)), celV s.cell s.n ++ (logsV l ++ rowV p p.n)⟩) by simp [pieceS, hw])]
  rw [show (11 : Nat) = 6 + 5 by omega, hst]
end Go.Proofs.Ytikfpoabaaiegaa

namespace Go.Proofs.Ytikfpoabaaiegaa
open Go.RowKit
set_option maxRecDepth 8000
theorem eq_bool {k : Nat} (h : k = 0) : ((k : Int) != 0) = false := by subst h; rfl
theorem nat_ne {k : Nat} (h : k ≠ 0) : ((k : Int) != 0) = true := by simpa using h
theorem new_many (w : World) (l : List Value) (e : TypeId) : ∀ j x, l[j]? = some x → ((w.alloc (.cells l.toArray e)).drew).cell? ((⟨w.heap.size, 0, none⟩ : Addr).add j) = some x := by
  intro j x h
  have h1 := (Box.new w l.toArray e).cell j
  rw [Go.WideShapes.add_plain, Nat.zero_add]
  exact h1.trans (by simpa using h)
theorem celV_in {w : World} {S : Nat → Prop} {p : Option Addr} {n c : Nat} {f : Nat → VT} (h : LT.In elCell w S ⟨p, n, c, f⟩) : ∀ x ∈ [] ++ celV f n, VT.In w S x := by
  intro x hx
  simp [celV, vals] at hx
  obtain ⟨j, hj, i, hi, rfl⟩ := hx
  exact (show VT.In w S (f j) from h.each j hj).sub hi
set_option maxHeartbeats 4000000 in
theorem refPutRec (r : RT) (w : World) (S : Nat → Prop) (hin : RT.In w S r) (hS : ∀ b, S b → b < w.heap.size) : Calls Try.prog 17 #[r.val] w fun x w' => PutR (chkRec r) (recB r) w x w' := by
  have ha : Below w.heap.size w (w.alloc (.cells #[.string r.key, .int .i64 r.v.kind, .int .i64 r.v.int, .string r.v.text, .slice r.v.p r.v.n r.v.c, .slice r.p r.n r.c] 27)) := (Below.refl _ _).alloc (Nat.le_refl _) _
  have hbx := Box.new w #[.string r.key, .int .i64 r.v.kind, .int .i64 r.v.int, .string r.v.text, .slice r.v.p r.v.n r.v.c, .slice r.p r.n r.c] 27
  have HC := hid (refCheckRecord_any r (w.alloc (.cells #[.string r.key, .int .i64 r.v.kind, .int .i64 r.v.int, .string r.v.text, .slice r.v.p r.v.n r.v.c, .slice r.p r.n r.c] 27)) S (hin.below ha))
  have c0 := (hbx).cell 0
  have c1 := (hbx).cell 1
  have c2 := (hbx).cell 2
  have c3 := (hbx).cell 3
  have c4 := (hbx).cell 4
  have c5 := (hbx).cell 5
  simp only [List.getElem?_toArray, List.getElem?_cons_zero, List.getElem?_cons_succ] at c0 c1 c2 c3 c4 c5
  have HA := hid ha
  have HX := hid hbx
  have HIn := hid hin
  have HS := hid hS
  unfold RT.val at HC ⊢
  clear ha hbx hin hS
  go_enter Try.func17, Try.ntmps17
  go_wp2_with fail
  refine HC.out.mono ?_
  rintro x w2 ⟨rfl, hb2⟩
  have HB2 := hid (HA.out.trans (hb2.mono HA.out.size))
  have hx2 := HX.out.below hb2
  have hlt2 := hx2.lt
  have d0 := (hx2).cell 0
  have d1 := (hx2).cell 1
  have d2 := (hx2).cell 2
  have d3 := (hx2).cell 3
  have d4 := (hx2).cell 4
  have d5 := (hx2).cell 5
  simp only [List.getElem?_toArray, List.getElem?_cons_zero, List.getElem?_cons_succ] at d0 d1 d2 d3 d4 d5
  have HX2 := hid hx2
  clear hb2 hx2 HC HX c0 c1 c2 c3 c4 c5
  by_cases hk : chkRec r = 0
  · have hk' := eq_bool hk
    have HK := hid hk
    have HVR := hid (vr_of hk)
    have hg := BG.start w2
    have ha3 : Below w2.heap.size w2 (w2.alloc (.cells #[.slice none 0 0, .slice none 0 0, .slice none 0 0, .int .i64 0, .int .i64 0, .int .i64 0] 104)) := (Below.refl _ _).alloc (Nat.le_refl _) _
    have hx3 := HX2.out.below ha3
    have e0 := (hx3).cell 0
    have e1 := (hx3).cell 1
    have e2 := (hx3).cell 2
    have e3 := (hx3).cell 3
    have e4 := (hx3).cell 4
    have e5 := (hx3).cell 5
    simp only [List.getElem?_toArray, List.getElem?_cons_zero, List.getElem?_cons_succ] at e0 e1 e2 e3 e4 e5
    have hin2 : RT.In w2 S r := HIn.out.kept HB2.out.size (fun b hb _ => HB2.out.block b (HS.out b hb))
    have hS2 : ∀ q, S q → q < w2.heap.size := fun q hq => by have := HS.out q hq; have := HB2.out.size; omega
    have HAd := hid (addRecord_any ⟨_, _, _, hg⟩ r hin2 hS2 HVR.out.n (by simp) (by simp) (by simp))
    have HW : Hid (∀ W, BGx w2 w2.heap.size W ([] ++ recN r) ([] ++ [r.key]) ([] ++ [r.v]) → Calls Try.prog 46 #[.pointer (some ⟨w2.heap.size, 0, none⟩), .slice none 0 0, .string ⟨#[107, 118, 91, 97, 104, 93]⟩] W fun e w' => ∃ v', e = .returned v' ∧ OwnBy w2.heap.size w' v' (recB r) ∧ Below w2.heap.size w2 w') := fun W hW =>
      refWritten (S := S) hW (Nat.le_refl _) (fun x hx => by simp at hx; rw [hx]; exact hin2.v) hS2 (by simp [recN]; have := HVR.out.n; omega) (by simp) (by simp) 6 ⟨#[107, 118, 91, 97, 104, 93]⟩ (by decide) (recB r) ⟨[], [], []⟩ (by
        have h := wS_recs 2 r HVR.out [] [] []
        rw [List.append_nil] at h
        exact h) (by have := recB_len hin2 HVR.out; omega)
    unfold RT.val at HAd
    rw [hk]
    clear hk hg ha3 hx3 hin2 hS2
    go_wp2_with fail
    refine HAd.out.mono ?_
    rintro x w4 ⟨rfl, hb4⟩
    have HW4 := hid (HW.out w4 hb4)
    clear hb4 HAd HW
    go_wp2_with fail
    refine HW4.out.mono ?_
    rintro x w5 ⟨v5, rfl, ho5, hb5⟩
    have HF := hid (And.intro (ho5.mono HB2.out.size) (HB2.out.trans (hb5.mono HB2.out.size)))
    clear ho5 hb5 HW4
    go_wp2
    refine bodyPost_ret (v := .tuple #[v5, .int .i64 0]) (by simp [results, Try.results17, go_sem]) rfl ?_
    exact ⟨fun _ => ⟨_, rfl, HF.out⟩, fun h => absurd HK.out h⟩
  · have hk' := nat_ne hk
    have HK := hid hk
    clear hk
    go_wp2
    refine bodyPost_ret (v := .tuple #[.slice none 0 0, .int .i64 (chkRec r : Int)]) (by simp [results, Try.results17, go_sem]) rfl ?_
    exact ⟨fun h => absurd h HK.out, fun _ => ⟨rfl, HB2.out⟩⟩
end Go.Proofs.Ytikfpoabaaiegaa

namespace Go.Proofs.Ytikfpoabaaiegaa
open Go.RowKit
set_option maxRecDepth 8000

/-- how many are not done -/
def unl : List Bool → Nat
  | [] => 0
  | b :: r => (if b then 0 else 1) + unl r
theorem unl_set : ∀ (l : List Bool) (i : Nat), l[i]? = some false → unl (l.set i true) + 1 = unl l
  | [], i, h => by simp at h
  | b :: r, 0, h => by
    simp at h
    subst h
    simp [unl]
    omega
  | b :: r, i + 1, h => by
    have := unl_set r i (by simpa using h)
    simp only [List.set_cons_succ, unl]
    omega
theorem unl_zero : ∀ (l : List Bool), unl l = 0 → ∀ (i : Nat) (b : Bool), l[i]? = some b → b = true
  | [], _, i, b, h => by simp at h
  | c :: r, hu, 0, b, h => by
    simp at h
    subst h
    cases c with
    | true => rfl
    | false => simp [unl] at hu
  | c :: r, hu, i + 1, b, h => by
    refine unl_zero r ?_ i b (by simpa using h)
    simp only [unl] at hu
    omega

/-- WHATEVER ORDER IS DRAWN: a statement about what is done, that each operation keeps -/
theorem wpAny_inv {P : Program} {ops : Array Oper} {Q : Exit → Act → World → Prop} (I : (Nat → Prop) → Act → World → Prop)
    (hext : ∀ D D' a w, (∀ j, D j ↔ D' j) → I D a w → I D' a w)
    (hac : ∀ (i : Nat) (o : Oper), ops[i]? = some o → ∀ e ∈ o.after, Region.binds .any e = true → e.on < i)
    (hstep : ∀ D a w, I D a w → ∀ (i : Nat) (o : Oper), ops[i]? = some o → ¬ D i → (∀ e ∈ o.after, Region.binds .any e = true → D e.on) → wpOp P ops Q i (I fun j => D j ∨ j = i) a w)
    (hend : ∀ D a w, I D a w → (∀ i, i < ops.size → D i) → Q .normal a w) :
    ∀ (fuel : Nat) (listed : Array Bool) (a : Act) (w : World), listed.size = ops.size → unl listed.toList ≤ fuel → I (fun j => listed[j]? = some true) a w → wpAny P .any ops Q fuel listed a w := by
  have hall : ∀ (listed : Array Bool), listed.size = ops.size → Region.ready .any ops listed = [] → ∀ i, i < ops.size → listed[i]? = some true := by
    intro listed hs hr i
    induction i using Nat.strongRecOn with
    | _ i ih =>
      intro hi
      cases hb : listed[i]? with
      | none => rw [Array.getElem?_eq_none_iff] at hb; omega
      | some b =>
        cases b with
        | true => rfl
        | false =>
          exfalso
          have hm : i ∈ Region.ready .any ops listed := by
            rw [mem_ready]
            refine ⟨by simp [Array.getD_eq_getD_getElem?, hb], ops[i], by simp [hi], fun e he hbd => ?_⟩
            have hlt := hac i ops[i] (by simp [hi]) e he hbd
            have := ih e.on hlt (by omega)
            simp [Array.getD_eq_getD_getElem?, this]
          rw [hr] at hm
          cases hm
  intro fuel
  induction fuel with
  | zero =>
    intro listed a w hs hu hI
    have hl : ∀ i, i < ops.size → listed[i]? = some true := by
      intro i hi
      cases hb : listed[i]? with
      | none => rw [Array.getElem?_eq_none_iff] at hb; omega
      | some b => rw [unl_zero listed.toList (by omega) i b (by simpa using hb)]
    refine ⟨?_, hend _ a w hI hl⟩
    cases hr : Region.ready .any ops listed with
    | nil => rfl
    | cons j r =>
      have hj : j ∈ Region.ready .any ops listed := by rw [hr]; simp
      rw [mem_ready] at hj
      obtain ⟨h0, o, ho, _⟩ := hj
      have hlt : j < ops.size := (Array.getElem?_eq_some_iff.1 ho).1
      rw [Array.getD_eq_getD_getElem?, hl j hlt] at h0
      cases h0
  | succ fuel ih =>
    intro listed a w hs hu hI
    refine ⟨fun hr => hend _ a w hI (hall listed hs hr), fun i hi => ?_⟩
    rw [mem_ready] at hi
    obtain ⟨h0, o, ho, hdep⟩ := hi
    have hlt : i < ops.size := (Array.getElem?_eq_some_iff.1 ho).1
    have hli : listed[i]? = some false := by
      cases hb : listed[i]? with
      | none => rw [Array.getElem?_eq_none_iff] at hb; omega
      | some b => rw [Array.getD_eq_getD_getElem?, hb] at h0; simp at h0; rw [h0]
    refine wpOp_mono ?_ (hstep _ a w hI i o ho (by rw [hli]; simp) (fun e he hb => ?_))
    · intro a' w' h'
      refine ih _ a' w' (by simpa using hs) ?_ (hext _ _ _ _ ?_ h')
      · have := unl_set listed.toList i (by simpa using hli)
        rw [Array.toList_setIfInBounds]
        omega
      · intro j
        by_cases hji : j = i
        · subst hji
          simp [hs, hlt]
        · simp [hji, Ne.symm hji]
    · have := hdep e he hb
      rw [Array.getD_eq_getD_getElem?] at this
      cases hb2 : listed[e.on]? with
      | none => rw [hb2] at this; simp at this
      | some b => rw [hb2] at this; simp at this; rw [this]

theorem unl_replicate : ∀ n, unl (List.replicate n false) = n
  | 0 => rfl
  | n + 1 => by
    have := unl_replicate n
    simp only [List.replicate_succ, unl]
    simp
    omega

/-- what comes behind is laid behind -/
def acB (ops : Array Oper) : Bool := (List.range ops.size).all fun i => match ops[i]? with
  | none => true
  | some o => o.after.all fun e => !(Region.binds .any e) || decide (e.on < i)
theorem acB_spec {ops : Array Oper} (h : acB ops = true) : ∀ (i : Nat) (o : Oper), ops[i]? = some o → ∀ e ∈ o.after, Region.binds .any e = true → e.on < i := by
  intro i o ho e he hb
  have hlt : i < ops.size := (Array.getElem?_eq_some_iff.1 ho).1
  have h1 := List.all_eq_true.1 h i (List.mem_range.2 hlt)
  simp only [ho] at h1
  have h2 := Array.all_eq_true_iff_forall_mem.1 h1 e he
  rw [hb] at h2
  simpa using h2

theorem wp_region_inv {P : Program} {ops : Array Oper} {Q : Exit → Act → World → Prop} {id : Nat} {a : Act} {w : World} (hm : P.follows .mixedOrders = true) (I : (Nat → Prop) → Act → World → Prop)
    (hext : ∀ D D' a w, (∀ j, D j ↔ D' j) → I D a w → I D' a w)
    (hac : acB ops = true)
    (h0 : ∀ D, (∀ j, ¬ D j) → I D a w.drew)
    (hstep : ∀ D a w, I D a w → ∀ (i : Nat) (o : Oper), ops[i]? = some o → ¬ D i → (∀ e ∈ o.after, Region.binds .any e = true → D e.on) → wpOp P ops Q i (I fun j => D j ∨ j = i) a w)
    (hend : ∀ D a w, I D a w → (∀ i, i < ops.size → D i) → Q .normal a w) : (Code.region id ops true).wp P Q a w := by
  refine wp_region_any hm (wpAny_inv I hext (acB_spec hac) hstep hend ops.size _ a _ (by simp) ?_ (h0 _ ?_))
  · rw [Array.toList_replicate, unl_replicate]
    exact Nat.le_refl _
  · intro j h
    rw [Array.getElem?_replicate] at h
    split at h <;> simp at h
end Go.Proofs.Ytikfpoabaaiegaa
