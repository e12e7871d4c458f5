import Derived.Test.YtikfpoabaaiegaaPack18
import Derived.Test.YtikfpoabaaiegaaPack19
import Derived.Test.YtikfpoabaaiegaaGrH
import Derived.Test.YtikfpoabaaiegaaWrM
namespace Go.Proofs.Ytikfpoabaaiegaa
open Go.RowKit
set_option maxRecDepth 8000
def txL (s : ByteArray) : List Nat := s.data.toList.map UInt8.toNat
theorem txL_len (s : ByteArray) : (txL s).length = s.size := by simp [txL]
theorem txL_drop {s : ByteArray} {a : Nat} (h : a < s.size) : (txL s).drop a = (s[a]'h).toNat :: (txL s).drop (a + 1) := by
  rw [List.drop_eq_getElem_cons (by rw [txL_len]; exact h)]
  congr 1
  simp [txL]
  rfl
theorem txL_lt {s : ByteArray} {a : Nat} (h : a < s.size) : (s[a]'h).toNat < 256 := UInt8.toNat_lt _
set_option maxHeartbeats 2000000 in
theorem refMatch_any (f : ByteArray) (i m : Nat) (hi : i ≤ f.size) (hs : f.size ≤ 1000) (hm : mS 0 ((txL f).drop i) = some m) (w : World) : Calls Try.prog 92 #[.string f, .int .i64 (i : Int)] w fun x w' => x = .returned (.int .i64 ((i + m : Nat) : Int)) ∧ Below w.heap.size w w' := by
  go_enter Try.func92, Try.ntmps92
  go_wp2_with fail
  go_loopw [5, 6] (fun x y wr => ∃ d k n : Nat, x = .int .i64 (d : Int) ∧ y = .int .i64 (k : Int) ∧ k ≤ f.size ∧ d ≤ k ∧ mS d ((txL f).drop k) = some n ∧ k + n = i + m ∧ Below w.heap.size w wr) (fun _ y _ => f.size - (intOf y).toNat)
  case atStart => exact ⟨0, i, m, rfl, rfl, hi, Nat.zero_le _, hm, rfl, Below.refl _ _⟩
  case round =>
    obtain ⟨d, k, n, rfl, rfl, hk, hdk, hmk, hn, hbel⟩ := hrel
    have HB := hid hbel
    clear hbel hm
    by_cases hlt : k < f.size
    · have hlt' : (k : Int) < (f.size : Int) := by omega
      rw [txL_drop hlt] at hmk
      have hg : (((f[k]'hlt).toNat : Nat) : Int) = (((f[k]'hlt).toNat : Nat) : Int) := rfl
      obtain ⟨c, hc⟩ : ∃ c, (f[k]'hlt).toNat = c := ⟨_, rfl⟩
      rw [hc] at hmk
      have hg : ((f[k]'hlt).toNat : Int) = (c : Int) := by rw [hc]
      have hcl : c < 256 := by rw [← hc]; exact txL_lt hlt
      clear hc
      rcases (by omega : c = 91 ∨ c = 60 ∨ c = 93 ∨ c = 62 ∨ (c ≠ 91 ∧ c ≠ 60 ∧ c ≠ 93 ∧ c ≠ 62)) with rfl | rfl | rfl | rfl | ⟨n1, n2, n3, n4⟩
      · simp only [mS, true_or, if_true] at hmk
        obtain ⟨n2, e2, e3⟩ := Option.map_eq_some_iff.1 hmk
        have HM := hid (And.intro e2 e3)
        clear hmk e2 e3
        go_wp2
        go_roundw
        case rel => exact ⟨d + 1, k + 1, n2, by go_num, by go_num, by omega, by omega, HM.out.1, by have := HM.out.2; omega, HB.out⟩
        case measure => simp [intOf]; omega
      · simp only [mS, or_true, if_true] at hmk
        obtain ⟨n2, e2, e3⟩ := Option.map_eq_some_iff.1 hmk
        have HM := hid (And.intro e2 e3)
        clear hmk e2 e3
        go_wp2
        go_roundw
        case rel => exact ⟨d + 1, k + 1, n2, by go_num, by go_num, by omega, by omega, HM.out.1, by have := HM.out.2; omega, HB.out⟩
        case measure => simp [intOf]; omega
      · have hmk2 : (if d = 0 then none else if d = 1 then some 0 else (mS (d - 1) ((txL f).drop (k + 1))).map (· + 1)) = some n := by simpa [mS] using hmk
        clear hmk
        by_cases h0 : d = 0
        · rw [if_pos h0] at hmk2; cases hmk2
        rw [if_neg h0] at hmk2
        by_cases h1 : d = 1
        · rw [if_pos h1] at hmk2
          have hn0 : n = 0 := by simpa using hmk2.symm
          subst h1
          subst hn0
          clear hmk2
          go_wp2
          go_ret
          exact ⟨by rw [show (i : Int) + (m : Int) = (k : Int) by omega]; rfl, HB.out⟩
        · rw [if_neg h1] at hmk2
          obtain ⟨n2, e2, e3⟩ := Option.map_eq_some_iff.1 hmk2
          have HM := hid (And.intro e2 e3)
          have hd1 : ((d : Int) - 1 == 0) = false := by rw [beq_eq_false_iff_ne]; omega
          clear hmk2 e2 e3
          go_wp2
          go_roundw
          case rel => exact ⟨d - 1, k + 1, n2, by go_num, by go_num, by omega, by omega, HM.out.1, by have := HM.out.2; omega, HB.out⟩
          case measure => simp [intOf]; omega
      · have hmk2 : (if d = 0 then none else if d = 1 then some 0 else (mS (d - 1) ((txL f).drop (k + 1))).map (· + 1)) = some n := by simpa [mS] using hmk
        clear hmk
        by_cases h0 : d = 0
        · rw [if_pos h0] at hmk2; cases hmk2
        rw [if_neg h0] at hmk2
        by_cases h1 : d = 1
        · rw [if_pos h1] at hmk2
          have hn0 : n = 0 := by simpa using hmk2.symm
          subst h1
          subst hn0
          clear hmk2
          go_wp2
          go_ret
          exact ⟨by rw [show (i : Int) + (m : Int) = (k : Int) by omega]; rfl, HB.out⟩
        · rw [if_neg h1] at hmk2
          obtain ⟨n2, e2, e3⟩ := Option.map_eq_some_iff.1 hmk2
          have HM := hid (And.intro e2 e3)
          have hd1 : ((d : Int) - 1 == 0) = false := by rw [beq_eq_false_iff_ne]; omega
          clear hmk2 e2 e3
          go_wp2
          go_roundw
          case rel => exact ⟨d - 1, k + 1, n2, by go_num, by go_num, by omega, by omega, HM.out.1, by have := HM.out.2; omega, HB.out⟩
          case measure => simp [intOf]; omega
      · simp only [mS, n1, n2, n3, n4, or_self, if_false] at hmk
        obtain ⟨n5, e2, e3⟩ := Option.map_eq_some_iff.1 hmk
        have HM := hid (And.intro e2 e3)
        have b1 : ((c : Int) == 91) = false := by rw [beq_eq_false_iff_ne]; omega
        have b2 : ((c : Int) == 60) = false := by rw [beq_eq_false_iff_ne]; omega
        have b3 : ((c : Int) == 93) = false := by rw [beq_eq_false_iff_ne]; omega
        have b4 : ((c : Int) == 62) = false := by rw [beq_eq_false_iff_ne]; omega
        clear hmk e2 e3 n1 n2 n3 n4
        go_wp2
        go_roundw
        case rel => exact ⟨d, k + 1, n5, by go_num, by go_num, by omega, by omega, HM.out.1, by have := HM.out.2; omega, HB.out⟩
        case measure => simp [intOf]; omega
    · rw [List.drop_of_length_le (by rw [txL_len]; omega)] at hmk
      cases hmk
end Go.Proofs.Ytikfpoabaaiegaa

namespace Go.Proofs.Ytikfpoabaaiegaa
open Go.RowKit
set_option maxRecDepth 8000
theorem refPiece_any {w0 : World} {rb : Nat} {w : World} {bp : Option Addr} {bc : Nat} {S : Nat → Prop} {B : List Int} {p : Nat} {g : Bg} (hB : GB w0 rb S bp bc B) (h : GMv w0 rb w (.slice bp B.length bc) (p : Int) 0 g) (hp : p ≤ B.length) (hf : Few_ g p) (c : Nat) (hc : c < 256) (h0 : 0 < p ∨ c ≠ 118) : Calls Try.prog 116 #[.pointer (some ⟨rb, 0, none⟩), .int .u8 (c : Int)] w fun x w' => PcP (pieceR c g) w0 rb (.slice bp B.length bc) B p x w' := by
  by_cases h1 : 65 ≤ c ∧ c ≤ 90
  · exact refPiece_cap hB h hp hf h1.1 h1.2
  by_cases h2 : c = 107
  · subst h2; exact refPiece_key hB h hp hf
  by_cases h3 : c = 118
  · subst h3; exact refPiece_val hB h hp hf (h0.resolve_right (by decide))
  by_cases h4 : c = 119
  · subst h4; exact refPiece_word hB h hp hf
  · exact refPiece_num hB h hp hf h1 h2 h3 h4 hc
theorem bind_some {α β : Type} {s : RS α} {t : α → RS β} {L R : List Int} {y : β} (h : bindS s t L = .ok (y, R)) : ∃ x T, s L = .ok (x, T) ∧ t x T = .ok (y, R) := by
  unfold bindS at h
  cases hs : s L with
  | error k => rw [hs] at h; cases h
  | ok z => obtain ⟨x, T⟩ := z; rw [hs] at h; exact ⟨x, T, rfl, h⟩
theorem bind_get {α β : Type} {s : RS α} {t : α → RS β} {L T : List Int} {x : α} (h : s L = .ok (x, T)) : bindS s t L = t x T := by
  unfold bindS
  rw [h]
theorem bind_bad {α β : Type} {s : RS α} {t : α → RS β} {L : List Int} {k : Nat} (h : s L = .error k) : bindS s t L = .error k := by
  unfold bindS
  rw [h]
theorem numG_le {bound : Nat} : ∀ (k i u n : Nat) (L R : List Int), numG bound k i u L = .ok (n, R) → n ≤ bound
  | 0, _, _, _, _, _, h => by cases h
  | k + 1, i, u, n, L, R, h => by
    unfold numG at h
    obtain ⟨l, T, _, h2⟩ := bind_some h
    split at h2
    · split at h2
      · cases h2
      · split at h2
        · cases h2
        · cases h2; omega
    · exact numG_le k _ _ n T R h2
theorem numS_le {bound n : Nat} {L R : List Int} (h : numS bound L = .ok (n, R)) : n ≤ bound := numG_le _ _ _ _ _ _ h
theorem piece_few {c : Nat} {g g' : Bg} {L R : List Int} {p p' : Nat} (h : pieceR c g L = .ok (g', R)) (hf : Few_ g p) (hp : p < p') : Few_ g' p' := by
  have h1 := hf.N
  have h2 := hf.K
  have h3 := hf.V
  unfold pieceR at h
  split at h
  · obtain ⟨x, T, _, hx⟩ := bind_some h; cases hx; exact ⟨by omega, by omega, by omega⟩
  split at h
  · obtain ⟨x, T, _, hx⟩ := bind_some h; cases hx; exact ⟨by simp; omega, by simp; omega, by simp; omega⟩
  split at h
  · obtain ⟨x, T, _, hx⟩ := bind_some h; cases hx; exact ⟨by simp; omega, by simp; omega, by simp; omega⟩
  split at h
  · obtain ⟨x, T, _, hx⟩ := bind_some h; cases hx; exact ⟨by simp; omega, by simp; omega, by simp; omega⟩
  · obtain ⟨x, T, _, hx⟩ := bind_some h; cases hx; exact ⟨by simp; omega, by simp; omega, by simp; omega⟩
def lastN (g : Bg) : Nat := (g.N.getLastD 0).toNat
def repR (one : Bg → RS Bg) : Nat → Bg → RS Bg
  | 0, g => retS g
  | n + 1, g => bindS (repR one n g) one
def riseR (one : Bg → RS Bg) : Nat → Bg → RS (Bg × Option ByteArray)
  | 0, g => retS (g, none)
  | n + 1, g => bindS (riseR one n g) fun y => bindS (riseS y.2) fun k => bindS (one ⟨y.1.N, y.1.K ++ [k], y.1.V⟩) fun g2 => retS (g2, some k)
def walkR : Nat → List Nat → Bg → RS Bg
  | _, [], g => retS g
  | 0, _ :: _, _ => failS 999
  | F + 1, c :: cs, g =>
    if c = 91 ∨ c = 60 then
      match mS 0 (c :: cs) with
      | none => failS 999
      | some m => if m < 2 ∨ (65 ≤ cs.headD 0 ∧ cs.headD 0 ≤ 90) ∨ cs.headD 0 = 107 ∨ cs.headD 0 = 118 ∨ cs.headD 0 = 119 ∨ (c = 60 ∧ (F = 0 ∨ m < 3)) then failS 999 else
        bindS (pieceR (cs.headD 0) g) fun g1 =>
          bindS (if c = 91 then repR (walkR F (((c :: cs).take m).drop 2)) (lastN g1) g1 else bindS (riseR (walkR F (((c :: cs).take m).drop 3)) (lastN g1) g1) fun y => retS y.1) fun g2 =>
            walkR F ((c :: cs).drop (m + 1)) g2
    else bindS (pieceR c g) fun g1 => walkR F cs g1
theorem walkR_piece {F c : Nat} {cs : List Nat} {g : Bg} (hc : ¬ (c = 91 ∨ c = 60)) : walkR (F + 1) (c :: cs) g = bindS (pieceR c g) fun g1 => walkR F cs g1 := by
  rw [walkR, if_neg hc]
theorem walkR_list {F c : Nat} {cs : List Nat} {g : Bg} {L : List Int} (hc : c = 91 ∨ c = 60) (h : walkR (F + 1) (c :: cs) g L ≠ .error 999) :
    ∃ m, mS 0 (c :: cs) = some m ∧ 2 ≤ m ∧ (¬ (65 ≤ cs.headD 0 ∧ cs.headD 0 ≤ 90) ∧ cs.headD 0 ≠ 107 ∧ cs.headD 0 ≠ 118 ∧ cs.headD 0 ≠ 119) ∧ (c = 60 → 0 < F ∧ 3 ≤ m) ∧
      walkR (F + 1) (c :: cs) g = bindS (pieceR (cs.headD 0) g) fun g1 =>
          bindS (if c = 91 then repR (walkR F (((c :: cs).take m).drop 2)) (lastN g1) g1 else bindS (riseR (walkR F (((c :: cs).take m).drop 3)) (lastN g1) g1) fun y => retS y.1) fun g2 =>
            walkR F ((c :: cs).drop (m + 1)) g2 := by
  rw [walkR, if_pos hc] at h
  cases hm : mS 0 (c :: cs) with
  | none => rw [hm] at h; exact absurd rfl h
  | some m =>
    rw [hm] at h
    simp only at h
    by_cases hq : m < 2 ∨ (65 ≤ cs.headD 0 ∧ cs.headD 0 ≤ 90) ∨ cs.headD 0 = 107 ∨ cs.headD 0 = 118 ∨ cs.headD 0 = 119 ∨ (c = 60 ∧ (F = 0 ∨ m < 3))
    · rw [if_pos hq] at h; exact absurd rfl h
    · refine ⟨m, rfl, by omega, ⟨by omega, by omega, by omega, by omega⟩, fun _ => by omega, ?_⟩
      rw [walkR, if_pos hc, hm]
      simp only
      rw [if_neg hq]
theorem repR_err {one : Bg → RS Bg} {j n k : Nat} {g : Bg} {L : List Int} (h : repR one j g L = .error k) (hj : j ≤ n) : repR one n g L = .error k := by
  induction n with
  | zero => obtain rfl : j = 0 := by omega
            exact h
  | succ n ih =>
    by_cases he : j = n + 1
    · subst he; exact h
    · exact bind_bad (ih (by omega))
theorem riseR_err {one : Bg → RS Bg} {j n k : Nat} {g : Bg} {L : List Int} (h : riseR one j g L = .error k) (hj : j ≤ n) : riseR one n g L = .error k := by
  induction n with
  | zero => obtain rfl : j = 0 := by omega
            exact h
  | succ n ih =>
    by_cases he : j = n + 1
    · subst he; exact h
    · exact bind_bad (ih (by omega))
theorem piece_last {c : Nat} {g g1 : Bg} {L R : List Int} (hc : ¬ (65 ≤ c ∧ c ≤ 90) ∧ c ≠ 107 ∧ c ≠ 118 ∧ c ≠ 119) (h : pieceR c g L = .ok (g1, R)) : ∃ n : Nat, g1 = ⟨g.N ++ [(n : Int)], g.K, g.V⟩ ∧ lastN g1 = n ∧ n ≤ 1073741824 := by
  unfold pieceR at h
  rw [if_neg hc.1, if_neg hc.2.1, if_neg hc.2.2.1, if_neg hc.2.2.2] at h
  obtain ⟨n, T, h1, h2⟩ := bind_some h
  cases h2
  refine ⟨n, rfl, by simp [lastN], ?_⟩
  exact Nat.le_trans (numS_le h1) (bndOf_le c)
theorem walkR_nil (F : Nat) (g : Bg) : walkR F [] g = retS g := by cases F <;> rfl
end Go.Proofs.Ytikfpoabaaiegaa

namespace Go.Proofs.Ytikfpoabaaiegaa
set_option maxRecDepth 8000
theorem bindS_assoc {α β γ : Type} (s : RS α) (f : α → RS β) (g : β → RS γ) : bindS (bindS s f) g = bindS s fun x => bindS (f x) g := by
  funext L
  unfold bindS
  cases s L with
  | error e => rfl
  | ok z => rfl
theorem bindS_ret {α β : Type} (x : α) (f : α → RS β) : bindS (retS x) f = f x := rfl
theorem bindS_retr {α : Type} (s : RS α) : bindS s retS = s := by
  funext L
  unfold bindS
  cases s L with
  | error e => rfl
  | ok z => rfl
theorem bindS_eq {α β : Type} {s : RS α} {f g : α → RS β} (h : ∀ L y R, s L = .ok (y, R) → f y = g y) : bindS s f = bindS s g := by
  funext L
  unfold bindS
  cases hs : s L with
  | error e => rfl
  | ok z => obtain ⟨y, R⟩ := z; show f y R = g y R; rw [h L y R hs]
def Bg.add (g d : Bg) : Bg := ⟨g.N ++ d.N, g.K ++ d.K, g.V ++ d.V⟩
theorem Bg.add_assoc (a b c : Bg) : (a.add b).add c = a.add (b.add c) := by simp [Bg.add]
theorem Bg.add_nil (a : Bg) : a.add ⟨[], [], []⟩ = a := by simp [Bg.add]
def catB (l : List Bg) : Bg := ⟨l.flatMap Bg.N, l.flatMap Bg.K, l.flatMap Bg.V⟩
theorem catB_snoc (l : List Bg) (x : Bg) : catB (l ++ [x]) = (catB l).add x := by simp [catB, Bg.add]
def Rds {α : Type} (one : Bg → RS Bg) (s : RS α) (d : α → Bg) : Prop := ∀ g, one g = bindS s fun y => retS (g.add (d y))
theorem rds_key : Rds (pieceR 107) keyS (fun k => ⟨[], [k], []⟩) := fun g => by simp [pieceR, Bg.add]
theorem rds_val : Rds (pieceR 118) valS (fun v => ⟨[], [], [v]⟩) := fun g => by simp [pieceR, Bg.add]
theorem rds_word : Rds (pieceR 119) wordS (fun n => ⟨[(n : Int)], [], []⟩) := fun g => by simp [pieceR, Bg.add]
def isNum (c : Nat) : Bool := !(65 ≤ c && c ≤ 90) && c != 107 && c != 118 && c != 119 && c != 91 && c != 60
theorem isNum_ok {c : Nat} (h : isNum c = true) : ¬ (65 ≤ c ∧ c ≤ 90) ∧ c ≠ 107 ∧ c ≠ 118 ∧ c ≠ 119 ∧ ¬ (c = 91 ∨ c = 60) := by
  simp [isNum] at h
  omega
theorem rds_num {c : Nat} (h : isNum c = true) : Rds (pieceR c) (numS (bndOf c)) (fun n => ⟨[(n : Int)], [], []⟩) := fun g => by
  obtain ⟨h1, h2, h3, h4, _⟩ := isNum_ok h
  simp [pieceR, Bg.add, h1, h2, h3, h4]
theorem rds_cap {c : Nat} (h : 65 ≤ c ∧ c ≤ 90) : Rds (pieceR c) (firstS (c : Int)) (fun _ => ⟨[], [], []⟩) := fun g => by
  simp [pieceR, Bg.add, h]
theorem walk_one {α : Type} {F c : Nat} {cs : List Nat} {g : Bg} {s : RS α} {d : α → Bg} (hc : ¬ (c = 91 ∨ c = 60)) (h : Rds (pieceR c) s d) : walkR (F + 1) (c :: cs) g = bindS s fun y => walkR F cs (g.add (d y)) := by
  rw [walkR_piece hc, h g, bindS_assoc]
  rfl
theorem iter_len {α σ : Type} {item : σ → RS α} {nx : σ → α → σ} : ∀ (n : Nat) (s : σ) (L : List Int) (y : List α × σ) (R : List Int), iterS item nx n s L = .ok (y, R) → y.1.length = n
  | 0, s, L, y, R, h => by cases h; rfl
  | n + 1, s, L, y, R, h => by
    obtain ⟨x, T, h1, h2⟩ := bind_some h
    obtain ⟨x2, T2, h3, h4⟩ := bind_some h2
    cases h4
    have := iter_len n s L x T h1
    simp [this]
theorem rep_iter {α : Type} {one : Bg → RS Bg} {s : RS α} {d : α → Bg} (h : Rds one s d) : ∀ (n : Nat) (g : Bg), repR one n g = bindS (iterS (fun _ : Unit => s) (fun _ _ => ()) n ()) fun y => retS (g.add (catB (y.1.map d)))
  | 0, g => by
    show retS g = retS (g.add (catB []))
    rw [show catB [] = ⟨[], [], []⟩ from rfl, Bg.add_nil]
  | n + 1, g => by
    show bindS (repR one n g) one = bindS (bindS (iterS _ _ n ()) fun y => bindS s fun x => retS (y.1 ++ [x], ())) _
    rw [rep_iter h n g, bindS_assoc, bindS_assoc]
    congr 1
    funext y
    rw [bindS_ret, h, bindS_assoc]
    congr 1
    funext x
    rw [bindS_ret, List.map_append, List.map_singleton, catB_snoc, Bg.add_assoc]
theorem rise_iter {α β : Type} {one : Bg → RS Bg} {s : RS α} {d0 : α → Bg} (mk : ByteArray → α → β) (tx : β → ByteArray) (d : β → Bg) (h : Rds one s d0) (ht : ∀ k x, tx (mk k x) = k) (hd : ∀ k x, d (mk k x) = Bg.add ⟨[], [k], []⟩ (d0 x)) : ∀ (n : Nat) (g : Bg), riseR one n g = bindS (iterS (fun last => bindS (riseS last) fun k => bindS s fun x => retS (mk k x)) (fun _ c => some (tx c)) n none) fun y => retS (g.add (catB (y.1.map d)), y.2)
  | 0, g => by
    show retS (g, none) = retS (g.add (catB []), none)
    rw [show catB [] = ⟨[], [], []⟩ from rfl, Bg.add_nil]
  | n + 1, g => by
    show bindS (riseR one n g) (fun y => bindS (riseS y.2) fun k => bindS (one ⟨y.1.N, y.1.K ++ [k], y.1.V⟩) fun g2 => retS (g2, some k)) = bindS (bindS (iterS _ _ n none) fun y => bindS _ fun x => retS (y.1 ++ [x], _)) _
    rw [rise_iter mk tx d h ht hd n g, bindS_assoc, bindS_assoc]
    congr 1
    funext y
    rw [bindS_ret, bindS_assoc, bindS_assoc]
    congr 1
    funext k
    rw [h, bindS_assoc, bindS_assoc]
    congr 1
    funext x
    rw [bindS_ret, bindS_ret, bindS_ret, List.map_append, List.map_singleton, catB_snoc, hd]
    simp [Bg.add, ht]
theorem lastN_num (g : Bg) (n : Nat) : lastN (g.add ⟨[(n : Int)], [], []⟩) = n := by
  simp [lastN, Bg.add]
theorem walk_list {α : Type} {F c m : Nat} {item rest : List Nat} {g : Bg} {s : RS α} {d : α → Bg} (hc : isNum c = true) (hm : mS 0 (91 :: c :: (item ++ 93 :: rest)) = some m) (hl : m = item.length + 2) (h : Rds (walkR F item) s d) :
    walkR (F + 1) (91 :: c :: (item ++ 93 :: rest)) g = bindS (listS (bndOf c) (fun _ : Unit => s) (fun _ _ => ()) ()) fun l => walkR F rest (g.add (Bg.add ⟨[(l.length : Int)], [], []⟩ (catB (l.map d)))) := by
  obtain ⟨h1, h2, h3, h4, _⟩ := isNum_ok hc
  rw [walkR, if_pos (.inl rfl), hm]
  simp only [List.headD_cons]
  rw [if_neg (by omega), rds_num hc g, bindS_assoc]
  unfold listS
  rw [bindS_assoc]
  congr 1
  funext n
  rw [bindS_ret, lastN_num, if_pos trivial, hl, bindS_assoc]
  rw [show List.drop 2 (List.take (item.length + 2) (91 :: c :: (item ++ 93 :: rest))) = item by simp, show List.drop (item.length + 2 + 1) (91 :: c :: (item ++ 93 :: rest)) = rest by simp [List.drop_append]]
  rw [rep_iter h, bindS_assoc]
  refine bindS_eq fun L y R hy => ?_
  rw [bindS_ret, bindS_ret, iter_len _ _ _ _ _ hy, Bg.add_assoc]
theorem walk_rise {α β : Type} {F c m : Nat} {item rest : List Nat} {g : Bg} {s : RS α} {d0 : α → Bg} (mk : ByteArray → α → β) (tx : β → ByteArray) (d : β → Bg) (hc : isNum c = true) (hm : mS 0 (60 :: c :: 107 :: (item ++ 62 :: rest)) = some m) (hl : m = item.length + 3) (h : Rds (walkR (F + 1) item) s d0) (ht : ∀ k x, tx (mk k x) = k) (hd : ∀ k x, d (mk k x) = Bg.add ⟨[], [k], []⟩ (d0 x)) :
    walkR (F + 2) (60 :: c :: 107 :: (item ++ 62 :: rest)) g = bindS (listS (bndOf c) (fun last => bindS (riseS last) fun k => bindS s fun x => retS (mk k x)) (fun _ c => some (tx c)) none) fun l => walkR (F + 1) rest (g.add (Bg.add ⟨[(l.length : Int)], [], []⟩ (catB (l.map d)))) := by
  obtain ⟨h1, h2, h3, h4, _⟩ := isNum_ok hc
  rw [walkR, if_pos (.inr rfl), hm]
  simp only [List.headD_cons]
  rw [if_neg (by omega), rds_num hc g, bindS_assoc]
  unfold listS
  rw [bindS_assoc]
  congr 1
  funext n
  rw [bindS_ret, lastN_num, if_neg (by decide), hl, bindS_assoc]
  rw [show List.drop 3 (List.take (item.length + 3) (60 :: c :: 107 :: (item ++ 62 :: rest))) = item by simp, show List.drop (item.length + 3 + 1) (60 :: c :: 107 :: (item ++ 62 :: rest)) = rest by simp [List.drop_append]]
  rw [rise_iter mk tx d h ht hd, bindS_assoc, bindS_assoc]
  refine bindS_eq fun L y R hy => ?_
  rw [bindS_ret, bindS_ret, bindS_ret, iter_len _ _ _ _ _ hy, Bg.add_assoc]
end Go.Proofs.Ytikfpoabaaiegaa

namespace Go.Proofs.Ytikfpoabaaiegaa
set_option maxRecDepth 8000
theorem range_mapD {α : Type} (l : List α) (x : α) : (List.range l.length).map (fun j => l.getD j x) = l := by
  refine List.ext_getElem (by simp) (fun m h1 h2 => ?_)
  simp [List.getD_eq_getElem?_getD, List.getElem?_eq_getElem h2]
theorem walk_nil (F : Nat) (g : Bg) : walkR F [] g = retS g := by
  cases F <;> rfl
theorem rds_last {α : Type} {F : Nat} {f : List Nat} {s : RS α} {d : α → Bg} {F2 : Nat} (h : ∀ g, walkR F f g = bindS s fun y => walkR F2 [] (g.add (d y))) : Rds (walkR F f) s d := fun g => by
  rw [h g]
  congr 1
  funext y
  exact walk_nil _ _
theorem catB_ints (l : List Int) : catB (l.map fun x => ⟨[x], [], []⟩) = ⟨l, [], []⟩ := by
  unfold catB
  simp [List.flatMap_map]
theorem catB_vals (l : List VT) : catB (l.map fun x => ⟨[], [], [x]⟩) = ⟨[], [], l⟩ := by
  unfold catB
  simp [List.flatMap_map]
def dRec (r : RT) : Bg := ⟨(r.n : Int) :: (List.range r.n).map r.loop, [r.key], [r.v]⟩
theorem dRec_mk (k : ByteArray) (v : VT) (l : List Int) : dRec (mkR k v l) = ⟨(l.length : Int) :: l, [k], [v]⟩ := by
  show Bg.mk ((l.length : Int) :: (List.range l.length).map fun j => l.getD j 0) [k] [v] = _
  rw [range_mapD]
theorem rds_hop (F : Nat) : Rds (walkR (F + 1) [104]) hopI (fun x => ⟨[x], [], []⟩) := fun g => by
  rw [walk_one (by decide) (rds_num (by decide))]
  unfold hopI
  rw [bindS_assoc]
  show bindS (numS 9) _ = bindS (numS 9) _
  congr 1
  funext n
  rw [walk_nil]
  rfl
theorem walk_rec (F : Nat) (rest : List Nat) (g : Bg) : walkR (F + 4) (107 :: 118 :: 91 :: 97 :: 104 :: 93 :: rest) g = bindS recS fun r => walkR (F + 1) rest (g.add (dRec r)) := by
  rw [walk_one (by decide) rds_key]
  unfold recS
  rw [bindS_assoc]
  congr 1
  funext k
  rw [walk_one (by decide) rds_val, bindS_assoc]
  congr 1
  funext v
  rw [show (91 :: 97 :: 104 :: 93 :: rest : List Nat) = 91 :: 97 :: ([104] ++ 93 :: rest) from rfl, walk_list (m := 3) (by decide) rfl rfl (rds_hop F), bindS_assoc]
  show bindS (listS 3 _ _ _) _ = bindS (listS 3 _ _ _) _
  congr 1
  funext l
  rw [bindS_ret, dRec_mk, catB_ints]
  simp [Bg.add]
theorem rds_rec (F : Nat) : Rds (walkR (F + 4) [107, 118, 91, 97, 104, 93]) recS dRec := rds_last fun g => walk_rec F [] g
def dList {α : Type} (d : α → Bg) (l : List α) : Bg := Bg.add ⟨[(l.length : Int)], [], []⟩ (catB (l.map d))
theorem walk_recs (F : Nat) (rest : List Nat) (g : Bg) (m : Nat) (hm : mS 0 (91 :: 108 :: ([107, 118, 91, 97, 104, 93] ++ 93 :: rest)) = some m) (hl : m = 8) : walkR (F + 5) (91 :: 108 :: ([107, 118, 91, 97, 104, 93] ++ 93 :: rest)) g = bindS recsS fun l => walkR (F + 4) rest (g.add (dList dRec l)) := by
  rw [walk_list hm (hl.trans rfl) (rds_rec F) (hc := by decide)]
  rfl
theorem rds_recs (F : Nat) : Rds (walkR (F + 5) [91, 108, 107, 118, 91, 97, 104, 93, 93]) recsS (dList dRec) := rds_last fun g => walk_recs F [] g 8 rfl rfl
def dCel (c : VT) : Bg := ⟨[(c.n : Int)], [c.text], (List.range c.n).map c.item⟩
theorem dCel_mk (k : ByteArray) (l : List VT) : dCel (mkC k l) = Bg.add ⟨[], [k], []⟩ (dList (fun x => ⟨[], [], [x]⟩) l) := by
  unfold dList
  rw [catB_vals]
  show Bg.mk [(l.length : Int)] [k] ((List.range l.length).map fun j => l.getD j .nil) = _
  rw [range_mapD]
  simp [Bg.add]
theorem rds_v (F : Nat) : Rds (walkR (F + 1) [118]) valS (fun x => ⟨[], [], [x]⟩) := rds_last fun g => walk_one (by decide) rds_val
theorem rds_vals (F : Nat) : Rds (walkR (F + 2) [91, 98, 118, 93]) valsS (dList (fun x => ⟨[], [], [x]⟩)) := rds_last fun g => walk_list (m := 3) (item := [118]) (rest := []) (by decide) rfl rfl (rds_v F)
theorem walk_cells (F : Nat) (rest : List Nat) (g : Bg) : walkR (F + 3) (60 :: 99 :: 107 :: ([91, 98, 118, 93] ++ 62 :: rest)) g = bindS cellsS fun l => walkR (F + 2) rest (g.add (dList dCel l)) := by
  rw [walk_rise (m := 7) mkC VT.text dCel (by decide) rfl rfl (rds_vals F) (fun _ _ => rfl) dCel_mk]
  rfl
theorem walk_gone (F : Nat) (rest : List Nat) (g : Bg) : walkR (F + 2) (60 :: 99 :: 107 :: ([] ++ 62 :: rest)) g = bindS goneS fun l => walkR (F + 1) rest (g.add (dList (fun k => ⟨[], [k], []⟩) l)) := by
  rw [walk_rise (m := 3) (s := retS ()) (d0 := fun _ => ⟨[], [], []⟩) (fun k _ => k) (fun k => k) (fun k => ⟨[], [k], []⟩) (by decide) rfl rfl (fun g => by rw [walk_nil, bindS_ret, Bg.add_nil]) (fun _ _ => rfl) (fun _ _ => rfl)]
  show bindS (listS 64 (fun last => bindS (riseS last) retS) _ _) _ = _
  rw [show (fun last => bindS (riseS last) retS) = riseS from funext fun last => bindS_retr _]
  rfl
end Go.Proofs.Ytikfpoabaaiegaa

namespace Go.Proofs.Ytikfpoabaaiegaa
set_option maxRecDepth 8000
def dNum (n : Nat) : Bg := ⟨[(n : Int)], [], []⟩
def gNil : Bg := ⟨[], [], []⟩
def dLT (l : LT RT) : Bg := dList dRec ((List.range l.n).map l.item)
theorem dLT_mk (l : List RT) : dLT (mkLT zeroR l) = dList dRec l := by
  show dList dRec ((List.range l.length).map fun j => l.getD j zeroR) = _
  rw [range_mapD]
theorem rds_recsL (F : Nat) : Rds (walkR (F + 5) [91, 108, 107, 118, 91, 97, 104, 93, 93]) recsL dLT := fun g => by
  rw [rds_recs F g]
  unfold recsL
  rw [bindS_assoc]
  congr 1
  funext l
  rw [bindS_ret, dLT_mk]
theorem walk_logsL (F : Nat) (rest : List Nat) (g : Bg) : walkR (F + 6) (91 :: 112 :: ([91, 108, 107, 118, 91, 97, 104, 93, 93] ++ 93 :: rest)) g = bindS logsL fun l => walkR (F + 5) rest (g.add (dList dLT l)) := by
  rw [walk_list (m := 11) rfl rfl (rds_recsL F) (hc := by decide)]
  rfl
def dSt (s : ST) : Bg := Bg.add ⟨[s.num], [], []⟩ (dList dCel ((List.range s.n).map s.cell))
theorem dSt_mk (n : Nat) (l : List VT) : dSt (mkS n l) = Bg.add (dNum n) (dList dCel l) := by
  show Bg.add ⟨[(n : Int)], [], []⟩ (dList dCel ((List.range l.length).map fun j => l.getD j .nil)) = _
  rw [range_mapD]
  rfl
theorem walk_state (F : Nat) (rest : List Nat) (g : Bg) : walkR (F + 4) (110 :: 60 :: 99 :: 107 :: ([91, 98, 118, 93] ++ 62 :: rest)) g = bindS stateS fun s => walkR (F + 2) rest (g.add (dSt s)) := by
  rw [walk_one (by decide) (rds_num (by decide))]
  unfold stateS
  rw [bindS_assoc]
  show bindS (numS 1073741824) _ = bindS (numS 1073741824) _
  congr 1
  funext n
  rw [walk_cells, bindS_assoc]
  congr 1
  funext l
  rw [bindS_ret, dSt_mk, Bg.add_assoc]
  rfl
def dFile (x : Nat × Nat) : Bg := ⟨[(x.1 : Int), (x.2 : Int)], [], []⟩
theorem rds_file (F : Nat) : Rds (walkR (F + 2) [122, 119]) fileS dFile := fun g => by
  rw [walk_one (by decide) (rds_num (by decide))]
  unfold fileS
  rw [bindS_assoc]
  show bindS (numS 65536) _ = bindS (numS 65536) _
  congr 1
  funext n
  rw [walk_one (by decide) rds_word, bindS_assoc]
  congr 1
  funext u
  rw [walk_nil, bindS_ret]
  simp [Bg.add, dFile]
def dMan (x : Nat × Nat × List (Nat × Nat)) : Bg := Bg.add (dFile (x.1, x.2.1)) (dList dFile x.2.2)
theorem walk_man (F : Nat) : walkR (F + 6) [77, 105, 119, 91, 114, 122, 119, 93] gNil = bindS manS fun m => retS (dMan m) := by
  rw [walk_one (by decide) (rds_cap (by decide))]
  unfold manS
  rw [bindS_assoc]
  congr 1
  funext _
  rw [walk_one (by decide) (rds_num (by decide)), bindS_assoc]
  show bindS (numS 9999) _ = bindS (numS 9999) _
  congr 1
  funext i
  rw [walk_one (by decide) rds_word, bindS_assoc]
  congr 1
  funext s
  rw [show ([91, 114, 122, 119, 93] : List Nat) = 91 :: 114 :: ([122, 119] ++ 93 :: []) from rfl, walk_list (m := 4) (by decide) rfl rfl (rds_file F), bindS_assoc]
  show bindS (listS 12 _ _ _) _ = bindS (listS 12 _ _ _) _
  congr 1
def dOut (x : Nat × RT) : Bg := Bg.add (dNum x.1) (dRec x.2)
theorem walk_out (F : Nat) : walkR (F + 6) [79, 110, 107, 118, 91, 97, 104, 93] gNil = bindS outS fun m => retS (dOut m) := by
  rw [walk_one (by decide) (rds_cap (by decide))]
  unfold outS
  rw [bindS_assoc]
  congr 1
  funext _
  rw [walk_one (by decide) (rds_num (by decide)), bindS_assoc]
  show bindS (numS 1073741824) _ = bindS (numS 1073741824) _
  congr 1
  funext i
  rw [walk_rec, bindS_assoc]
  congr 1
theorem walk_record (F : Nat) : walkR (F + 4) [107, 118, 91, 97, 104, 93] gNil = bindS recS fun r => retS (dRec r) := by
  rw [walk_rec]
  congr 1
theorem walk_st (F : Nat) : walkR (F + 4) [110, 60, 99, 107, 91, 98, 118, 93, 62] gNil = bindS stateS fun s => retS (dSt s) := by
  rw [show ([110, 60, 99, 107, 91, 98, 118, 93, 62] : List Nat) = 110 :: 60 :: 99 :: 107 :: ([91, 98, 118, 93] ++ 62 :: []) from rfl, walk_state]
  congr 1
def frontS : RS (Nat × Nat × Nat) := bindS (firstS 83) fun _ => bindS (numS 9999) fun i => bindS (numS 11) fun t => bindS (numS 9999) fun b => retS (i, t, b)
def dFront (x : Nat × Nat × Nat) : Bg := ⟨[(x.1 : Int), (x.2.1 : Int), (x.2.2 : Int)], [], []⟩
theorem walk_front (F : Nat) (rest : List Nat) : walkR (F + 4) (83 :: 105 :: 116 :: 105 :: rest) gNil = bindS frontS fun x => walkR F rest (dFront x) := by
  rw [walk_one (by decide) (rds_cap (by decide))]
  unfold frontS
  rw [bindS_assoc]
  congr 1
  funext _
  rw [walk_one (by decide) (rds_num (by decide)), bindS_assoc]
  show bindS (numS 9999) _ = bindS (numS 9999) _
  congr 1
  funext i
  rw [walk_one (by decide) (rds_num (by decide)), bindS_assoc]
  show bindS (numS 11) _ = bindS (numS 11) _
  congr 1
  funext t
  rw [walk_one (by decide) (rds_num (by decide)), bindS_assoc]
  show bindS (numS 9999) _ = bindS (numS 9999) _
  congr 1
def wholeS_ : RS (ST × List (LT RT) × List RT) := bindS stateS fun s => bindS logsL fun l => bindS recsS fun p => retS (s, l, p)
def dWhole (x : ST × List (LT RT) × List RT) : Bg := Bg.add (dSt x.1) (Bg.add (dList dLT x.2.1) (dList dRec x.2.2))
theorem walk_whole (F : Nat) (g : Bg) : walkR (F + 8) [110, 60, 99, 107, 91, 98, 118, 93, 62, 91, 112, 91, 108, 107, 118, 91, 97, 104, 93, 93, 93, 91, 108, 107, 118, 91, 97, 104, 93, 93] g = bindS wholeS_ fun x => retS (g.add (dWhole x)) := by
  rw [show ([110, 60, 99, 107, 91, 98, 118, 93, 62, 91, 112, 91, 108, 107, 118, 91, 97, 104, 93, 93, 93, 91, 108, 107, 118, 91, 97, 104, 93, 93] : List Nat) = 110 :: 60 :: 99 :: 107 :: ([91, 98, 118, 93] ++ 62 :: (91 :: 112 :: ([91, 108, 107, 118, 91, 97, 104, 93, 93] ++ 93 :: (91 :: 108 :: ([107, 118, 91, 97, 104, 93] ++ 93 :: []))))) from rfl, walk_state]
  unfold wholeS_
  rw [bindS_assoc]
  congr 1
  funext s
  rw [walk_logsL, bindS_assoc]
  congr 1
  funext l
  rw [walk_recs F _ _ 8 rfl rfl, bindS_assoc]
  congr 1
  funext p
  rw [walk_nil, bindS_ret]
  simp [Bg.add, dWhole]
def patchS_ : RS (Nat × (Nat × List VT × List ByteArray) × List (LT RT) × List RT) := bindS wordS fun u => bindS deltaS fun d => bindS logsL fun l => bindS recsS fun p => retS (u, d, l, p)
def dDl (d : Nat × List VT × List ByteArray) : Bg := Bg.add (dNum d.1) (Bg.add (dList dCel d.2.1) (dList (fun k => ⟨[], [k], []⟩) d.2.2))
def dPatch (x : Nat × (Nat × List VT × List ByteArray) × List (LT RT) × List RT) : Bg := Bg.add (dNum x.1) (Bg.add (dDl x.2.1) (Bg.add (dList dLT x.2.2.1) (dList dRec x.2.2.2)))
theorem walk_patch (F : Nat) (g : Bg) : walkR (F + 10) [119, 110, 60, 99, 107, 91, 98, 118, 93, 62, 60, 99, 107, 62, 91, 112, 91, 108, 107, 118, 91, 97, 104, 93, 93, 93, 91, 108, 107, 118, 91, 97, 104, 93, 93] g = bindS patchS_ fun x => retS (g.add (dPatch x)) := by
  rw [show ([119, 110, 60, 99, 107, 91, 98, 118, 93, 62, 60, 99, 107, 62, 91, 112, 91, 108, 107, 118, 91, 97, 104, 93, 93, 93, 91, 108, 107, 118, 91, 97, 104, 93, 93] : List Nat) = 119 :: 110 :: 60 :: 99 :: 107 :: ([91, 98, 118, 93] ++ 62 :: (60 :: 99 :: 107 :: ([] ++ 62 :: (91 :: 112 :: ([91, 108, 107, 118, 91, 97, 104, 93, 93] ++ 93 :: (91 :: 108 :: ([107, 118, 91, 97, 104, 93] ++ 93 :: []))))))) from rfl, walk_one (by decide) rds_word]
  unfold patchS_
  rw [bindS_assoc]
  congr 1
  funext u
  rw [walk_one (by decide) (rds_num (by decide)), bindS_assoc]
  unfold deltaS
  rw [bindS_assoc]
  show bindS (numS 1073741824) _ = bindS (numS 1073741824) _
  congr 1
  funext n
  rw [walk_cells, bindS_assoc]
  congr 1
  funext c
  rw [walk_gone, bindS_assoc]
  congr 1
  funext k
  rw [bindS_ret, walk_logsL, bindS_assoc]
  congr 1
  funext l
  rw [walk_recs F _ _ 8 rfl rfl, bindS_assoc]
  congr 1
  funext p
  rw [walk_nil, bindS_ret]
  simp [Bg.add, dPatch, dDl, dNum]
theorem seg_front : segS = bindS frontS fun x => if x.2.2 = 0 then bindS wholeS_ fun y => retS ⟨x.1, x.2.1, 0, 0, y.1, (0, [], []), y.2.1, y.2.2⟩ else bindS patchS_ fun y => retS ⟨x.1, x.2.1, x.2.2, y.1, mkS 0 [], y.2.1, y.2.2.1, y.2.2.2⟩ := by
  unfold segS frontS
  rw [bindS_assoc]
  congr 1
  funext _
  rw [bindS_assoc]
  congr 1
  funext i
  rw [bindS_assoc]
  congr 1
  funext t
  rw [bindS_assoc]
  congr 1
  funext b
  rw [bindS_ret]
  by_cases hb : b = 0
  · rw [if_pos hb, if_pos hb]
    unfold wholeS_
    simp only [bindS_assoc, bindS_ret]
  · rw [if_neg hb, if_neg hb]
    unfold patchS_
    simp only [bindS_assoc, bindS_ret]
end Go.Proofs.Ytikfpoabaaiegaa
