import Derived.Test.YtdpfgflofjiheaaPack5
namespace Go.Proofs.Ytdpfgflofjiheaa
open Go.RowKit
set_option maxRecDepth 8000
/-- a trail that can be -/
def CanL (n : Int) (l : LT TR) : Prop := 1 ≤ n ∧ n ≤ 12 ∧ ∀ q, q < l.n → Can n (l.item q)
/-- yes or no -/
def YesQ (P : Prop) (w : World) (e : Ending) (w' : World) : Prop := ∃ b : Bool, e = .returned (.bool b) ∧ (b = true ↔ P) ∧ Below w.heap.size w w'
/-- the four cells of an item -/
theorem LT.In.tr {w : World} {S : Nat → Prop} {l : LT TR} (h : LT.In elTr w S l) (hn : 0 < l.n) : ∃ b o, l.p = some ⟨b, o, none⟩ ∧ S b ∧ b < w.heap.size ∧ ∀ j, j < l.n → w.cell? ⟨b, o + j * 4, none⟩ = some (.int .i64 (l.item j).kind) ∧ w.cell? ⟨b, o + j * 4 + 1, none⟩ = some (.int .i64 (l.item j).task) ∧ w.cell? ⟨b, o + j * 4 + 2, none⟩ = some (.int .i64 (l.item j).port) ∧ w.cell? ⟨b, o + j * 4 + 3, none⟩ = some (.int .i64 (l.item j).id) := by
  obtain ⟨b, o, hp, hS, hl, ha⟩ := h.at_ hn
  exact ⟨b, o, hp, hS, hl, fun j hj => ⟨ha j hj 0 _ rfl, ha j hj 1 _ rfl, ha j hj 2 _ rfl, ha j hj 3 _ rfl⟩⟩
theorem LT.In.ev {w : World} {S : Nat → Prop} {l : LT EV} (h : LT.In elEv w S l) (hn : 0 < l.n) : ∃ b o, l.p = some ⟨b, o, none⟩ ∧ S b ∧ b < w.heap.size ∧ ∀ j, j < l.n → w.cell? ⟨b, o + j * 2, none⟩ = some (.int .i64 (l.item j).task) ∧ w.cell? ⟨b, o + j * 2 + 1, none⟩ = some (.int .i64 (l.item j).port) := by
  obtain ⟨b, o, hp, hS, hl, ha⟩ := h.at_ hn
  exact ⟨b, o, hp, hS, hl, fun j hj => ⟨ha j hj 0 _ rfl, ha j hj 1 _ rfl⟩⟩
set_option maxHeartbeats 8000000 in
/-- the reference's entry -/
theorem rentry_any (k t p i n : Int) (w : World) (hn : 1 ≤ n) : Calls Try.prog 40 #[.agg #[.int .i64 k, .int .i64 t, .int .i64 p, .int .i64 i], .int .i64 n] w fun e w' => CanQ n ⟨k, t, p, i⟩ w e w' := by
  have H := hid hn
  clear hn
  go_enter Try.func40, Try.ntmps40
  go_wp2
  all_goals
    go_ret
    refine ⟨_, rfl, ?_, below1 _ _⟩
    have hn := H.out
    unfold Can
    try dsimp only
    try simp only [beq_iff_eq, beq_eq_false_iff_ne, ne_eq] at *
    first | omega | (simp; omega) | (simp; done)
end Go.Proofs.Ytdpfgflofjiheaa

namespace Go.Proofs.Ytdpfgflofjiheaa
open Go.RowKit
set_option maxRecDepth 8000
/-- an entry ready of a snapshot; one of a copy -/
def TR.rd (i : Int) (t : TR) : Prop := t.kind = 6 ∧ t.id = i
def TR.cp (i k : Int) (t : TR) : Prop := t.kind = 3 ∧ t.id = i ∧ t.task = k
/-- the life of a snapshot among the first n entries: where it begins, its end -/
structure LifeAt (f : Nat → TR) (n : Nat) (i : Int) (a b : Nat) : Prop where
  ab : a ≤ b
  bn : b < n
  rd : (f b).rd i
  no : ∀ q, a ≤ q → q < b → ¬ (f q).rd i
  up : a = 0 ∨ (f (a - 1)).kind = 11
  last : ∃ z, b ≤ z ∧ z < n ∧ (f z).rd i ∧ (∀ q, z < q → q < n → ¬ (f q).rd i) ∧ ∀ q, a ≤ q → q ≤ z → (f q).kind ≠ 11
def NoLife (f : Nat → TR) (n : Nat) (i : Int) : Prop := ∀ q, q < n → ¬ (f q).rd i
theorem LifeAt.not {f : Nat → TR} {n : Nat} {i : Int} {a b : Nat} (h : LifeAt f n i a b) : ¬ NoLife f n i := fun k => k b h.bn h.rd
theorem LifeAt.uniq {f : Nat → TR} {n : Nat} {i : Int} {a b a' b' : Nat} (h : LifeAt f n i a b) (g : LifeAt f n i a' b') : a = a' ∧ b = b' := by
  obtain ⟨z, hz1, hz2, hz3, hz4, hz5⟩ := h.last
  obtain ⟨y, hy1, hy2, hy3, hy4, hy5⟩ := g.last
  have hab := h.ab
  have gab := g.ab
  have hzy : z = y := by
    rcases Nat.lt_trichotomy z y with h1 | h1 | h1
    · exact (hz4 y h1 hy2 hy3).elim
    · exact h1
    · exact (hy4 z h1 hz2 hz3).elim
  subst hzy
  have ha : a = a' := by
    rcases Nat.lt_trichotomy a a' with h1 | h1 | h1
    · rcases g.up with h2 | h2
      · omega
      · exact (hz5 (a' - 1) (by omega) (by omega) h2).elim
    · exact h1
    · rcases h.up with h2 | h2
      · omega
      · exact (hy5 (a - 1) (by omega) (by omega) h2).elim
  subst ha
  refine ⟨rfl, ?_⟩
  rcases Nat.lt_trichotomy b b' with h1 | h1 | h1
  · exact (g.no b hab h1 h.rd).elim
  · exact h1
  · exact (h.no b' gab h1 g.rd).elim
/-- what the reference's lifeOf answers -/
def RLifeQ (f : Nat → TR) (n : Nat) (i : Int) (e : Ending) : Prop := (NoLife f n i ∧ e = .returned (.tuple #[.int .i64 (-1), .int .i64 (-1)])) ∨ ∃ a b : Nat, LifeAt f n i a b ∧ e = .returned (.tuple #[.int .i64 (a : Int), .int .i64 (b : Int)])
/-- what is known while it looks back: k entries are left -/
def RSeek (f : Nat → TR) (n : Nat) (i : Int) (k : Nat) (x : Int) : Prop := (x = -1 ∧ ∀ q, k ≤ q → q < n → ¬ (f q).rd i) ∨ ∃ b : Nat, x = (b : Int) ∧ k ≤ b ∧ b < n ∧ (f b).rd i ∧ (∀ q, k ≤ q → q < b → ¬ (f q).rd i) ∧ ∃ z, b ≤ z ∧ z < n ∧ (f z).rd i ∧ (∀ q, z < q → q < n → ¬ (f q).rd i) ∧ ∀ q, k ≤ q → q ≤ z → (f q).kind ≠ 11
theorem RSeek.start (f : Nat → TR) (n : Nat) (i : Int) : RSeek f n i n (-1) := .inl ⟨rfl, fun q h1 h2 => by omega⟩
theorem RSeek.hit {f : Nat → TR} {n : Nat} {i : Int} {k : Nat} {x : Int} (h : RSeek f n i (k + 1) x) (hk : k < n) (hr : (f k).rd i) : RSeek f n i k (k : Int) := by
  refine .inr ⟨k, rfl, Nat.le_refl _, hk, hr, fun q h1 h2 => by omega, ?_⟩
  rcases h with ⟨_, h⟩ | ⟨b, _, hb1, hb2, hb3, _, z, hz1, hz2, hz3, hz4, hz5⟩
  · refine ⟨k, Nat.le_refl _, hk, hr, fun q h1 h2 => h q (by omega) h2, fun q h1 h2 => ?_⟩
    obtain rfl : q = k := by omega
    have := hr.1
    omega
  · refine ⟨z, by omega, hz2, hz3, hz4, fun q h1 h2 => ?_⟩
    by_cases hq : q = k
    · subst hq
      have := hr.1
      omega
    · exact hz5 q (by omega) h2
theorem RSeek.miss {f : Nat → TR} {n : Nat} {i : Int} {k : Nat} {x : Int} (h : RSeek f n i (k + 1) x) (hr : ¬ (f k).rd i) (hu : (f k).kind ≠ 11 ∨ x < 0) : RSeek f n i k x := by
  rcases h with ⟨rfl, h⟩ | ⟨b, rfl, hb1, hb2, hb3, hb4, z, hz1, hz2, hz3, hz4, hz5⟩
  · refine .inl ⟨rfl, fun q h1 h2 => ?_⟩
    by_cases hq : q = k
    · subst hq; exact hr
    · exact h q (by omega) h2
  · refine .inr ⟨b, rfl, by omega, hb2, hb3, fun q h1 h2 => ?_, z, hz1, hz2, hz3, hz4, fun q h1 h2 => ?_⟩
    · by_cases hq : q = k
      · subst hq; exact hr
      · exact hb4 q (by omega) h2
    · by_cases hq : q = k
      · subst hq
        rcases hu with hu | hu
        · exact hu
        · omega
      · exact hz5 q (by omega) h2
theorem RSeek.up {f : Nat → TR} {n : Nat} {i : Int} {k : Nat} {x : Int} (h : RSeek f n i (k + 1) x) (hu : (f k).kind = 11) (hx : 0 ≤ x) : ∃ b : Nat, x = (b : Int) ∧ LifeAt f n i (k + 1) b := by
  rcases h with ⟨rfl, h⟩ | ⟨b, rfl, hb1, hb2, hb3, hb4, hz⟩
  · omega
  · exact ⟨b, rfl, hb1, hb2, hb3, hb4, .inr (by simpa using hu), hz⟩
theorem RSeek.done {f : Nat → TR} {n : Nat} {i : Int} {x : Int} (h : RSeek f n i 0 x) : (x = -1 ∧ NoLife f n i) ∨ ∃ b : Nat, x = (b : Int) ∧ LifeAt f n i 0 b := by
  rcases h with ⟨rfl, h⟩ | ⟨b, rfl, hb1, hb2, hb3, hb4, hz⟩
  · exact .inl ⟨rfl, fun q hq => h q (Nat.zero_le _) hq⟩
  · exact .inr ⟨b, rfl, hb1, hb2, hb3, hb4, .inl rfl, hz⟩
theorem RSeek.lt {f : Nat → TR} {n : Nat} {i : Int} {k : Nat} {x : Int} (h : RSeek f n i k x) : -1 ≤ x ∧ x < (n : Int) ∨ x = -1 := by
  rcases h with ⟨rfl, _⟩ | ⟨b, rfl, _, hb, _⟩
  · exact .inr rfl
  · exact .inl ⟨by omega, by omega⟩
set_option maxHeartbeats 8000000 in
theorem rlifeOf_any (l : LT TR) (n : Nat) (i : Int) (w : World) (S : Nat → Prop) (hl : LT.In elTr w S l) (hn : n ≤ l.n) :
    Calls Try.prog 29 #[.slice l.p l.n l.c, .int .i64 (n : Int), .int .i64 i] w fun e w' => RLifeQ l.item n i e ∧ w' = w := by
  have hnn := hl.nn
  have H := hid hl
  clear hl
  go_enter Try.func29, Try.ntmps29
  go_wp2_with fail
  go_loopw [8, 9] (fun x y wr => ∃ (k : Nat) (z : Int), k ≤ n ∧ y = .int .i64 ((k : Int) - 1) ∧ x = .int .i64 z ∧ RSeek l.item n i k z ∧ wr = w) (fun _ y _ => ((intOf y) + 1).toNat)
  case atStart => exact ⟨n, -1, Nat.le_refl _, by go_num, rfl, RSeek.start _ _ _, rfl⟩
  case round =>
    obtain ⟨k, z, hk, rfl, rfl, hs, rfl⟩ := hrel
    have HS := hid hs
    have hz := hs.lt
    clear hs
    cases k with
    | zero =>
      rcases HS.out.done with ⟨rfl, hd⟩ | ⟨b, rfl, hd⟩
      · have HD := hid hd
        clear hd hz
        go_wp2
        exact bodyPost_ret (v := .tuple #[.int .i64 (-1), .int .i64 (-1)]) (by simp [results, Try.results29, go_sem]) rfl ⟨.inl ⟨HD.out, rfl⟩, rfl⟩
      · have HD := hid hd
        have hb0 : ¬ (b : Int) < 0 := by omega
        clear hd hz
        go_wp2
        exact bodyPost_ret (v := .tuple #[.int .i64 0, .int .i64 (b : Int)]) (by simp [results, Try.results29, go_sem]) rfl ⟨.inr ⟨0, b, HD.out, rfl⟩, rfl⟩
    | succ k =>
      have hlt : k < l.n := by omega
      have hlt' : (k : Int) < (l.n : Int) := by omega
      obtain ⟨b1, o1, hp, _, hl1, ha⟩ := H.out.tr (by omega)
      obtain ⟨a0, a1, a2, a3⟩ := ha k hlt
      rw [hp]
      clear ha hp
      have e1 : ((k + 1 : Nat) : Int) - 1 = (k : Int) := by omega
      rw [e1]
      clear e1
      by_cases h6 : (l.item k).kind = 6
      · by_cases hi : (l.item k).id = i
        · have HR : Hid ((l.item k).rd i) := ⟨h6, hi⟩
          rw [h6] at a0
          rw [hi] at a3
          clear h6 hi hz
          go_wp2
          go_roundw
          case rel => exact ⟨k, (k : Int), by omega, rfl, rfl, HS.out.hit (by omega) HR.out, by first | rfl | trivial⟩
          case measure => simp [intOf]
        · have HR : Hid (¬ (l.item k).rd i) := fun h => hi h.2
          have HU : Hid ((l.item k).kind ≠ 11 ∨ z < 0) := .inl (by omega)
          rw [h6] at a0
          clear h6 hz
          go_wp2
          go_roundw
          case rel => exact ⟨k, z, by omega, rfl, rfl, HS.out.miss HR.out HU.out, by first | rfl | trivial⟩
          case measure => simp [intOf]
      · have HR : Hid (¬ (l.item k).rd i) := fun h => h6 h.1
        by_cases h11 : (l.item k).kind = 11
        · by_cases hz0 : 0 ≤ z
          · obtain ⟨b, rfl, hb⟩ := HS.out.up h11 hz0
            have HB := hid hb
            rw [h11] at a0
            clear h11 h6 hb hz
            go_wp2
            exact bodyPost_ret (v := .tuple #[.int .i64 ((k : Int) + 1), .int .i64 (b : Int)]) (by simp [results, Try.results29, go_sem]) rfl ⟨.inr ⟨k + 1, b, HB.out, by go_num⟩, rfl⟩
          · have HU : Hid ((l.item k).kind ≠ 11 ∨ z < 0) := .inr (by omega)
            rw [h11] at a0
            clear h11 h6 hz
            go_wp2
            go_roundw
            case rel => exact ⟨k, z, by omega, rfl, rfl, HS.out.miss HR.out HU.out, by first | rfl | trivial⟩
            case measure => simp [intOf]
        · have HU : Hid ((l.item k).kind ≠ 11 ∨ z < 0) := .inl h11
          clear hz
          go_wp2
          go_roundw
          case rel => exact ⟨k, z, by omega, rfl, rfl, HS.out.miss HR.out HU.out, by first | rfl | trivial⟩
          case measure => simp [intOf]
end Go.Proofs.Ytdpfgflofjiheaa
