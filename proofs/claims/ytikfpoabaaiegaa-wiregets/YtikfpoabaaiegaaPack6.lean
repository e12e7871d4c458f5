import Derived.Test.YtikfpoabaaiegaaPack4
import Derived.Test.YtikfpoabaaiegaaDecP
import Derived.Test.YtikfpoabaaiegaaPack0
namespace Go.Proofs.Ytikfpoabaaiegaa
open Go.RowKit
set_option maxRecDepth 8000
theorem strOf_datC (zs : List Int) : (strOf zs).data.toList = zs.map fun z => UInt8.ofNat z.toNat := by
  have key : ∀ (zs : List Int) (r : ByteArray), (zs.foldl (fun r n => r.push (UInt8.ofNat n.toNat)) r).data.toList = r.data.toList ++ zs.map fun z => UInt8.ofNat z.toNat := by
    intro zs
    induction zs with
    | nil => intro r; simp
    | cons z zs ih =>
      intro r
      rw [List.foldl_cons, ih]
      simp [ByteArray.push]
  have h := key zs ByteArray.empty
  simpa [strOf] using h
theorem txt_strOf {zs : List Int} (h : ∀ x ∈ zs, 0 ≤ x ∧ x ≤ 255) : txtB (strOf zs) = zs := by
  unfold txtB
  rw [strOf_datC, List.map_map]
  conv => rhs; rw [← List.map_id zs]
  apply List.map_congr_left
  intro x hx
  obtain ⟨h0, h1⟩ := h x hx
  simp only [Function.comp, id, UInt8.toNat_ofNat']
  rw [Nat.mod_eq_of_lt (by omega)]
  omega
def Sound (f : Nat → Int) (n d : Nat) (g : Nat → Nat → DR) : Prop := ∀ a q v a' q', g a q = .ok (v, a', q') → chk v d q = (0, q') ∧ a < a' ∧ a' ≤ n ∧ encB v = bytesAt f a (a' - a)
theorem items_sound {f : Nat → Int} {n d : Nat} {g : Nat → Nat → DR} (hg : Sound f n (d + 1) g) : ∀ m a q l a' q', a ≤ n → itemsS g m a q = .ok (l, a', q') → chkL d q l = (0, q') ∧ a ≤ a' ∧ a' ≤ n ∧ l.flatMap encB = bytesAt f a (a' - a) ∧ l.length = m := by
  intro m
  induction m with
  | zero =>
    intro a q l a' q' ha h
    simp only [itemsS, Except.ok.injEq, Prod.mk.injEq] at h
    obtain ⟨rfl, rfl, rfl⟩ := h
    exact ⟨rfl, Nat.le_refl _, ha, by simp [bytesAt], rfl⟩
  | succ m ih =>
    intro a q l a' q' ha h
    rw [itemsS] at h
    split at h
    · cases h
    · rename_i l1 a1 q1 h1
      split at h
      · cases h
      · rename_i v a2 q2 h2
        simp only [Except.ok.injEq, Prod.mk.injEq] at h
        obtain ⟨rfl, rfl, rfl⟩ := h
        obtain ⟨c1, c2, c3, c4, c5⟩ := ih _ _ _ _ _ ha h1
        obtain ⟨d1, d2, d3, d4⟩ := hg _ _ _ _ _ h2
        refine ⟨chkL_app c1 d1, by omega, d3, ?_, by simp [c5]⟩
        rw [List.flatMap_append, c4, List.flatMap_cons, List.flatMap_nil, List.append_nil, d4, show a2 - a = (a1 - a) + (a2 - a1) by omega, bytesAt_app, show a + (a1 - a) = a1 by omega]
theorem part_sound {f : Nat → Int} {n d : Nat} {g : Nat → Nat → DR} (hf : ∀ j, j < n → 0 ≤ f j ∧ f j ≤ 255) (hg : Sound f n (d + 1) g) : Sound f n d (partS f n g d) := by
  intro a q v a' q' h
  unfold partS at h
  by_cases h1 : n ≤ a
  · rw [if_pos h1] at h; cases h
  rw [if_neg h1] at h
  obtain ⟨hf0, hf1⟩ := hf a (by omega)
  obtain ⟨c, hc⟩ := Int.eq_ofNat_of_zero_le hf0
  rw [hc] at h
  simp only [Int.toNat_natCast] at h
  split at h
  · cases h
  rename_i h12
  split at h
  · cases h
  rename_i h3
  split at h
  · cases h
  rename_i h33
  split at h
  · rename_i h4
    simp only [Except.ok.injEq, Prod.mk.injEq] at h
    obtain ⟨rfl, rfl, rfl⟩ := h
    refine ⟨chk_mkN (by omega), by omega, by omega, ?_⟩
    rw [show a + 1 - a = 1 by omega, bytesAt_one, hc, h4]
    unfold mkN
    rw [encB_eq]
    simp
  split at h
  · rename_i h4
    split at h
    · cases h
    · rename_i u a2 h5
      simp only [Except.ok.injEq, Prod.mk.injEq] at h
      obtain ⟨rfl, rfl, rfl⟩ := h
      obtain ⟨m, e1, e2, e3, e4, _⟩ := grp_sound f n hf _ _ _ _ _ _ h5 (by decide)
      refine ⟨chk_mkI _ (by omega), by omega, e4, ?_⟩
      have e5 : m = u := by simpa using e1.symm
      rw [show a2 - a = (a2 - (a + 1)) + 1 by omega, bytesAt_cons, hc, h4, ← e2, e5]
      unfold mkI
      rw [encB_eq, fold_unfold]
      simp
  split at h
  · cases h
  rename_i h5
  obtain ⟨hg0, hg1⟩ := hf (a + 1) (by omega)
  obtain ⟨z, hz⟩ := Int.eq_ofNat_of_zero_le hg0
  rw [hz] at h
  simp only [Int.toNat_natCast] at h
  split at h
  · rename_i h6
    split at h
    · cases h
    rename_i h24
    split at h
    · cases h
    rename_i h7
    simp only [Except.ok.injEq, Prod.mk.injEq] at h
    obtain ⟨rfl, rfl, rfl⟩ := h
    have hsz : (strOf (bytesAt f (a + 2) z)).size = z := by rw [strOf_size, bytesAt_len]
    refine ⟨chk_mkT (by omega) (by omega), by omega, by omega, ?_⟩
    rw [show a + 2 + z - a = z + 1 + 1 by omega, bytesAt_cons, bytesAt_cons, hc, hz, h6]
    unfold mkT
    rw [encB_eq, hsz, txt_strOf (fun x hx => by
      simp only [bytesAt, List.mem_map, List.mem_range] at hx
      obtain ⟨j, hj, rfl⟩ := hx
      exact hf _ (by omega))]
    simp
  · rename_i h6
    split at h
    · cases h
    rename_i h7
    split at h
    · cases h
    · rename_i l a2 q2 h8
      simp only [Except.ok.injEq, Prod.mk.injEq] at h
      obtain ⟨rfl, rfl, rfl⟩ := h
      obtain ⟨c1, c2, c3, c4, c5⟩ := items_sound hg _ _ _ _ _ _ (by omega) h8
      have hd : d < 3 := by omega
      refine ⟨by rw [chk_mkL (by omega) hd (by omega)]; exact c1, by omega, c3, ?_⟩
      rw [enc_mkL, c4, c5, show a2 - a = (a2 - (a + 2)) + 1 + 1 by omega, bytesAt_cons, bytesAt_cons, hc, hz, show c = 3 by omega]
      rfl
theorem dec_sound {f : Nat → Int} {n : Nat} (hf : ∀ j, j < n → 0 ≤ f j ∧ f j ≤ 255) : ∀ k d, Sound f n d (decS f n k d) := by
  intro k
  induction k with
  | zero => intro d; exact part_sound hf (fun _ _ _ _ _ h => by cases h)
  | succ k ih => intro d; exact part_sound hf (ih (d + 1))
def Known (e : Nat) : Prop := e = 21 ∨ e = 22 ∨ e = 23 ∨ e = 28
theorem items_known {g : Nat → Nat → DR} (hg : ∀ a q e, g a q = .error e → Known e) : ∀ m a q e, itemsS g m a q = .error e → Known e := by
  intro m
  induction m with
  | zero => intro a q e h; cases h
  | succ m ih =>
    intro a q e h
    rw [itemsS] at h
    split at h
    · rename_i e1 h1
      cases h
      exact ih _ _ _ h1
    · split at h
      · rename_i e1 h2
        cases h
        exact hg _ _ _ h2
      · cases h
theorem part_known {f : Nat → Int} {n d : Nat} {g : Nat → Nat → DR} (hg : ∀ a q e, g a q = .error e → Known e) {a q e : Nat} (h : partS f n g d a q = .error e) : Known e := by
  unfold partS at h
  repeat' split at h
  all_goals first
    | (cases h; simp [Known]; done)
    | (cases h; done)
    | (rename_i h1; cases h; exact items_known hg _ _ _ _ h1)
theorem dec_known {f : Nat → Int} {n : Nat} : ∀ k d a q e, decS f n k d a q = .error e → Known e := by
  intro k
  induction k with
  | zero => intro d a q e h; exact part_known (fun _ _ _ h => by cases h; simp [Known]) h
  | succ k ih => intro d a q e h; exact part_known (fun a q e h => ih _ _ _ _ h) h
end Go.Proofs.Ytikfpoabaaiegaa

namespace Go.Proofs.Ytikfpoabaaiegaa
open Go.RowKit
set_option maxRecDepth 8000

abbrev RS (α : Type) := List Int → Except Nat (α × List Int)
def bindS {α β : Type} (s : RS α) (g : α → RS β) : RS β := fun L => match s L with | .error e => .error e | .ok (y, R) => g y R
def retS {α : Type} (y : α) : RS α := fun L => .ok (y, L)
def failS {α : Type} (e : Nat) : RS α := fun _ => .error e
def takeS (n : Nat) : RS (List Int) := fun L => if n ≤ L.length then .ok (L.take n, L.drop n) else .error 40
def numG (bound : Nat) : Nat → Nat → Nat → RS Nat
  | 0, _, _ => failS 41
  | k + 1, i, u => bindS (takeS 1) fun l =>
      if (l.headD 0).toNat < 128 then (if 0 < i ∧ (l.headD 0).toNat = 0 then failS 41 else if bound < (u ||| (l.headD 0).toNat % 128 * 2 ^ (7 * i)) then failS 43 else retS (u ||| (l.headD 0).toNat % 128 * 2 ^ (7 * i)))
      else numG bound k (i + 1) (u ||| (l.headD 0).toNat % 128 * 2 ^ (7 * i))
def numS (bound : Nat) : RS Nat := numG bound 5 0 0
def wordN (l : List Int) : Nat := (l.getD 0 0).toNat + (l.getD 1 0).toNat * 256 + (l.getD 2 0).toNat * 65536 + (l.getD 3 0).toNat * 16777216
def wordS : RS Nat := bindS (takeS 4) fun l => retS (wordN l)
def firstS (x : Int) : RS Unit := bindS (takeS 1) fun l => if l.headD 0 = x then retS () else failS 41
def keyS : RS ByteArray := bindS (numS 12) fun n => bindS (takeS n) fun l => retS (strOf l)
def valS : RS VT := fun L => match decS (fun j => L.getD j 0) L.length 3 0 0 0 with | .error e => .error e | .ok (t, a, _) => .ok (t, L.drop a)
def iterS {α σ : Type} (item : σ → RS α) (nx : σ → α → σ) : Nat → σ → RS (List α × σ)
  | 0, s => retS ([], s)
  | m + 1, s => bindS (iterS item nx m s) fun y => bindS (item y.2) fun x => retS (y.1 ++ [x], nx y.2 x)
def listS {α σ : Type} (bound : Nat) (item : σ → RS α) (nx : σ → α → σ) (s : σ) : RS (List α) := bindS (numS bound) fun m => bindS (iterS item nx m s) fun y => retS y.1
def hopS : RS Nat := numS 9
def hopI : RS Int := bindS hopS fun n => retS (n : Int)
def mkR (k : ByteArray) (v : VT) (l : List Int) : RT := ⟨k, v, none, l.length, 0, fun j => l.getD j 0⟩
def recS : RS RT := bindS keyS fun k => bindS valS fun v => bindS (listS 3 (fun _ : Unit => hopI) (fun _ _ => ()) ()) fun l => retS (mkR k v l)
def recsS : RS (List RT) := listS 256 (fun _ : Unit => recS) (fun _ _ => ()) ()
def riseS (last : Option ByteArray) : RS ByteArray := bindS keyS fun k => if (match last with | none => true | some l => Op.bytesLess l.toList k.toList) = true then retS k else failS 42
def valsS : RS (List VT) := listS 6 (fun _ : Unit => valS) (fun _ _ => ()) ()
def mkC (k : ByteArray) (l : List VT) : VT := .mk 0 0 k l.length none 0 (fun j => l.getD j .nil)
def cellS (last : Option ByteArray) : RS VT := bindS (riseS last) fun k => bindS valsS fun l => retS (mkC k l)
def cellsS : RS (List VT) := listS 64 cellS (fun _ c => some c.text) none
def mkS (n : Nat) (l : List VT) : ST := ⟨(n : Int), none, l.length, 0, fun j => l.getD j .nil⟩
def stateS : RS ST := bindS (numS 1073741824) fun n => bindS cellsS fun l => retS (mkS n l)
def goneS : RS (List ByteArray) := listS 64 riseS (fun _ k => some k) none

def fileS : RS (Nat × Nat) := bindS (numS 65536) fun n => bindS wordS fun w => retS (n, w)
def filesS : RS (List (Nat × Nat)) := listS 12 (fun _ : Unit => fileS) (fun _ _ => ()) ()
def manS : RS (Nat × Nat × List (Nat × Nat)) := bindS (firstS 77) fun _ => bindS (numS 9999) fun i => bindS wordS fun s => bindS filesS fun l => retS (i, s, l)
def outS : RS (Nat × RT) := bindS (firstS 79) fun _ => bindS (numS 1073741824) fun a => bindS recS fun r => retS (a, r)
def deltaS : RS (Nat × List VT × List ByteArray) := bindS (numS 1073741824) fun n => bindS cellsS fun c => bindS goneS fun g => retS (n, c, g)
structure RR {α : Type} (s : RS α) (ok : α → Prop) (L : List Int) (e : Int) (R : List Int) (e' : Int) : Prop where
  stay : e ≠ 0 → e' = e
  good : e = 0 → ∀ y T, s L = .ok (y, T) → R = T ∧ e' = 0 ∧ ok y
  bad : e = 0 → ∀ k, s L = .error k → e' = (k : Int) ∧ e' ≠ 0
theorem RR.bind {α β : Type} {s : RS α} {g : α → RS β} {ok : α → Prop} {ok2 : β → Prop} {L R1 R2 : List Int} {e e1 e2 : Int} (h1 : RR s ok L e R1 e1) (h2 : ∀ y, ok y → e1 = 0 → RR (g y) ok2 R1 e1 R2 e2) (hs : e1 ≠ 0 → e2 = e1) : RR (bindS s g) ok2 L e R2 e2 := by
  refine ⟨fun he => ?_, fun he y T hy => ?_, fun he k hk => ?_⟩
  · have h := h1.stay he
    rw [hs (by rw [h]; exact he), h]
  · unfold bindS at hy
    cases hL : s L with
    | error k => rw [hL] at hy; cases hy
    | ok z =>
      obtain ⟨y1, T1⟩ := z
      rw [hL] at hy
      obtain ⟨a1, a2, a3⟩ := h1.good he y1 T1 hL
      simp only at hy
      rw [← a1] at hy
      exact (h2 y1 a3 a2).good a2 y T hy
  · unfold bindS at hk
    cases hL : s L with
    | error k1 =>
      rw [hL] at hk
      cases hk
      obtain ⟨a1, a2⟩ := h1.bad he k hL
      rw [hs a2]
      exact ⟨a1, a2⟩
    | ok z =>
      obtain ⟨y1, T1⟩ := z
      rw [hL] at hk
      obtain ⟨a1, a2, a3⟩ := h1.good he y1 T1 hL
      simp only at hk
      rw [← a1] at hk
      exact (h2 y1 a3 a2).bad a2 k hk
theorem RR.ret {α : Type} {y : α} {ok : α → Prop} {L : List Int} {e : Int} (h : e = 0 → ok y) : RR (retS y) ok L e L e :=
  ⟨fun _ => rfl, fun he z T hz => by cases hz; exact ⟨rfl, he, h he⟩, fun _ k hk => by cases hk⟩
theorem RR.mono {α : Type} {s : RS α} {ok ok2 : α → Prop} {L R : List Int} {e e' : Int} (h : RR s ok L e R e') (hk : e' = 0 → ∀ y, ok y → ok2 y) : RR s ok2 L e R e' :=
  ⟨h.stay, fun he y T hy => by obtain ⟨a, b, c⟩ := h.good he y T hy; exact ⟨a, b, hk b y c⟩, h.bad⟩
theorem RR.map {α β : Type} {s : RS α} {f : α → β} {ok : α → Prop} {ok2 : β → Prop} {L R : List Int} {e e' : Int} (h : RR s ok L e R e') (hk : e' = 0 → ∀ y, ok y → ok2 (f y)) : RR (bindS s fun y => retS (f y)) ok2 L e R e' :=
  h.bind (fun y hy he => RR.ret fun _ => hk he y hy) (fun _ => rfl)
end Go.Proofs.Ytikfpoabaaiegaa

namespace Go.Proofs.Ytikfpoabaaiegaa
open Go.RowKit
set_option maxRecDepth 8000

structure Rdr (w : World) (S : Nat → Prop) (rb : Nat) (L : List Int) (e : Int) : Prop where
  box : ∃ p, Box w rb #[.slice p L.length L.length, .int .i64 e] 187 ∧ Byts w S p L.length L.length (fun j => L.getD j 0)
  out : ¬ S rb
theorem Rdr.below {w w' : World} {S : Nat → Prop} {rb : Nat} {L : List Int} {e : Int} (h : Rdr w S rb L e) (hb : Below w.heap.size w w') : Rdr w' S rb L e := by
  obtain ⟨⟨p, hx, hy⟩, ho⟩ := h
  exact ⟨⟨p, hx.below hb, hy.kept hb.size fun b _ hl => hb.block b hl⟩, ho⟩
theorem Rdr.but {w w' : World} {S X : Nat → Prop} {rb : Nat} {L : List Int} {e : Int} (h : Rdr w S rb L e) (hb : But X w w') (hx : ¬ X rb) (hS : ∀ b, S b → b < w.heap.size → ¬ X b) : Rdr w' S rb L e := by
  obtain ⟨⟨p, hx2, hy⟩, ho⟩ := h
  exact ⟨⟨p, hx2.but hb hx, hy.kept hb.size fun b hb2 hl => hb.block b hl (hS b hb2 hl)⟩, ho⟩
theorem Rdr.lt {w : World} {S : Nat → Prop} {rb : Nat} {L : List Int} {e : Int} (h : Rdr w S rb L e) : rb < w.heap.size := by
  obtain ⟨⟨p, hx, _⟩, _⟩ := h
  exact hx.lt
structure RdS {α : Type} (s : RS α) (ok : α → Prop) (w : World) (S : Nat → Prop) (rb : Nat) (L : List Int) (e : Int) (R : List Int) (e' : Int) (w' : World) : Prop where
  rr : RR s ok L e R e'
  rd : Rdr w' S rb R e'
  kp : But (fun y => y = rb) w w'

def FailPost (w : World) (S : Nat → Prop) (rb : Nat) (L : List Int) (e k : Int) (x : Ending) (w' : World) : Prop := x = .returned (.tuple #[]) ∧ Rdr w' S rb L (if e = 0 then k else e) ∧ But (fun y => y = rb) w w'
set_option maxHeartbeats 1000000 in
theorem wrFail_any (w : World) (S : Nat → Prop) (rb : Nat) (L : List Int) (e k : Int) (h : Rdr w S rb L e) : Calls Try.prog 117 #[.pointer (some ⟨rb, 0, none⟩), .int .i64 k] w fun x w' => FailPost w S rb L e k x w' := by
  obtain ⟨⟨p, hx, hy⟩, ho⟩ := id h
  have x1 := hx.cell 1
  have f1 := hx.frozen 1
  simp at x1
  have HX := hid hx
  have HY := hid hy
  have HH := hid h
  clear h hx hy
  by_cases he : e = 0
  · subst he
    go_enter Try.func117, Try.ntmps117
    go_wp2
    have hbx : Box (w.setCell ⟨rb, 1, none⟩ (.int .i64 k)) rb #[.slice p L.length L.length, .int .i64 k] 187 := by
      have h := HX.out.set 1 (.int .i64 k)
      simpa using h
    have hk := (But.one w rb).setAt 1 (.int .i64 k)
    refine bodyPost_end (results_none rfl _ _ _) rfl ⟨rfl, ⟨⟨p, by rw [if_pos rfl]; exact hbx, HY.out.kept hk.size fun b hb hl => hk.block b hl (fun e => ho (e ▸ hb))⟩, ho⟩, hk⟩
  · have he' : (e == 0) = false := by simpa using he
    go_enter Try.func117, Try.ntmps117
    go_wp2
    refine bodyPost_end (results_none rfl _ _ _) rfl ⟨rfl, by rw [if_neg he]; exact HH.out, But.refl _ _⟩

def TakeP (w : World) (S : Nat → Prop) (rb : Nat) (L : List Int) (e : Int) (n : Nat) (x : Ending) (w' : World) : Prop :=
  ∃ p T R e', x = .returned (.slice p T.length T.length) ∧ Byts w' S p T.length T.length (fun j => T.getD j 0) ∧ RdS (takeS n) (fun y => T = y) w S rb L e R e' w' ∧ (e' ≠ 0 → T = [])
theorem getD_drop (L : List Int) (n j : Nat) : (L.drop n).getD j 0 = L.getD (n + j) 0 := by simp [List.getD_eq_getElem?_getD, List.getElem?_drop]
theorem getD_take {L : List Int} {n j : Nat} (h : j < n) : (L.take n).getD j 0 = L.getD j 0 := by simp [List.getD_eq_getElem?_getD, h]
theorem Byts.cut {w : World} {S : Nat → Prop} {p q : Option Addr} {L : List Int} {n : Nat} (h : Byts w S p L.length L.length (fun j => L.getD j 0)) (hn : n ≤ L.length) (hp : p = none → L.length = 0) (hq : n < L.length → q = from_ p n) :
    Byts w S p (L.take n).length (L.take n).length (fun j => (L.take n).getD j 0) ∧ Byts w S q (L.drop n).length (L.drop n).length (fun j => (L.drop n).getD j 0) := by
  have h1 : (L.take n).length = n := by simp [hn]
  have h2 : (L.drop n).length = L.length - n := by simp
  have hnn := h.nn
  have hcc := h.cc
  rw [h1, h2]
  refine ⟨⟨fun h0 => ?_, Nat.le_refl _, by omega, by omega, fun j hj => ?_, fun hpn => ?_⟩, ⟨fun h0 => ?_, Nat.le_refl _, by omega, by omega, fun j hj => ?_, fun hpn => ?_⟩⟩
  · obtain ⟨b, o, e, hS, hl, ha⟩ := h.at_ (by omega)
    exact ⟨b, o, e, hS, hl, fun j hj => by rw [getD_take hj]; exact ha j (by omega)⟩
  · have := h.fit j (by omega)
    rw [getD_take hj]
    exact this
  · have := hp hpn
    omega
  · obtain ⟨b, o, e, hS, hl, ha⟩ := h.at_ (by omega)
    refine ⟨b, o + n, by rw [hq (by omega), e]; simp [from_, Addr.add], hS, hl, fun j hj => ?_⟩
    rw [getD_drop, Nat.add_assoc]
    exact ha (n + j) (by omega)
  · have := h.fit (n + j) (by omega)
    rw [getD_drop]
    exact this
  · rcases Nat.lt_or_ge n L.length with h3 | h3
    · have h4 := hq h3
      rw [hpn] at h4
      cases p with
      | none => have := hp rfl; omega
      | some a => simp [from_] at h4
    · omega
set_option maxHeartbeats 2000000 in
theorem wrTake_any (w : World) (S : Nat → Prop) (rb : Nat) (L : List Int) (e : Int) (n : Nat) (hn : n ≤ 140737488355328) (h : Rdr w S rb L e) : Calls Try.prog 143 #[.pointer (some ⟨rb, 0, none⟩), .int .i64 n] w fun x w' => TakeP w S rb L e n x w' := by
  obtain ⟨⟨p, hx, hy⟩, ho⟩ := id h
  have x0 := hx.cell 0
  have x1 := hx.cell 1
  have f0 := hx.frozen 0
  simp at x0 x1
  have hnn := hy.nn
  have HX := hid hx
  have HY := hid hy
  have HH := hid h
  clear h hx hy
  obtain ⟨m, hm⟩ : ∃ m, m = L.length := ⟨_, rfl⟩
  rw [← hm] at x0 hnn
  have hp0 : p = none → L.length = 0 := fun hp => (HY.out.nil hp).1
  by_cases hlt : m < n
  · have hlt' : (m : Int) < (n : Int) := by omega
    have HF := hid (wrFail_any w S rb L e 40 HH.out)
    go_enter Try.func143, Try.ntmps143
    go_wp2_with fail
    refine HF.out.mono ?_
    rintro x w1 ⟨rfl, hr1, hk1⟩
    obtain ⟨⟨p2, hx2, hy2⟩, _⟩ := id hr1
    have y1 := hx2.cell 1
    simp at y1
    have hne : (if e = 0 then (40 : Int) else e) ≠ 0 := by split <;> omega
    have HR := hid hr1
    have HK := hid hk1
    have HNe := hid hne
    clear hx2 hy2 hr1 hk1 HF x0 x1 f0 p2
    generalize hE : (if e = 0 then (40 : Int) else e) = E at *
    have hE' : (E == 0) = false := by simpa using hne
    go_wp2
    go_ret
    refine ⟨none, [], L, E, rfl, ⟨fun h => absurd h (by simp), Nat.le_refl _, Nat.zero_le _, Nat.zero_le _, fun j hj => absurd hj (by simp), fun _ => ⟨rfl, rfl⟩⟩, ⟨⟨fun he => ?_, fun he y T hT => ?_, fun he k hk => ?_⟩, HR.out, HK.out⟩, fun _ => rfl⟩
    · rw [← hE, if_neg he]
    · unfold takeS at hT
      rw [if_neg (by omega)] at hT
      cases hT
    · unfold takeS at hk
      rw [if_neg (by omega)] at hk
      cases hk
      exact ⟨by rw [← hE, if_pos he]; rfl, HNe.out⟩
  · have hlt' : ¬ (m : Int) < (n : Int) := by omega
    by_cases he : e = 0
    · subst he
      have hn1 : (n : Int) ≤ (m : Int) := by omega
      have hmc : m ≤ maxLen := by have := HY.out.cc; omega
      have hmn : (0 : Int) ≤ (m : Int) := by omega
      have hn0 : (0 : Int) ≤ (n : Int) := by omega
      have fin : ∀ (q : Option Addr) (W : World), W = (w.setCell ⟨rb, 0, none⟩ (.slice q (m - n) (m - n))).drew → (n < m → q = from_ p n) → (p = none → n = 0) → TakeP w S rb L 0 n (.returned (.slice p n n)) W := by
        intro q W hW hq hpn
        obtain ⟨c1, c2⟩ := Byts.cut (q := q) HY.out (show n ≤ L.length by omega) hp0 (fun h => hq (by omega))
        have l1 : (L.take n).length = n := by simp; omega
        have l2 : (L.drop n).length = m - n := by simp [hm]
        have hk := ((But.one w rb).setAt 0 (.slice q (m - n) (m - n))).drew
        rw [← hW] at hk
        have hbx : Box W rb #[.slice q (L.drop n).length (L.drop n).length, .int .i64 0] 187 := by
          rw [hW, l2]
          have h := (HX.out.set 0 (.slice q (m - n) (m - n))).below (Below.refl _ _).drew
          simpa using h
        have kp : ∀ {r : Option Addr} {a b : Nat} {f : Nat → Int}, Byts w S r a b f → Byts W S r a b f := fun h => h.kept hk.size fun b hb hl => hk.block b hl (fun e => ho (e ▸ hb))
        refine ⟨p, L.take n, L.drop n, 0, by rw [l1], kp c1, ⟨⟨fun h => absurd rfl h, fun _ y T hT => ?_, fun _ k hk => ?_⟩, ⟨⟨q, hbx, kp c2⟩, ho⟩, hk⟩, fun h => absurd rfl h⟩
        · unfold takeS at hT
          rw [if_pos (by omega)] at hT
          cases hT
          exact ⟨rfl, rfl, rfl⟩
        · unfold takeS at hk
          rw [if_pos (by omega)] at hk
          cases hk
      have FIN := hid fin
      have HM := hid hm
      clear fin hm
      cases p with
      | none =>
        have h0 := hp0 rfl
        obtain rfl : m = 0 := by have := HM.out; omega
        obtain rfl : n = 0 := by omega
        clear h0 hp0 hn1 hmn hn0 hlt hlt' hnn hmc hn
        go_enter Try.func143, Try.ntmps143
        go_wp2_with fail
        go_region
        go_wp2
        go_ret
        exact FIN.out none _ rfl (fun h => by omega) (by simp)
      | some ad =>
        by_cases hmn2 : m = n
        · subst hmn2
          go_enter Try.func143, Try.ntmps143
          go_wp2_with fail
          go_region
          go_wp2
          go_ret
          exact FIN.out (some ad) _ (by rw [Nat.sub_self]) (fun h => by omega) (fun h => by cases h)
        · go_enter Try.func143, Try.ntmps143
          go_wp2_with fail
          go_region
          go_wp2
          go_ret
          exact FIN.out _ _ rfl (fun h => rfl) (fun h => by cases h)
    · have he' : (e == 0) = false := by simpa using he
      go_enter Try.func143, Try.ntmps143
      go_wp2
      go_ret
      exact ⟨none, [], L, e, rfl, ⟨fun h => absurd h (by simp), Nat.le_refl _, Nat.zero_le _, Nat.zero_le _, fun j hj => absurd hj (by simp), fun _ => ⟨rfl, rfl⟩⟩, ⟨⟨fun _ => rfl, fun h => absurd h he, fun h => absurd h he⟩, HH.out, But.refl _ _⟩, fun _ => rfl⟩
end Go.Proofs.Ytikfpoabaaiegaa

namespace Go.Proofs.Ytikfpoabaaiegaa
open Go.RowKit
set_option maxRecDepth 8000

def endS (n bound : Nat) (idle : Bool) : RS Nat := if idle = true then failS 41 else if bound < n then failS 43 else retS n
def NumP (s : RS Nat) (most : Nat) (w : World) (S : Nat → Prop) (rb : Nat) (L : List Int) (e : Int) (x : Ending) (w' : World) : Prop :=
  ∃ (r : Nat) (R : List Int) (e' : Int), x = .returned (.int .i64 (r : Int)) ∧ RdS s (fun y => r = y) w S rb L e R e' w' ∧ r ≤ most ∧ (e' ≠ 0 → r = 0)
def endV (n bound size : Nat) (idle : Bool) : Value := if idle = true then .tuple #[.int .i64 0, .int .i64 0, .int .i64 41] else if bound < n then .tuple #[.int .i64 0, .int .i64 0, .int .i64 43] else .tuple #[.int .i64 n, .int .i64 size, .int .i64 0]
set_option maxHeartbeats 1000000 in
theorem numEnded_any (w : World) (n bound size : Nat) (zero : Bool) (hn : n < 34359738368) (hb : bound < 34359738368) (hs : 1 ≤ size ∧ size ≤ 5) : Calls Try.prog 156 #[.int .u64 n, .int .i64 size, .int .i64 bound, .bool zero] w fun x w' => x = .returned (endV n bound size (zero && decide (1 < size))) ∧ w' = w := by
  have fin : ∀ idle : Bool, (zero && decide (1 < size)) = idle → Calls Try.prog 156 #[.int .u64 n, .int .i64 size, .int .i64 bound, .bool zero] w fun x w' => x = .returned (endV n bound size idle) ∧ w' = w := by
    intro idle hid_
    cases idle with
    | true =>
      have hz : zero = true ∧ 1 < size := by simpa using hid_
      obtain ⟨rfl, h1⟩ := hz
      have h1' : (1 : Int) < (size : Int) := by omega
      clear hid_
      go_enter Try.func156, Try.ntmps156
      go_wp2
      exact bodyPost_ret (v := .tuple #[.int .i64 0, .int .i64 0, .int .i64 41]) (by simp [results, Try.results156, go_sem]) rfl ⟨rfl, rfl⟩
    | false =>
      have HQ : Hid (∀ x : Value, (bound < n → x = .tuple #[.int .i64 0, .int .i64 0, .int .i64 43]) → (¬ bound < n → x = .tuple #[.int .i64 n, .int .i64 size, .int .i64 0]) → x = endV n bound size false) := fun x h1 h2 => by
        unfold endV
        rw [if_neg (by simp)]
        by_cases h : bound < n
        · rw [if_pos h]; exact h1 h
        · rw [if_neg h]; exact h2 h
      have walk : ∀ z : Bool, (z = true → ¬ (1 : Int) < (size : Int)) → Calls Try.prog 156 #[.int .u64 n, .int .i64 size, .int .i64 bound, .bool z] w fun x w' => x = .returned (endV n bound size false) ∧ w' = w := by
        intro z hz
        cases z with
        | true =>
          have hz1 := hz rfl
          clear hz hid_
          by_cases hlt : bound < n
          · have hlt' : (bound : Int) < (n : Int) := by omega
            have HR := hid (HQ.out _ (fun _ => rfl) (fun h => absurd hlt h))
            clear HQ hlt
            go_enter Try.func156, Try.ntmps156
            go_wp2
            exact bodyPost_ret (v := .tuple #[.int .i64 0, .int .i64 0, .int .i64 43]) (by simp [results, Try.results156, go_sem]) rfl ⟨congrArg Ending.returned HR.out, rfl⟩
          · have hlt' : ¬ (bound : Int) < (n : Int) := by omega
            have HR := hid (HQ.out _ (fun h => absurd h hlt) (fun _ => rfl))
            clear HQ hlt
            go_enter Try.func156, Try.ntmps156
            go_wp2
            exact bodyPost_ret (v := .tuple #[.int .i64 n, .int .i64 size, .int .i64 0]) (by simp [results, Try.results156, go_sem]) rfl ⟨congrArg Ending.returned HR.out, rfl⟩
        | false =>
          clear hz hid_
          by_cases hlt : bound < n
          · have hlt' : (bound : Int) < (n : Int) := by omega
            have HR := hid (HQ.out _ (fun _ => rfl) (fun h => absurd hlt h))
            clear HQ hlt
            go_enter Try.func156, Try.ntmps156
            go_wp2
            exact bodyPost_ret (v := .tuple #[.int .i64 0, .int .i64 0, .int .i64 43]) (by simp [results, Try.results156, go_sem]) rfl ⟨congrArg Ending.returned HR.out, rfl⟩
          · have hlt' : ¬ (bound : Int) < (n : Int) := by omega
            have HR := hid (HQ.out _ (fun h => absurd h hlt) (fun _ => rfl))
            clear HQ hlt
            go_enter Try.func156, Try.ntmps156
            go_wp2
            exact bodyPost_ret (v := .tuple #[.int .i64 n, .int .i64 size, .int .i64 0]) (by simp [results, Try.results156, go_sem]) rfl ⟨congrArg Ending.returned HR.out, rfl⟩
      refine walk zero fun hz => ?_
      rw [hz] at hid_
      have : ¬ 1 < size := by simpa using hid_
      omega
  exact fin _ rfl
theorem and128lo (c : Nat) (h : c < 128) : bits BinOp.and IntKind.u8 (c : Int) 128 = 0 := by
  have h2 : ∀ v : Nat, v < 128 → bits BinOp.and IntKind.u8 (v : Int) 128 = 0 := by decide
  exact h2 c h
theorem and128hi (c : Nat) (h : c < 256) (h1 : ¬ c < 128) : bits BinOp.and IntKind.u8 (c : Int) 128 = 128 := by
  have h2 : ∀ v : Nat, v < 256 → ¬ v < 128 → bits BinOp.and IntKind.u8 (v : Int) 128 = 128 := by decide
  exact h2 c h h1
theorem numG_nil (bound k i u : Nat) : numG bound (k + 1) i u [] = .error 40 := rfl
theorem numG_lo {bound k i u C : Nat} {R : List Int} (h : C < 128) : numG bound (k + 1) i u ((C : Int) :: R) = endS (u ||| C % 128 * 2 ^ (7 * i)) bound (decide (0 < i ∧ C = 0)) R := by
  simp [numG, bindS, takeS, endS, h]
theorem numG_hi {bound k i u C : Nat} {R : List Int} (h : ¬ C < 128) : numG bound (k + 1) i u ((C : Int) :: R) = numG bound k (i + 1) (u ||| C % 128 * 2 ^ (7 * i)) R := by
  simp [numG, bindS, takeS, h]
theorem RR.err {α : Type} {s : RS α} {ok : α → Prop} {L R : List Int} {k : Nat} {e' : Int} (e : s L = .error k) (h : e' = (k : Int)) (h0 : k ≠ 0) : RR s ok L 0 R e' :=
  ⟨fun h => absurd rfl h, fun _ y T hy => (by rw [e] at hy; cases hy), fun _ k2 hk => (by rw [e] at hk; cases hk; exact ⟨h, by omega⟩)⟩
def LeadP (bound : Nat) (L : List Int) (x : Ending) : Prop := ∃ n sz k : Nat, x = .returned (.tuple #[.int .i64 (n : Int), .int .i64 (sz : Int), .int .i64 (k : Int)]) ∧ ((k = 0 ∧ sz ≤ L.length ∧ numS bound L = .ok (n, L.drop sz) ∧ n ≤ bound) ∨ (k ≠ 0 ∧ n = 0 ∧ sz = 0 ∧ numS bound L = .error k))
theorem endS_lead {u bound i : Nat} {idle : Bool} {L R : List Int} {Z : Except Nat (Nat × List Int)} (hZ : Z = numS bound L) (hE : Z = endS u bound idle R) (hR : R = L.drop (i + 1)) (hi : i + 1 ≤ L.length) : LeadP bound L (.returned (endV u bound (i + 1) idle)) := by
  rw [hZ] at hE
  unfold endV
  unfold endS at hE
  cases idle with
  | true =>
    rw [if_pos rfl] at hE ⊢
    exact ⟨0, 0, 41, rfl, .inr ⟨by omega, rfl, rfl, hE⟩⟩
  | false =>
    rw [if_neg (by simp)] at hE ⊢
    by_cases h : bound < u
    · rw [if_pos h] at hE ⊢
      exact ⟨0, 0, 43, rfl, .inr ⟨by omega, rfl, rfl, hE⟩⟩
    · rw [if_neg h] at hE ⊢
      exact ⟨u, i + 1, 0, rfl, .inl ⟨rfl, hi, by rw [hE, ← hR]; rfl, by omega⟩⟩
set_option maxHeartbeats 4000000 in
theorem numLead_any (w : World) (S : Nat → Prop) (p : Option Addr) (L : List Int) (bound : Nat) (hb : bound < 34359738368) (h : Byts w S p L.length L.length (fun j => L.getD j 0)) : Calls Try.prog 142 #[.slice p L.length L.length, .int .i64 bound] w fun x w' => LeadP bound L x ∧ w' = w := by
  have HY := hid h
  have hnn := h.nn
  clear h
  obtain ⟨nn, hne⟩ : ∃ nn, nn = L.length := ⟨_, rfl⟩
  obtain ⟨Z, hZ⟩ : ∃ Z, Z = numG bound 5 0 0 L := ⟨_, rfl⟩
  have HZ := hid hZ
  have HNe := hid hne
  rw [← hne] at hnn ⊢
  clear hZ hne
  by_cases h5n : 5 < nn
  case pos =>
    have h5n' : (5 : Int) < (nn : Int) := by omega
    go_enter Try.func142, Try.ntmps142
    go_wp2_with fail
    go_loopw [7, 16] (fun y x wr => ∃ (i u : Nat), i ≤ 5 ∧ y = .int .u64 (u : Int) ∧ x = .int .i64 (i : Int) ∧ u < 2 ^ (7 * i) ∧ wr = w ∧ numG bound (5 - i) i u (L.drop i) = Z) (fun _ x _ => 5 - (intOf x).toNat)
    case atStart => exact ⟨0, 0, by omega, rfl, rfl, by decide, rfl, HZ.out.symm⟩
    case round =>
      obtain ⟨i, u, hi, rfl, rfl, hu, hw, hg⟩ := hrel
      subst wr
      have HG := hid hg
      clear hg
      by_cases him : i < 5
      · have him' : (i : Int) < (5 : Int) := by omega
        obtain ⟨C, hC⟩ : ∃ C : Nat, L.getD i 0 = (C : Int) ∧ C < 256 := by
          obtain ⟨f1, f2⟩ := HY.out.fit i (by rw [← HNe.out]; omega)
          exact ⟨(L.getD i 0).toNat, by omega, by omega⟩
        obtain ⟨hCe, hC2⟩ := hC
        obtain ⟨b0, o0, hp, _, _, hat⟩ := HY.out.at_ (by rw [← HNe.out]; omega)
        subst hp
        have y0 := hat i (by rw [← HNe.out]; omega)
        rw [hCe] at y0
        have hdr : L.drop i = (C : Int) :: L.drop (i + 1) := by
          have hl : i < L.length := by rw [← HNe.out]; omega
          rw [List.drop_eq_getElem_cons hl]
          congr 1
          rw [← hCe, List.getD_eq_getElem?_getD, List.getElem?_eq_getElem hl]
          rfl
        have HE : Hid (5 - i = (4 - i) + 1) := by unfold Hid; omega
        have e1 := andnot128 C hC2
        have hV : C % 128 * 2 ^ (7 * i) < 2 ^ (7 * (i + 1)) := by
          rw [pow7]
          have hp : 0 < 2 ^ (7 * i) := Nat.two_pow_pos _
          exact Nat.mul_lt_mul_of_pos_right (by omega) hp
        have hu2 : u < 2 ^ (7 * (i + 1)) := by
          rw [pow7]
          have hp : 0 < 2 ^ (7 * i) := Nat.two_pow_pos _
          omega
        have hU := Nat.or_lt_two_pow hu2 hV
        have h64 : 2 ^ (7 * (i + 1)) ≤ 34359738368 := by
          have h7 : (2 : Nat) ^ (7 * (i + 1)) ≤ 2 ^ 35 := Nat.pow_le_pow_right (by omega) (by omega)
          exact h7
        have hor := bits_or_u64_nat u (C % 128 * 2 ^ (7 * i)) (by omega) (by omega)
        have HU := hid hU
        have HUl := hid (Nat.lt_of_lt_of_le hU h64)
        clear hU hu2 h64
        have HGl : Hid (C < 128 → Z = endS (u ||| C % 128 * 2 ^ (7 * i)) bound (decide (0 < i ∧ C = 0)) (L.drop (i + 1))) := fun h => by
          have h1 := HG.out
          rw [hdr, HE.out, numG_lo h] at h1
          exact h1.symm
        have HGh : Hid (¬ C < 128 → numG bound (5 - (i + 1)) (i + 1) (u ||| C % 128 * 2 ^ (7 * i)) (L.drop (i + 1)) = Z) := fun h => by
          have h1 := HG.out
          rw [hdr, HE.out, numG_hi h] at h1
          rw [show 5 - (i + 1) = 4 - i by omega]
          exact h1
        obtain ⟨V, hVe⟩ : ∃ V, V = C % 128 * 2 ^ (7 * i) := ⟨_, rfl⟩
        rw [← hVe] at hor HU HUl HGl HGh hV
        obtain ⟨U, hUe⟩ : ∃ U, U = u ||| V := ⟨_, rfl⟩
        rw [← hUe] at hor HU HUl HGl HGh
        have HVe := hid hVe
        clear hVe hUe hat hCe hdr
        by_cases hlt : C < 128
        · have eA := and128lo C hlt
          have HGl := hid (HGl.out hlt)
          have HEn : Hid (∀ b : Bool, decide (C = 0) = b → Calls Try.prog 156 #[.int .u64 U, .int .i64 ((i : Int) + 1), .int .i64 bound, .bool b] w fun x w' => (∃ v, x = .returned v ∧ v = endV U bound (i + 1) (decide (0 < i ∧ C = 0))) ∧ w' = w) := fun b hb2 => by
            have h1 := numEnded_any w U bound (i + 1) b HUl.out hb (by omega)
            rw [show (((i + 1 : Nat)) : Int) = (i : Int) + 1 by omega] at h1
            refine h1.mono fun x w' ⟨h2, h3⟩ => ⟨⟨_, h2, ?_⟩, h3⟩
            congr 1
            rw [← hb2]
            by_cases h0 : C = 0
            · simp [h0]
            · simp [h0]
          have key : Hid (LeadP bound L (.returned (endV U bound (i + 1) (decide (0 < i ∧ C = 0))))) := endS_lead HZ.out HGl.out rfl (by rw [← HNe.out]; omega)
          have HKq : Hid (∃ a b c : Int, endV U bound (i + 1) (decide (0 < i ∧ C = 0)) = .tuple #[.int .i64 a, .int .i64 b, .int .i64 c]) := by
            unfold endV
            show ∃ a b c : Int, _
            split
            · exact ⟨0, 0, 41, rfl⟩
            · split
              · exact ⟨0, 0, 43, rfl⟩
              · exact ⟨U, ((i + 1 : Nat) : Int), 0, rfl⟩
          have hiI : (i : Int) + 1 ≤ 5 := by omega
          clear HGh HG HZ hlt HGl HU
          have hi4 : i ≤ 4 := by omega
          have h32 : (u : Int) < 34359738368 := by
            have h7 : (2 : Nat) ^ (7 * i) ≤ 2 ^ 35 := Nat.pow_le_pow_right (by omega) (by omega)
            have h8 := Nat.lt_of_lt_of_le hu h7
            omega
          obtain ⟨ev, hev⟩ : ∃ ev, ev = endV U bound (i + 1) (decide (0 < i ∧ C = 0)) := ⟨_, rfl⟩
          rw [← hev] at key HKq HEn
          clear hev
          obtain ⟨va, vb, vc, hvv⟩ := HKq.out
          subst hvv
          by_cases hC0 : C = 0
          · have HEn := hid (HEn.out true (by simp [hC0]))
            have hC0' : ((C : Int) == 0) = true := by rw [hC0]; rfl
            clear hC0
            by_cases hi0 : i = 0
            · subst hi0
              simp only [Nat.add_zero] at y0
              have e0 : (C : Int) % 128 = (V : Int) := by have := HVe.out; omega
              go_wp2_with fail
              refine HEn.out.mono ?_
              rintro x w' ⟨⟨v, rfl, rfl⟩, hw⟩
              subst w'
              go_wp2
              exact bodyPost_ret (v := .tuple #[.int .i64 va, .int .i64 vb, .int .i64 vc]) (by simp [results, Try.results142, go_sem]) rfl ⟨key.out, rfl⟩
            · have h1' : (0 : Int) < (i : Int) := by omega
              have e0 : IntKind.u64.wrap ((C : Int) % 128 * 2 ^ (7 * i)) = (V : Int) := by
                have h2 : (C : Int) % 128 * 2 ^ (7 * i) = (V : Int) := by rw [HVe.out]; simp
                have h7 : (2 : Nat) ^ (7 * (i + 1)) ≤ 2 ^ 35 := Nat.pow_le_pow_right (by omega) (by omega)
                have h8 := Nat.lt_of_lt_of_le hV h7
                rw [h2, wrap_u64]; omega
              go_wp2_with fail
              refine HEn.out.mono ?_
              rintro x w' ⟨⟨v, rfl, rfl⟩, hw⟩
              subst w'
              go_wp2
              exact bodyPost_ret (v := .tuple #[.int .i64 va, .int .i64 vb, .int .i64 vc]) (by simp [results, Try.results142, go_sem]) rfl ⟨key.out, rfl⟩
          · have HEn := hid (HEn.out false (by simp [hC0]))
            have hC0' : ((C : Int) == 0) = false := by simpa using hC0
            by_cases hi0 : i = 0
            · subst hi0
              simp only [Nat.add_zero] at y0
              have e0 : (C : Int) % 128 = (V : Int) := by have := HVe.out; omega
              go_wp2_with fail
              refine HEn.out.mono ?_
              rintro x w' ⟨⟨v, rfl, rfl⟩, hw⟩
              subst w'
              go_wp2
              exact bodyPost_ret (v := .tuple #[.int .i64 va, .int .i64 vb, .int .i64 vc]) (by simp [results, Try.results142, go_sem]) rfl ⟨key.out, rfl⟩
            · have h1' : (0 : Int) < (i : Int) := by omega
              have e0 : IntKind.u64.wrap ((C : Int) % 128 * 2 ^ (7 * i)) = (V : Int) := by
                have h2 : (C : Int) % 128 * 2 ^ (7 * i) = (V : Int) := by rw [HVe.out]; simp
                have h7 : (2 : Nat) ^ (7 * (i + 1)) ≤ 2 ^ 35 := Nat.pow_le_pow_right (by omega) (by omega)
                have h8 := Nat.lt_of_lt_of_le hV h7
                rw [h2, wrap_u64]; omega
              go_wp2_with fail
              refine HEn.out.mono ?_
              rintro x w' ⟨⟨v, rfl, rfl⟩, hw⟩
              subst w'
              go_wp2
              exact bodyPost_ret (v := .tuple #[.int .i64 va, .int .i64 vb, .int .i64 vc]) (by simp [results, Try.results142, go_sem]) rfl ⟨key.out, rfl⟩
        · have eA := and128hi C hC2 hlt
          have HGh := hid (HGh.out hlt)
          clear HGl HG HZ hlt
          by_cases hi0 : i = 0
          · subst hi0
            simp only [Nat.add_zero] at y0
            have e0 : (C : Int) % 128 = (V : Int) := by have := HVe.out; omega
            go_wp2
            go_roundw
            case rel => exact ⟨0 + 1, U, by omega, rfl, rfl, HU.out, by first | rfl | trivial, HGh.out⟩
            case measure => first | (simp [intOf]; done) | (simp [intOf]; omega)
          · have e0 : IntKind.u64.wrap ((C : Int) % 128 * 2 ^ (7 * i)) = (V : Int) := by
              have h2 : (C : Int) % 128 * 2 ^ (7 * i) = (V : Int) := by rw [HVe.out]; simp
              have h7 : (2 : Nat) ^ (7 * (i + 1)) ≤ 2 ^ 35 := Nat.pow_le_pow_right (by omega) (by omega)
              have h8 := Nat.lt_of_lt_of_le hV h7
              rw [h2, wrap_u64]; omega
            go_wp2
            go_roundw
            case rel => exact ⟨i + 1, U, by omega, rfl, by go_num, HU.out, by first | rfl | trivial, HGh.out⟩
            case measure => first | (simp [intOf]; done) | (simp [intOf]; omega)
      · have hie : i = 5 := by omega
        have him' : ¬ (i : Int) < (5 : Int) := by omega
        by_cases h5 : nn < 5
        · have h5' : (nn : Int) < 5 := by omega
          have HF : Hid (LeadP bound L (.returned (.tuple #[.int .i64 0, .int .i64 0, .int .i64 40]))) := by
            have h1 := HG.out
            rw [List.drop_of_length_le (by rw [← HNe.out]; omega), show 5 - i = (4 - i) + 1 by omega, numG_nil] at h1
            exact ⟨0, 0, 40, rfl, .inr ⟨by omega, rfl, rfl, by show numG bound 5 0 0 L = _; rw [← HZ.out, ← h1]⟩⟩
          clear hie
          go_wp2
          exact bodyPost_ret (v := .tuple #[.int .i64 0, .int .i64 0, .int .i64 40]) (by simp [results, Try.results142, go_sem]) rfl ⟨HF.out, rfl⟩
        · have h5' : ¬ (nn : Int) < 5 := by omega
          have HF : Hid (LeadP bound L (.returned (.tuple #[.int .i64 0, .int .i64 0, .int .i64 41]))) := by
            have h1 := HG.out
            rw [show 5 - i = 0 by omega] at h1
            exact ⟨0, 0, 41, rfl, .inr ⟨by omega, rfl, rfl, by show numG bound 5 0 0 L = _; rw [← HZ.out, ← h1]; rfl⟩⟩
          clear hie
          go_wp2
          exact bodyPost_ret (v := .tuple #[.int .i64 0, .int .i64 0, .int .i64 41]) (by simp [results, Try.results142, go_sem]) rfl ⟨HF.out, rfl⟩
  case neg =>
    have h5n' : ¬ (5 : Int) < (nn : Int) := by omega
    go_enter Try.func142, Try.ntmps142
    go_wp2_with fail
    go_loopw [7, 16] (fun y x wr => ∃ (i u : Nat), i ≤ nn ∧ y = .int .u64 (u : Int) ∧ x = .int .i64 (i : Int) ∧ u < 2 ^ (7 * i) ∧ wr = w ∧ numG bound (5 - i) i u (L.drop i) = Z) (fun _ x _ => nn - (intOf x).toNat)
    case atStart => exact ⟨0, 0, by omega, rfl, rfl, by decide, rfl, HZ.out.symm⟩
    case round =>
      obtain ⟨i, u, hi, rfl, rfl, hu, hw, hg⟩ := hrel
      subst wr
      have HG := hid hg
      clear hg
      by_cases him : i < nn
      · have him' : (i : Int) < (nn : Int) := by omega
        obtain ⟨C, hC⟩ : ∃ C : Nat, L.getD i 0 = (C : Int) ∧ C < 256 := by
          obtain ⟨f1, f2⟩ := HY.out.fit i (by rw [← HNe.out]; omega)
          exact ⟨(L.getD i 0).toNat, by omega, by omega⟩
        obtain ⟨hCe, hC2⟩ := hC
        obtain ⟨b0, o0, hp, _, _, hat⟩ := HY.out.at_ (by rw [← HNe.out]; omega)
        subst hp
        have y0 := hat i (by rw [← HNe.out]; omega)
        rw [hCe] at y0
        have hdr : L.drop i = (C : Int) :: L.drop (i + 1) := by
          have hl : i < L.length := by rw [← HNe.out]; omega
          rw [List.drop_eq_getElem_cons hl]
          congr 1
          rw [← hCe, List.getD_eq_getElem?_getD, List.getElem?_eq_getElem hl]
          rfl
        have HE : Hid (5 - i = (4 - i) + 1) := by unfold Hid; omega
        have e1 := andnot128 C hC2
        have hV : C % 128 * 2 ^ (7 * i) < 2 ^ (7 * (i + 1)) := by
          rw [pow7]
          have hp : 0 < 2 ^ (7 * i) := Nat.two_pow_pos _
          exact Nat.mul_lt_mul_of_pos_right (by omega) hp
        have hu2 : u < 2 ^ (7 * (i + 1)) := by
          rw [pow7]
          have hp : 0 < 2 ^ (7 * i) := Nat.two_pow_pos _
          omega
        have hU := Nat.or_lt_two_pow hu2 hV
        have h64 : 2 ^ (7 * (i + 1)) ≤ 34359738368 := by
          have h7 : (2 : Nat) ^ (7 * (i + 1)) ≤ 2 ^ 35 := Nat.pow_le_pow_right (by omega) (by omega)
          exact h7
        have hor := bits_or_u64_nat u (C % 128 * 2 ^ (7 * i)) (by omega) (by omega)
        have HU := hid hU
        have HUl := hid (Nat.lt_of_lt_of_le hU h64)
        clear hU hu2 h64
        have HGl : Hid (C < 128 → Z = endS (u ||| C % 128 * 2 ^ (7 * i)) bound (decide (0 < i ∧ C = 0)) (L.drop (i + 1))) := fun h => by
          have h1 := HG.out
          rw [hdr, HE.out, numG_lo h] at h1
          exact h1.symm
        have HGh : Hid (¬ C < 128 → numG bound (5 - (i + 1)) (i + 1) (u ||| C % 128 * 2 ^ (7 * i)) (L.drop (i + 1)) = Z) := fun h => by
          have h1 := HG.out
          rw [hdr, HE.out, numG_hi h] at h1
          rw [show 5 - (i + 1) = 4 - i by omega]
          exact h1
        obtain ⟨V, hVe⟩ : ∃ V, V = C % 128 * 2 ^ (7 * i) := ⟨_, rfl⟩
        rw [← hVe] at hor HU HUl HGl HGh hV
        obtain ⟨U, hUe⟩ : ∃ U, U = u ||| V := ⟨_, rfl⟩
        rw [← hUe] at hor HU HUl HGl HGh
        have HVe := hid hVe
        clear hVe hUe hat hCe hdr
        by_cases hlt : C < 128
        · have eA := and128lo C hlt
          have HGl := hid (HGl.out hlt)
          have HEn : Hid (∀ b : Bool, decide (C = 0) = b → Calls Try.prog 156 #[.int .u64 U, .int .i64 ((i : Int) + 1), .int .i64 bound, .bool b] w fun x w' => (∃ v, x = .returned v ∧ v = endV U bound (i + 1) (decide (0 < i ∧ C = 0))) ∧ w' = w) := fun b hb2 => by
            have h1 := numEnded_any w U bound (i + 1) b HUl.out hb (by omega)
            rw [show (((i + 1 : Nat)) : Int) = (i : Int) + 1 by omega] at h1
            refine h1.mono fun x w' ⟨h2, h3⟩ => ⟨⟨_, h2, ?_⟩, h3⟩
            congr 1
            rw [← hb2]
            by_cases h0 : C = 0
            · simp [h0]
            · simp [h0]
          have key : Hid (LeadP bound L (.returned (endV U bound (i + 1) (decide (0 < i ∧ C = 0))))) := endS_lead HZ.out HGl.out rfl (by rw [← HNe.out]; omega)
          have HKq : Hid (∃ a b c : Int, endV U bound (i + 1) (decide (0 < i ∧ C = 0)) = .tuple #[.int .i64 a, .int .i64 b, .int .i64 c]) := by
            unfold endV
            show ∃ a b c : Int, _
            split
            · exact ⟨0, 0, 41, rfl⟩
            · split
              · exact ⟨0, 0, 43, rfl⟩
              · exact ⟨U, ((i + 1 : Nat) : Int), 0, rfl⟩
          have hiI : (i : Int) + 1 ≤ 5 := by omega
          clear HGh HG HZ hlt HGl HU
          have hi4 : i ≤ 4 := by omega
          have h32 : (u : Int) < 34359738368 := by
            have h7 : (2 : Nat) ^ (7 * i) ≤ 2 ^ 35 := Nat.pow_le_pow_right (by omega) (by omega)
            have h8 := Nat.lt_of_lt_of_le hu h7
            omega
          obtain ⟨ev, hev⟩ : ∃ ev, ev = endV U bound (i + 1) (decide (0 < i ∧ C = 0)) := ⟨_, rfl⟩
          rw [← hev] at key HKq HEn
          clear hev
          obtain ⟨va, vb, vc, hvv⟩ := HKq.out
          subst hvv
          by_cases hC0 : C = 0
          · have HEn := hid (HEn.out true (by simp [hC0]))
            have hC0' : ((C : Int) == 0) = true := by rw [hC0]; rfl
            clear hC0
            by_cases hi0 : i = 0
            · subst hi0
              simp only [Nat.add_zero] at y0
              have e0 : (C : Int) % 128 = (V : Int) := by have := HVe.out; omega
              go_wp2_with fail
              refine HEn.out.mono ?_
              rintro x w' ⟨⟨v, rfl, rfl⟩, hw⟩
              subst w'
              go_wp2
              exact bodyPost_ret (v := .tuple #[.int .i64 va, .int .i64 vb, .int .i64 vc]) (by simp [results, Try.results142, go_sem]) rfl ⟨key.out, rfl⟩
            · have h1' : (0 : Int) < (i : Int) := by omega
              have e0 : IntKind.u64.wrap ((C : Int) % 128 * 2 ^ (7 * i)) = (V : Int) := by
                have h2 : (C : Int) % 128 * 2 ^ (7 * i) = (V : Int) := by rw [HVe.out]; simp
                have h7 : (2 : Nat) ^ (7 * (i + 1)) ≤ 2 ^ 35 := Nat.pow_le_pow_right (by omega) (by omega)
                have h8 := Nat.lt_of_lt_of_le hV h7
                rw [h2, wrap_u64]; omega
              go_wp2_with fail
              refine HEn.out.mono ?_
              rintro x w' ⟨⟨v, rfl, rfl⟩, hw⟩
              subst w'
              go_wp2
              exact bodyPost_ret (v := .tuple #[.int .i64 va, .int .i64 vb, .int .i64 vc]) (by simp [results, Try.results142, go_sem]) rfl ⟨key.out, rfl⟩
          · have HEn := hid (HEn.out false (by simp [hC0]))
            have hC0' : ((C : Int) == 0) = false := by simpa using hC0
            by_cases hi0 : i = 0
            · subst hi0
              simp only [Nat.add_zero] at y0
              have e0 : (C : Int) % 128 = (V : Int) := by have := HVe.out; omega
              go_wp2_with fail
              refine HEn.out.mono ?_
              rintro x w' ⟨⟨v, rfl, rfl⟩, hw⟩
              subst w'
              go_wp2
              exact bodyPost_ret (v := .tuple #[.int .i64 va, .int .i64 vb, .int .i64 vc]) (by simp [results, Try.results142, go_sem]) rfl ⟨key.out, rfl⟩
            · have h1' : (0 : Int) < (i : Int) := by omega
              have e0 : IntKind.u64.wrap ((C : Int) % 128 * 2 ^ (7 * i)) = (V : Int) := by
                have h2 : (C : Int) % 128 * 2 ^ (7 * i) = (V : Int) := by rw [HVe.out]; simp
                have h7 : (2 : Nat) ^ (7 * (i + 1)) ≤ 2 ^ 35 := Nat.pow_le_pow_right (by omega) (by omega)
                have h8 := Nat.lt_of_lt_of_le hV h7
                rw [h2, wrap_u64]; omega
              go_wp2_with fail
              refine HEn.out.mono ?_
              rintro x w' ⟨⟨v, rfl, rfl⟩, hw⟩
              subst w'
              go_wp2
              exact bodyPost_ret (v := .tuple #[.int .i64 va, .int .i64 vb, .int .i64 vc]) (by simp [results, Try.results142, go_sem]) rfl ⟨key.out, rfl⟩
        · have eA := and128hi C hC2 hlt
          have HGh := hid (HGh.out hlt)
          clear HGl HG HZ hlt
          by_cases hi0 : i = 0
          · subst hi0
            simp only [Nat.add_zero] at y0
            have e0 : (C : Int) % 128 = (V : Int) := by have := HVe.out; omega
            go_wp2
            go_roundw
            case rel => exact ⟨0 + 1, U, by omega, rfl, rfl, HU.out, by first | rfl | trivial, HGh.out⟩
            case measure => first | (simp [intOf]; done) | (simp [intOf]; omega)
          · have e0 : IntKind.u64.wrap ((C : Int) % 128 * 2 ^ (7 * i)) = (V : Int) := by
              have h2 : (C : Int) % 128 * 2 ^ (7 * i) = (V : Int) := by rw [HVe.out]; simp
              have h7 : (2 : Nat) ^ (7 * (i + 1)) ≤ 2 ^ 35 := Nat.pow_le_pow_right (by omega) (by omega)
              have h8 := Nat.lt_of_lt_of_le hV h7
              rw [h2, wrap_u64]; omega
            go_wp2
            go_roundw
            case rel => exact ⟨i + 1, U, by omega, rfl, by go_num, HU.out, by first | rfl | trivial, HGh.out⟩
            case measure => first | (simp [intOf]; done) | (simp [intOf]; omega)
      · have hie : i = nn := by omega
        have him' : ¬ (i : Int) < (nn : Int) := by omega
        by_cases h5 : nn < 5
        · have h5' : (nn : Int) < 5 := by omega
          have HF : Hid (LeadP bound L (.returned (.tuple #[.int .i64 0, .int .i64 0, .int .i64 40]))) := by
            have h1 := HG.out
            rw [List.drop_of_length_le (by rw [← HNe.out]; omega), show 5 - i = (4 - i) + 1 by omega, numG_nil] at h1
            exact ⟨0, 0, 40, rfl, .inr ⟨by omega, rfl, rfl, by show numG bound 5 0 0 L = _; rw [← HZ.out, ← h1]⟩⟩
          clear hie
          go_wp2
          exact bodyPost_ret (v := .tuple #[.int .i64 0, .int .i64 0, .int .i64 40]) (by simp [results, Try.results142, go_sem]) rfl ⟨HF.out, rfl⟩
        · have h5' : ¬ (nn : Int) < 5 := by omega
          have HF : Hid (LeadP bound L (.returned (.tuple #[.int .i64 0, .int .i64 0, .int .i64 41]))) := by
            have h1 := HG.out
            rw [show 5 - i = 0 by omega] at h1
            exact ⟨0, 0, 41, rfl, .inr ⟨by omega, rfl, rfl, by show numG bound 5 0 0 L = _; rw [← HZ.out, ← h1]; rfl⟩⟩
          clear hie
          go_wp2
          exact bodyPost_ret (v := .tuple #[.int .i64 0, .int .i64 0, .int .i64 41]) (by simp [results, Try.results142, go_sem]) rfl ⟨HF.out, rfl⟩
set_option maxHeartbeats 4000000 in
theorem wrNumber_any (w : World) (S : Nat → Prop) (rb : Nat) (L : List Int) (e : Int) (bound : Nat) (hb : bound < 34359738368) (h : Rdr w S rb L e) : Calls Try.prog 118 #[.pointer (some ⟨rb, 0, none⟩), .int .i64 bound] w fun x w' => NumP (numS bound) bound w S rb L e x w' := by
  have HH := hid h
  obtain ⟨⟨p, hx, hy⟩, ho⟩ := h
  have HLd := hid (numLead_any w S p L bound hb hy)
  have hnn := hy.nn
  have HNl : Hid (L.length ≤ 140737488355328) := hnn
  have x0 := hx.cell 0
  simp at x0
  have xl := hx.lt
  clear hx hy hnn
  obtain ⟨nn, hne⟩ : ∃ nn, nn = L.length := ⟨_, rfl⟩
  rw [← hne] at x0 HLd
  have HNe := hid hne
  clear hne
  go_enter Try.func118, Try.ntmps118
  go_wp2_with fail
  refine HLd.out.mono ?_
  rintro x w1 ⟨hP, hw⟩
  subst w1
  obtain ⟨n, sz, k, rfl, hP⟩ := hP
  clear HLd x0
  rcases hP with ⟨rfl, hsz, hok, hnb⟩ | ⟨hk0, rfl, rfl, herr⟩
  · have HOk := hid hok
    have HSz := hid hsz
    have HT := hid (wrTake_any w S rb L e sz (by have := HNl.out; omega) HH.out)
    clear hok hsz
    go_wp2_with fail
    refine HT.out.mono ?_
    rintro x w1 ⟨p1, T, R1, e1, rfl, hby, ⟨hrr, hrd, hkp⟩, hT0⟩
    obtain ⟨⟨p2, hx2, hy2⟩, _⟩ := id hrd
    have y1 := hx2.cell 1
    simp at y1
    have yl := hx2.lt
    have HRR := hid hrr
    have HRd := hid hrd
    have HKp := hid hkp
    clear hby hrr hrd hkp hT0 HT hx2 hy2
    by_cases he : e = 0
    · subst he
      obtain ⟨h1, h2, _⟩ := HRR.out.good rfl (L.take sz) (L.drop sz) (by unfold takeS; rw [if_pos HSz.out])
      subst h2
      have HF : Hid (NumP (numS bound) bound w S rb L 0 (.returned (.int .i64 (n : Int))) w1) := ⟨n, R1, 0, rfl, ⟨⟨fun h => absurd rfl h, fun _ y T2 hy => (by rw [HOk.out] at hy; cases hy; exact ⟨h1, rfl, rfl⟩), fun _ k2 hk => (by rw [HOk.out] at hk; cases hk)⟩, HRd.out, HKp.out⟩, hnb, fun h => absurd rfl h⟩
      clear h1
      go_wp2
      go_ret
      exact HF.out
    · have h1 := HRR.out.stay he
      subst h1
      have he' : (e1 == 0) = false := by simpa using he
      have he2 : (e1 != 0) = true := by simpa using he
      have HF : Hid (NumP (numS bound) bound w S rb L e1 (.returned (.int .i64 0)) w1) := ⟨0, R1, e1, rfl, ⟨⟨fun _ => rfl, fun h => absurd h he, fun h => absurd h he⟩, HRd.out, HKp.out⟩, Nat.zero_le _, fun _ => rfl⟩
      clear he
      go_wp2
      go_ret
      exact HF.out
  · have HEr := hid herr
    have HK0 := hid hk0
    have hk1 : ((k : Int) == 0) = false := by simpa using hk0
    have hk2 : ((k : Int) != 0) = true := by simpa using hk0
    have HFl := hid (wrFail_any w S rb L e k HH.out)
    clear herr hk0
    go_wp2_with fail
    refine HFl.out.mono ?_
    rintro x w1 ⟨rfl, hr1, hk3⟩
    obtain ⟨E, hE⟩ : ∃ E, E = (if e = 0 then (k : Int) else e) := ⟨_, rfl⟩
    rw [← hE] at hr1
    have hE0 : E ≠ 0 := by
      rw [hE]
      by_cases he : e = 0
      · rw [if_pos he]; have := HK0.out; omega
      · rw [if_neg he]; exact he
    have HEe := hid hE
    have HK3 := hid hk3
    have HT := hid (wrTake_any w1 S rb L E 0 (by omega) hr1)
    clear hr1 hk3 hE HFl
    go_wp2_with fail
    refine HT.out.mono ?_
    rintro x w2 ⟨p1, T, R1, e1, rfl, hby, ⟨hrr, hrd, hkp⟩, hT0⟩
    have h1 := hrr.stay hE0
    subst h1
    obtain ⟨⟨p2, hx2, hy2⟩, _⟩ := id hrd
    have y1 := hx2.cell 1
    simp at y1
    have yl := hx2.lt
    have he' : (e1 == 0) = false := by simpa using hE0
    have he2 : (e1 != 0) = true := by simpa using hE0
    have HF : Hid (NumP (numS bound) bound w S rb L e (.returned (.int .i64 0)) w2) := by
      refine ⟨0, R1, e1, rfl, ⟨⟨fun he => ?_, fun he y T2 hy => ?_, fun he k2 hk => ?_⟩, hrd, HK3.out.trans hkp⟩, Nat.zero_le _, fun _ => rfl⟩
      · rw [HEe.out, if_neg he]
      · rw [HEr.out] at hy; cases hy
      · rw [HEr.out] at hk
        cases hk
        exact ⟨by rw [HEe.out, if_pos he], hE0⟩
    clear hby hrr hrd hkp hT0 HT hx2 hy2 hE0
    go_wp2
    go_ret
    exact HF.out
end Go.Proofs.Ytikfpoabaaiegaa

namespace Go.Proofs.Ytikfpoabaaiegaa
open Go.RowKit
set_option maxRecDepth 8000
theorem part_any (db : Nat) (p : Option Addr) (n c : Nat) (f : Nat → Int) : ∀ k d, d + k = 3 → ItemC db p n c f d (decS f n k d) := by
  intro k
  induction k with
  | zero => intro d h; exact part_step db p n c f d (by omega) _ (fun h2 => by omega) (fun _ _ _ _ _ h2 => by cases h2)
  | succ k ih => intro d h; exact part_step db p n c f d (by omega) _ (fun h2 => ih (d + 1) (by omega)) (fun a q v a' q' h2 => ⟨decS_le _ _ _ _ _ _ _ h2, decS_q _ _ _ _ _ _ _ h2⟩)
end Go.Proofs.Ytikfpoabaaiegaa
