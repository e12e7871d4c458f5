import Derived.Test.YtbkikbhodgjijaaZj
import Derived.Test.YtbkikbhodgjijaaZc
import Derived.Test.YtbkikbhodgjijaaYZ
import Derived.Test.YtbkikbhodgjijaaYY
import Derived.Test.YtbkikbhodgjijaaYU
namespace Go.Proofs.Ytbkikbhodgjijaa
open Go.RowKit
set_option maxRecDepth 8000
theorem take_more {xs : List EV} {k : Nat} (hk : k < xs.length) : xs.take (k + 1) = xs.take k ++ [xs.getD k ⟨0, 0⟩] := by
  rw [List.take_succ_eq_append_getElem hk]
  simp [hk]
/-- the events of one task -/
def ofT (t : Int) (xs : List EV) : List EV := xs.filter fun e => decide (e.task = t)
theorem ofT_app (t : Int) (xs ys : List EV) : ofT t (xs ++ ys) = ofT t xs ++ ofT t ys := by simp [ofT]
theorem ofT_len (t : Int) (xs : List EV) : (ofT t xs).length ≤ xs.length := List.length_filter_le _ _
theorem ofT_yes {t : Int} {xs : List EV} {x : EV} (h : x.task = t) : ofT t (xs ++ [x]) = ofT t xs ++ [x] := by rw [ofT_app]; simp [ofT, h]
theorem ofT_no {t : Int} {xs : List EV} {x : EV} (h : ¬ x.task = t) : ofT t (xs ++ [x]) = ofT t xs := by rw [ofT_app]; simp [ofT, h]
/-- of one task: those before its copy, then those behind it -/
theorem ofT_parts (f : Nat → TR) (m : Nat → Nat) (a : Nat) (t : Nat) : ∀ d, (∀ q, a ≤ q → q < a + d → (f q).kind = 1 → 0 ≤ (f q).task) →
    ofT (t : Int) (evsF f (fun _ => true) a d) = ofT (t : Int) (evsF f (befP f m true) a d) ++ ofT (t : Int) (evsF f (befP f m false) a d) ∧ (a + d ≤ m t → ofT (t : Int) (evsF f (befP f m false) a d) = []) := by
  intro d
  induction d with
  | zero => intro _; exact ⟨rfl, fun _ => rfl⟩
  | succ d ih =>
    intro hk
    obtain ⟨ih1, ih2⟩ := ih (fun q h1 h2 => hk q h1 (by omega))
    by_cases h1 : (f (a + d)).kind = 1
    · have h0 := hk (a + d) (by omega) (by omega) h1
      rw [evsF_yes (P := fun _ => true) h1 rfl]
      by_cases hb : a + d < m (f (a + d)).task.toNat
      · rw [evsF_yes (P := befP f m true) h1 (by simp [befP, hb]), evsF_no (P := befP f m false) (by rintro ⟨_, e⟩; simp [befP, hb] at e)]
        by_cases ht : (f (a + d)).ev.task = (t : Int)
        · have e1 : (f (a + d)).task = (t : Int) := ht
          rw [e1, Int.toNat_natCast] at hb
          have h2 := ih2 (by omega)
          refine ⟨?_, fun _ => h2⟩
          rw [ofT_yes ht, ofT_yes ht, ih1, h2]
          simp
        · refine ⟨?_, fun h => ih2 (by omega)⟩
          rw [ofT_no ht, ofT_no ht, ih1]
      · rw [evsF_no (P := befP f m true) (by rintro ⟨_, e⟩; simp [befP, hb] at e), evsF_yes (P := befP f m false) h1 (by simp [befP, hb])]
        by_cases ht : (f (a + d)).ev.task = (t : Int)
        · have e1 : (f (a + d)).task = (t : Int) := ht
          rw [e1, Int.toNat_natCast] at hb
          refine ⟨?_, fun h => by omega⟩
          rw [ofT_yes ht, ofT_yes ht, ih1, List.append_assoc]
        · refine ⟨?_, fun h => ?_⟩
          · rw [ofT_no ht, ofT_no ht, ih1]
          · rw [ofT_no ht]; exact ih2 (by omega)
    · rw [evsF_no (P := fun _ => true) (fun h => h1 h.1), evsF_no (P := befP f m true) (fun h => h1 h.1), evsF_no (P := befP f m false) (fun h => h1 h.1)]
      exact ⟨ih1, fun h => ih2 (by omega)⟩
theorem parts_len (f : Nat → TR) (m : Nat → Nat) (a d : Nat) : (evsF f (fun _ => true) a d).length = (evsF f (befP f m true) a d).length + (evsF f (befP f m false) a d).length := by
  induction d with
  | zero => rfl
  | succ d ih =>
    by_cases h1 : (f (a + d)).kind = 1
    · rw [evsF_yes (P := fun _ => true) h1 rfl]
      by_cases hb : a + d < m (f (a + d)).task.toNat
      · rw [evsF_yes (P := befP f m true) h1 (by simp [befP, hb]), evsF_no (P := befP f m false) (by rintro ⟨_, e⟩; simp [befP, hb] at e)]
        simp only [List.length_append, List.length_singleton]
        omega
      · rw [evsF_no (P := befP f m true) (by rintro ⟨_, e⟩; simp [befP, hb] at e), evsF_yes (P := befP f m false) h1 (by simp [befP, hb])]
        simp only [List.length_append, List.length_singleton]
        omega
    · rw [evsF_no (P := fun _ => true) (fun h => h1 h.1), evsF_no (P := befP f m true) (fun h => h1 h.1), evsF_no (P := befP f m false) (fun h => h1 h.1)]
      exact ih
set_option maxHeartbeats 8000000 in
theorem of_any (v : Value) (xs : List EV) (t : Int) (b : Nat) (w : World) (h : EvRow b w v xs) (hx : xs.length * 16 ≤ 140737488355328) :
    Calls Try.prog 15 #[v, .int .i64 t] w fun e w' => EvQ (ofT t xs) w e w' := by
  obtain ⟨pv, cv, rfl, hin⟩ := h.in_ (by omega)
  obtain ⟨i0, Kd⟩ := kindEv
  have HKd := hid Kd
  have H := hid hin
  obtain ⟨L, hL⟩ : ∃ L, L = xs.length := ⟨_, rfl⟩
  rw [← hL] at hx ⊢
  have HL := hid hL
  clear h hin Kd hL
  go_enter Try.func15, Try.ntmps15
  go_wp2_with fail
  go_loopw [5, 6] (fun x y wr => ∃ k : Nat, k ≤ L ∧ y = .int .i64 (k : Int) ∧ EvRow w.heap.size wr x (ofT t (xs.take k)) ∧ Below w.heap.size w wr) (fun _ y _ => L - (intOf y).toNat)
  case atStart => exact ⟨0, Nat.zero_le _, rfl, EvRow.nil _ _, Below.refl _ _⟩
  case round =>
    obtain ⟨k, hk, rfl, hr, hb⟩ := hrel
    have HR := hid hr
    have HB := hid hb
    clear hr hb
    by_cases hlt : k < L
    · have hlt' : (k : Int) < (L : Int) := by omega
      have hls := HL.out
      obtain ⟨b2, o2, hp2, _, hl2, hxx⟩ := (H.out.below HB.out).ev (by dsimp only; omega)
      obtain ⟨c0, c1⟩ := hxx k (by dsimp only; omega)
      dsimp only at hp2 c0 c1
      have HTk : Hid (xs.take (k + 1) = xs.take k ++ [xs.getD k ⟨0, 0⟩]) := take_more (by omega)
      obtain ⟨X, hX⟩ : ∃ X, X = xs.getD k ⟨0, 0⟩ := ⟨_, rfl⟩
      rw [← hX] at c0 c1 HTk
      have hlen : (ofT t (xs.take k)).length ≤ k := Nat.le_trans (ofT_len _ _) (by rw [List.length_take]; omega)
      rw [hp2]
      clear hxx hp2 hX hls
      by_cases h1 : X.task = t
      · have HE : Hid (ofT t (xs.take (k + 1)) = ofT t (xs.take k) ++ [X]) := by show _ = _; rw [HTk.out, ofT_yes h1]
        have HX1 := hid h1
        rw [h1] at c0
        obtain ⟨A, hA⟩ : ∃ A, A = ofT t (xs.take k) := ⟨_, rfl⟩
        rw [← hA] at HR HE hlen
        clear h1 hA
        go_wp2_with (at_builtin; refine wpList_app rfl (.tmp 20) (.tmp 25) 31 39 i0 _ 2 16 HKd.out rfl w.heap.size u5 A.length _ rfl (World.ownsRow.alloc HR.out _) ⟨wr.heap.size, 0, none⟩ 1 1 [.int .i64 t, .int .i64 X.port] rfl rfl (news2 wr _ _) (one2 _ _) (by omega) (by omega) (by have := HB.out.size; simp; omega) ?_)
        intro v5 w5 ho5 hg5 hn5
        obtain ⟨p5, c5, rfl⟩ := ownsRow_slice ho5
        have HR5 : Hid (EvRow w.heap.size w5 (.slice p5 (A.length + 1) c5) (A ++ [X])) := EvRow.push (by unfold EV.cells; rw [HX1.out]; exact ho5)
        have HB5 : Hid (Below w.heap.size w w5) := (HB.out.trans ((below1 wr _).mono HB.out.size)).grown hg5 (by have := HB.out.size; simp; omega) (fun q hq => (HR.out.lt q hq).1)
        clear ho5 hg5 hn5
        go_wp2
        go_roundw
        case rel => exact ⟨k + 1, by omega, by go_num, by rw [HE.out]; exact HR5.out, HB5.out⟩
        case measure => simp [intOf]; omega
      · have HE : Hid (ofT t (xs.take (k + 1)) = ofT t (xs.take k)) := by show _ = _; rw [HTk.out, ofT_no h1]
        go_wp2
        go_roundw
        case rel => exact ⟨k + 1, by omega, by go_num, by rw [HE.out]; exact HR.out, HB.out⟩
        case measure => simp [intOf]; omega
    · obtain rfl : k = L := by omega
      have HE : Hid (ofT t (xs.take k) = ofT t xs) := by show _ = _; rw [HL.out, List.take_length]
      obtain ⟨pp, cc, hv⟩ := ownsRow_slice HR.out
      subst hv
      go_wp2
      go_ret
      exact ⟨_, rfl, by rw [← HE.out]; exact HR.out, HB.out⟩
/-- exchanges of neighbours of two tasks, made in their turn -/
inductive Exec : List EV → List Int → List EV → Prop
  | nil {xs} : Exec xs [] xs
  | cons {A x y B ks r} : x.task ≠ y.task → Exec (A ++ y :: x :: B) ks r → Exec (A ++ x :: y :: B) ((A.length : Int) :: ks) r
theorem down_cons {n k : Nat} (h : k ≤ n) : down (n + 1) k = (n : Int) :: down n k := by
  unfold down
  rw [show n + 1 - k = (n - k) + 1 by omega, List.range_succ_eq_map, List.map_cons, List.map_map]
  congr 1
  · omega
  · apply List.map_congr_left
    intro j _
    simp only [Function.comp]
    omega
theorem exec_down (P : List EV) (e : EV) (ks : List Int) (r : List EV) : ∀ (n : Nat) (X Q : List EV), X.length = n → (∀ x ∈ X, x.task ≠ e.task) → Exec (P ++ e :: (X ++ Q)) ks r → Exec (P ++ X ++ e :: Q) (down (P.length + X.length) P.length ++ ks) r := by
  intro n
  induction n with
  | zero =>
    intro X Q hn _ h
    obtain rfl : X = [] := List.eq_nil_of_length_eq_zero hn
    simpa [down_self] using h
  | succ n ih =>
    intro X Q hn hx h
    rcases List.eq_nil_or_concat X with rfl | ⟨X, x, rfl⟩
    · simp at hn
    rw [List.concat_eq_append] at hn hx h ⊢
    rw [show P.length + (X ++ [x]).length = (P.length + X.length) + 1 by simp; omega, down_cons (by omega), List.cons_append]
    have h1 : P ++ (X ++ [x]) ++ e :: Q = (P ++ X) ++ x :: e :: Q := by simp
    rw [h1, show ((P.length + X.length : Nat) : Int) = ((P ++ X).length : Nat) by simp]
    refine Exec.cons (hx x (by simp)) ?_
    refine ih X (x :: Q) (by simp at hn; omega) (fun y hy => hx y (by simp [hy])) ?_
    simpa using h
theorem exec_all : ∀ (r pre : List (EV × Bool)), Mono (pre ++ r) → Exec (befs pre ++ afts pre ++ alls r) (pl r pre.length (befs pre).length) (befs (pre ++ r) ++ afts (pre ++ r)) := by
  intro r
  induction r with
  | nil => intro pre _; simp [alls, pl]; exact Exec.nil
  | cons q r ih =>
    intro pre hM
    obtain ⟨e, b⟩ := q
    have hl : (befs pre).length + (afts pre).length = pre.length := by
      induction pre with
      | nil => rfl
      | cons q r ih2 =>
        obtain ⟨e, b⟩ := q
        have : (befs r).length + (afts r).length = r.length := by
          clear ih2 hM ih
          induction r with
          | nil => rfl
          | cons q r ih3 => obtain ⟨e, b⟩ := q; cases b <;> simp [befs, afts] at ih3 ⊢ <;> omega
        cases b <;> simp [befs, afts] at this ⊢ <;> omega
    cases b with
    | false =>
      have h := ih (pre ++ [(e, false)]) (by simpa using hM)
      have e1 : befs (pre ++ [(e, false)]) = befs pre := by simp [befs]
      have e2 : afts (pre ++ [(e, false)]) = afts pre ++ [e] := by simp [afts]
      have e3 : pre ++ [(e, false)] ++ r = pre ++ (e, false) :: r := by simp
      rw [e1, e2, e3] at h
      simpa [alls, pl] using h
    | true =>
      have h := ih (pre ++ [(e, true)]) (by simpa using hM)
      have e1 : befs (pre ++ [(e, true)]) = befs pre ++ [e] := by simp [befs]
      have e2 : afts (pre ++ [(e, true)]) = afts pre := by simp [afts]
      have e3 : pre ++ [(e, true)] ++ r = pre ++ (e, true) :: r := by simp
      rw [e1, e2, e3] at h
      have h2 := exec_down (befs pre) e (pl r (pre.length + 1) ((befs pre).length + 1)) _ _ (afts pre) (alls r) rfl (Mono.afts hM) (by simpa using h)
      rw [hl] at h2
      simpa [alls, pl] using h2
theorem exec_life {L : List (EV × Bool)} (h : Mono L) : Exec (alls L) (pl L 0 0) (befs L ++ afts L) := by
  have := exec_all L [] (by simpa using h)
  simpa [befs, afts] using this
theorem Exec.len {xs r : List EV} {ks : List Int} (h : Exec xs ks r) : r.length = xs.length := by
  induction h with
  | nil => rfl
  | cons _ _ ih => rw [ih]; simp

theorem Exec.inv {cur r : List EV} {k : Int} {ks : List Int} (h : Exec cur (k :: ks) r) : ∃ A x y B, cur = A ++ x :: y :: B ∧ k = (A.length : Int) ∧ x.task ≠ y.task ∧ Exec (A ++ y :: x :: B) ks r := by
  cases h with
  | cons h1 h2 => exact ⟨_, _, _, _, rfl, rfl, h1, h2⟩
theorem Exec.done {cur r : List EV} (h : Exec cur [] r) : cur = r := by cases h; rfl
theorem evSubL {w : World} {S : Nat → Prop} {g n c t : Nat} {f : Nat → EV} (hl : LT.In elEv w S ⟨some ⟨g, 0, none⟩, n, c, f⟩) (ht : t ≤ n) : LT.In elEv w S ⟨if c = t then (some ⟨g, 0, none⟩ : Option Addr) else some ⟨g, t * 2, none⟩, n - t, c - t, fun j => f (t + j)⟩ := by
  have hnc := hl.nc
  have hnn := hl.nn
  have hcc := hl.cc
  dsimp only at hnc hnn hcc
  refine ⟨fun hn => ?_, fun _ _ => trivial, (by dsimp only; omega), (by dsimp only; omega), (by dsimp only; omega), fun h => ?_⟩
  · dsimp only at hn ⊢
    rw [if_neg (by omega)]
    obtain ⟨b, o, e, hS, hb, ha⟩ := hl.at_ (by dsimp only; omega)
    cases e
    refine ⟨g, t * 2, rfl, hS, hb, fun j hj r u hu => ?_⟩
    have := ha (t + j) (by dsimp only; omega) r u hu
    rw [show t * 2 + j * elEv.size + r = 0 + (t + j) * elEv.size + r by simp only [elEv]; omega]
    exact this
  · dsimp only at h
    split at h <;> cases h
theorem evFront {w : World} {S : Nat → Prop} {l : LT EV} (hl : LT.In elEv w S l) {m : Nat} (hm : m ≤ l.n) : LT.In elEv w S ⟨l.p, m, l.c, l.item⟩ := by
  refine ⟨fun hn => ?_, fun _ _ => trivial, by have := hl.nc; dsimp only; omega, by have := hl.nn; dsimp only; omega, hl.cc, fun h => ?_⟩
  · obtain ⟨b, o, e, hS, hb, ha⟩ := hl.at_ (by dsimp only at hn; omega)
    exact ⟨b, o, e, hS, hb, fun j hj => ha j (by dsimp only at hj; omega)⟩
  · have := hl.nil h
    dsimp only
    omega
set_option maxHeartbeats 16000000 in
theorem exchanged_any (w : World) (base bp ba bb : Nat) (pr : Option Addr) (nr cr : Nat) (vp va vb : Value) (xs A B : List EV) (ps : List Int) (hr : EvRow base w (.slice pr nr cr) xs) (hp : InRow bp w vp ps) (ha : EvRow ba w va A) (hb : EvRow bb w vb B) (hE : Exec xs ps (A ++ B))
    (hap : ∀ x, (Value.slice pr nr cr).ownBlock = some x → vp.ownBlock ≠ some x ∧ va.ownBlock ≠ some x ∧ vb.ownBlock ≠ some x) (hx : xs.length * 16 ≤ 140737488355328) (hps : ps.length ≤ 140737488355328) :
    Calls Try.prog 16 #[.slice pr nr cr, vp, va, vb] w fun e w' => e = .returned (.bool true) ∧ But (fun k => (Value.slice pr nr cr).ownBlock = some k) w w' := by
  obtain ⟨p9, c9, h9⟩ := ownsRow_slice hr
  have hnr : nr = xs.length := by cases h9; rfl
  clear h9
  have hll := hE.len
  rw [List.length_append] at hll
  obtain ⟨pp, cp, hvp⟩ := ownsRow_slice hp
  obtain ⟨pa, ca, hva⟩ := ownsRow_slice ha
  obtain ⟨pb, cb, hvb⟩ := ownsRow_slice hb
  subst hvp
  subst hva
  subst hvb
  obtain ⟨LP, hLP⟩ : ∃ n, n = ps.length := ⟨_, rfl⟩
  obtain ⟨LA, hLA⟩ : ∃ n, n = A.length := ⟨_, rfl⟩
  obtain ⟨LB, hLB⟩ : ∃ n, n = B.length := ⟨_, rfl⟩
  rw [← hLP] at hp hap hps ⊢
  rw [← hLA] at ha hap hll ⊢
  rw [← hLB] at hb hap hll ⊢
  have hx' : nr * 16 ≤ 140737488355328 := by rw [hnr]; exact hx
  have HR := hid hr
  have HP := hid hp
  have HA := hid ha
  have HBb := hid hb
  have HE := hid hE
  have HAp := hid hap
  have HLP := hid hLP
  have HLA := hid hLA
  have HLB := hid hLB
  have HNr := hid hnr
  have HLL : Hid (LA + LB = nr) := by show _ = _; omega
  clear hr hp ha hb hE hap hx hLP hLA hLB hnr hll
  go_enter Try.func16, Try.ntmps16
  go_wp2_with fail
  go_loopw [9] (fun x wr => ∃ (k : Nat) (cur : List EV), k ≤ LP ∧ x = .int .i64 (k : Int) ∧ EvRow base wr (.slice pr nr cr) cur ∧ Exec cur (ps.drop k) (A ++ B) ∧ But (fun k => (Value.slice pr nr cr).ownBlock = some k) w wr) (fun x _ => LP - (intOf x).toNat)
  case atStart => exact ⟨0, xs, Nat.zero_le _, rfl, HR.out, by rw [List.drop_zero]; exact HE.out, But.refl _ _⟩
  case round =>
    obtain ⟨k, cur, hk, rfl, hrun, hex, hbut⟩ := hrel
    by_cases hlt : k < LP
    · have hlt' : (k : Int) < (LP : Int) := by omega
      have hlp := HLP.out
      rw [List.drop_eq_getElem_cons (by omega)] at hex
      obtain ⟨C, x, y, D, hcur, hpk, hne, hex2⟩ := hex.inv
      subst hcur
      have hpw : InRow bp wr (.slice pp LP cp) ps := ownsRow_keep HP.out fun q hq hl => hbut.block q hl (fun e => (HAp.out q e).1 hq)
      obtain ⟨gp, cp2, hv, _, hgp, _, hcell⟩ := hpw.at_ (by omega)
      have hpp : pp = some ⟨gp, 0, none⟩ := (Value.slice.inj hv).1
      have pk := (hcell k (C.length : Int) (by rw [← hpk]; exact List.getElem?_eq_getElem (by omega))).1
      obtain ⟨g, hpg, hnc, hbg, hgl, hnc2⟩ := hrun.some_ (by simp; omega)
      subst hpg
      subst hpp
      obtain ⟨r0, r1, f0, f1, _⟩ := hrun.at_
      have hrun2 : EvRow base wr (.slice (some ⟨g, 0, none⟩) nr cr) ((C ++ [x]) ++ y :: D) := by simpa using hrun
      obtain ⟨s0, s1, f2, f3, _⟩ := hrun2.at_
      have hl1 : (C ++ [x]).length = C.length + 1 := by simp
      rw [hl1] at s0 s1 f2 f3
      obtain ⟨V, hV⟩ : ∃ X, X = (wr.alloc (.cells #[.int .i64 x.task, .int .i64 x.port] 39)).drew := ⟨_, rfl⟩
      have hbV : Below wr.heap.size wr V := by rw [hV]; exact (below1 _ _).drew
      have bx : Box V wr.heap.size #[.int .i64 x.task, .int .i64 x.port] 39 := by rw [hV]; exact Box.new wr _ _
      have hrV := hrun.below hbV
      have hrV2 := hrun2.below hbV
      obtain ⟨R0, R1, F0, F1, Gl⟩ := hrV.at_
      obtain ⟨S0, S1, F2, F3, _⟩ := hrV2.at_
      rw [hl1] at S0 S1 F2 F3
      have hlen : nr = C.length + 1 + 1 + D.length := by rw [hnc]; simp; omega
      have hsw := (show EvRow base V (.slice (some ⟨g, 0, none⟩) (C ++ x :: y :: D).length cr) (C ++ x :: y :: D) by rw [← hnc]; exact hrV).swap
      rw [← hnc] at hsw
      obtain ⟨W8, hW8⟩ : ∃ X, X = (V.setCell ⟨g, C.length * 2, none⟩ (.int .i64 y.task)).setCell ⟨g, C.length * 2 + 1, none⟩ (.int .i64 y.port) := ⟨_, rfl⟩
      have hb8 : But (fun q => q = g) V W8 := by rw [hW8]; exact ((But.one V g).setAt _ _).setAt _ _
      have bx8 := bx.but hb8 (by omega)
      rw [← hW8] at hsw
      have hr8 : EvRow base W8 (.slice (some ⟨g, 0, none⟩) nr cr) (C ++ y :: y :: D) := by
        have h1 := ((World.ownsRow.stored (show World.ownsRow V base 39 2 (.slice (some ⟨g, 0, none⟩) nr cr) nr ((C ++ x :: y :: D).flatMap EV.cells) from by have h := hrV; unfold EvRow at h; rw [← hnc] at h; exact h) (C.length * 2) (.int .i64 y.task)).1.stored (C.length * 2 + 1) (.int .i64 y.port)).1
        rw [← hW8] at h1
        have hcl := ev_flat_len C
        have e9 : ((((C ++ x :: y :: D).flatMap EV.cells).set (C.length * 2) (.int .i64 y.task)).set (C.length * 2 + 1) (.int .i64 y.port)) = (C ++ y :: y :: D).flatMap EV.cells := by
          simp only [List.flatMap_append, List.flatMap_cons, EV.cells, List.cons_append, List.nil_append]
          rw [List.set_append_right _ _ (by omega), List.set_append_right _ _ (by omega)]
          rw [hcl, show C.length * 2 - C.length * 2 = 0 by omega, show C.length * 2 + 1 - C.length * 2 = 1 by omega]
          rfl
        rw [e9] at h1
        unfold EvRow
        rw [show (C ++ y :: y :: D).length = (C ++ x :: y :: D).length by simp, ← hnc]
        exact h1
      have hr82 : EvRow base W8 (.slice (some ⟨g, 0, none⟩) nr cr) ((C ++ [y]) ++ y :: D) := by simpa using hr8
      obtain ⟨Q0, Q1, Y0, Y1, Yl⟩ := hr82.at_
      have hl2 : (C ++ [y]).length = C.length + 1 := by simp
      rw [hl2] at Q0 Q1 Y0 Y1
      have X0 := bx8.cell 0
      have X1 := bx8.cell 1
      have Xl := bx8.lt
      simp at X0 X1
      have hbut9 : But (fun k => (Value.slice (some ⟨g, 0, none⟩) nr cr).ownBlock = some k) w ((W8.setCell ⟨g, (C.length + 1) * 2, none⟩ (.int .i64 x.task)).setCell ⟨g, (C.length + 1) * 2 + 1, none⟩ (.int .i64 x.port)) := by
        have h1 : But (fun q => q = g) V ((W8.setCell ⟨g, (C.length + 1) * 2, none⟩ (.int .i64 x.task)).setCell ⟨g, (C.length + 1) * 2 + 1, none⟩ (.int .i64 x.port)) := hb8.trans (((But.one W8 g).setAt _ _).setAt _ _)
        exact (hbut.trans (But.ofBelow hbV)).trans (h1.mono fun q _ e => by rw [e]; rfl)
      have HSw := hid hsw
      have HB9 := hid hbut9
      have HEx := hid hex2
      have HV := hid hV
      have HW8 := hid hW8
      obtain ⟨K, hK⟩ : ∃ K, K = C.length := ⟨_, rfl⟩
      have HK := hid hK
      rw [← hK] at r0 r1 f0 f1 s0 s1 f2 f3 pk R0 R1 F0 F1 S0 S1 F2 F3 Q0 Q1 Y0 Y1 hlen
      have HW8' : Hid (W8 = (V.setCell ⟨g, K * 2, none⟩ (.int .i64 y.task)).setCell ⟨g, K * 2 + 1, none⟩ (.int .i64 y.port)) := by show _ = _; rw [hK]; exact HW8.out
      have hKb : K + 1 ≤ 140737488355328 := by omega
      have hKn : K < nr := by omega
      have hKn1 : K + 1 < nr := by omega
      have hKn' : (K : Int) < (nr : Int) := by omega
      have hKn1' : ((K + 1 : Nat) : Int) < (nr : Int) := by omega
      have hKn3' : (K : Int) + 1 < (nr : Int) := by omega
      have hKn4' : ¬ (nr : Int) ≤ (K : Int) + 1 := by omega
      have hKn2' : ¬ (nr : Int) ≤ ((K + 1 : Nat) : Int) := by omega
      have hne2 : (x.task == y.task) = false := by simpa using hne
      have hgw : ¬ g = wr.heap.size := by omega
      clear hrun hex hbut hlp hpk hex2 hpw hv hcell hnc hrun2 hl1 hV hbV bx hrV hrV2 hlen hsw hW8 hb8 bx8 hr8 hr82 hl2 hbut9 hK
      go_upto_region 5 with fail
      refine wp_region_calmE 30 (fun wx => Below wr.heap.size wr wx) [(0, true), (1, true), (2, true), (3, true), (4, true), (5, true), (6, true), (7, true), (8, true), (9, true), (10, true), (11, true), (12, true), (13, true), (14, false), (15, true), (16, true), (17, true), (18, true), (19, true), (20, false), (21, true), (22, true)] .done (by kernel_rfl) (by kernel_rfl) (Below.refl _ _).drew ?_
      refine wpPre_e rfl rfl (fun K1 hK1 => ?_)
      apply Exists.intro
      refine And.intro (fun wx hx => ?_) ?_
      · go_simp
        try rfl
      go_simp
      refine hK1 _ ?_
      clear hK1 K1
      refine wpPre_e rfl rfl (fun K1 hK1 => ?_)
      apply Exists.intro
      refine And.intro (fun wx hx => ?_) ?_
      · go_simp
        try rfl
      go_simp
      refine hK1 _ ?_
      clear hK1 K1
      refine wpPre_e rfl rfl (fun K1 hK1 => ?_)
      apply Exists.intro
      refine And.intro (fun wx hx => ?_) ?_
      · go_simp
        try rfl
      go_simp
      refine hK1 _ ?_
      clear hK1 K1
      refine wpPre_i rfl (fun K1 hK1 => ?_)
      rw [if_pos (by go_simp)]
      apply Exists.intro
      refine And.intro (fun wx hx => ?_) ?_
      · go_simp
        try rfl
      go_simp
      refine hK1 _ ?_
      clear hK1 K1
      refine wpPre_i rfl (fun K1 hK1 => ?_)
      rw [if_pos (by go_simp)]
      apply Exists.intro
      refine And.intro (fun wx hx => ?_) ?_
      · go_simp
        try rfl
      go_simp
      refine hK1 _ ?_
      clear hK1 K1
      try rw [wrap_nat hKb]
      refine wpPre_i rfl (fun K1 hK1 => ?_)
      rw [if_pos (by go_simp)]
      apply Exists.intro
      refine And.intro (fun wx hx => ?_) ?_
      · go_simp
        try rfl
      go_simp
      refine hK1 _ ?_
      clear hK1 K1
      refine wpPre_i rfl (fun K1 hK1 => ?_)
      rw [if_pos (by go_simp)]
      apply Exists.intro
      refine And.intro (fun wx hx => ?_) ?_
      · go_simp
        try rfl
      go_simp
      refine hK1 _ ?_
      clear hK1 K1
      refine wpPre_i rfl (fun K1 hK1 => ?_)
      rw [if_pos (by go_simp)]
      apply Exists.intro
      refine And.intro (fun wx hx => ?_) ?_
      · go_simp
        try rfl
      go_simp
      refine hK1 _ ?_
      clear hK1 K1
      refine wpPre_e rfl rfl (fun K1 hK1 => ?_)
      apply Exists.intro
      refine And.intro (fun wx hx => ?_) ?_
      · go_simp
        try rfl
      go_simp
      refine hK1 _ ?_
      clear hK1 K1
      refine wpPre_e rfl rfl (fun K1 hK1 => ?_)
      apply Exists.intro
      refine And.intro (fun wx hx => ?_) ?_
      · go_simp
        try rfl
      go_simp
      refine hK1 _ ?_
      clear hK1 K1
      refine wpPre_i rfl (fun K1 hK1 => ?_)
      rw [if_pos (by go_simp)]
      apply Exists.intro
      refine And.intro (fun wx hx => ?_) ?_
      · go_simp
        try rfl
      go_simp
      refine hK1 _ ?_
      clear hK1 K1
      refine wpPre_i rfl (fun K1 hK1 => ?_)
      rw [if_pos (by go_simp)]
      apply Exists.intro
      refine And.intro (fun wx hx => ?_) ?_
      · go_simp
        try rfl
      go_simp
      refine hK1 _ ?_
      clear hK1 K1
      refine wpPre_i rfl (fun K1 hK1 => ?_)
      rw [if_pos (by go_simp)]
      apply Exists.intro
      refine And.intro (fun wx hx => ?_) ?_
      · go_simp
        try rfl
      go_simp
      refine hK1 _ ?_
      clear hK1 K1
      refine wpPre_i rfl (fun K1 hK1 => ?_)
      rw [if_pos (by go_simp)]
      apply Exists.intro
      refine And.intro (fun wx hx => ?_) ?_
      · go_simp
        try rfl
      go_simp
      refine hK1 _ ?_
      clear hK1 K1
      refine wpPre_i rfl (fun K1 hK1 => ?_)
      rw [if_pos (by go_simp)]
      apply Exists.intro
      refine And.intro (fun wx hx => ?_) ?_
      · have e0 := below_fact hx rfl r0
        have e1 := below_fact hx rfl s0
        go_simp
        try rfl
      go_simp
      refine hK1 _ ?_
      clear hK1 K1
      refine wpPre_i rfl (fun K1 hK1 => ?_)
      rw [if_pos (by go_simp)]
      apply Exists.intro
      refine And.intro (fun wx hx => ?_) ?_
      · go_simp
        try rfl
      go_simp
      refine hK1 _ ?_
      clear hK1 K1
      refine wpPre_i rfl (fun K1 hK1 => ?_)
      rw [if_pos (by go_simp)]
      apply Exists.intro
      refine And.intro (fun wx hx => ?_) ?_
      · go_simp
        try rfl
      go_simp
      refine hK1 _ ?_
      clear hK1 K1
      refine wpPre_i rfl (fun K1 hK1 => ?_)
      rw [if_pos (by go_simp)]
      apply Exists.intro
      refine And.intro (fun wx hx => ?_) ?_
      · go_simp
        try rfl
      go_simp
      refine hK1 _ ?_
      clear hK1 K1
      try rw [wrap_nat hKb]
      refine wpPre_i rfl (fun K1 hK1 => ?_)
      rw [if_pos (by go_simp)]
      apply Exists.intro
      refine And.intro (fun wx hx => ?_) ?_
      · go_simp
        try rfl
      go_simp
      refine hK1 _ ?_
      clear hK1 K1
      refine wpPre_i rfl (fun K1 hK1 => ?_)
      rw [if_pos (by go_simp)]
      apply Exists.intro
      refine And.intro (fun wx hx => ?_) ?_
      · go_simp
        try rfl
      go_simp
      refine hK1 _ ?_
      clear hK1 K1
      refine wpPre_i rfl (fun K1 hK1 => ?_)
      rw [if_pos (by go_simp)]
      apply Exists.intro
      refine And.intro (fun wx hx => ?_) ?_
      · have e0 := below_fact hx rfl r0
        have e1 := below_fact hx rfl s0
        go_simp
        try rfl
      go_simp
      refine hK1 _ ?_
      clear hK1 K1
      refine wpPre_i rfl (fun K1 hK1 => ?_)
      rw [if_pos (by go_simp)]
      apply Exists.intro
      refine And.intro (fun wx hx => ?_) ?_
      · go_simp
        try rfl
      go_simp
      refine hK1 _ ?_
      clear hK1 K1
      refine wpPre_e rfl rfl (fun K1 hK1 => ?_)
      apply Exists.intro
      refine And.intro (fun wx hx => ?_) ?_
      · go_simp
        try rfl
      go_simp
      refine hK1 _ ?_
      clear hK1 K1
      refine wpPre_nil ?_
      refine wpTr_done ?_
      clear hne
      go_upto_region 8 with fail
      rw [← HV.out]
      clear r0 r1 s0 s1 f0 f1 f2 f3 pk
      go_upto_region 9 with fail
      rw [← HW8'.out]
      clear R0 R1 S0 S1 F0 F1 F2 F3
      go_wp2
      go_roundw
      case rel =>
        have hKo := HK.out
        have hsw9 := HSw.out
        have hbt9 := HB9.out
        rw [← hKo] at hsw9 hbt9
        exact ⟨k + 1, C ++ y :: x :: D, by omega, by go_num, hsw9, HEx.out, hbt9⟩
      case measure => simp [intOf]; omega
    · obtain rfl : k = LP := by omega
      have hd : ps.drop k = [] := by rw [HLP.out]; exact List.drop_length
      rw [hd] at hex
      have hcur := hex.done
      subst hcur
      have hlA := HLA.out
      have hlB := HLB.out
      have haw : EvRow ba wr (.slice pa LA ca) A := ownsRow_keep HA.out fun q hq hl => hbut.block q hl (fun e => (HAp.out q e).2.1 hq)
      have hbw : EvRow bb wr (.slice pb LB cb) B := ownsRow_keep HBb.out fun q hq hl => hbut.block q hl (fun e => (HAp.out q e).2.2 hq)
      obtain ⟨p1, c1, e1, hinA⟩ := haw.in_ (by have := HLL.out; omega)
      obtain ⟨p2, c2, e2, hinB⟩ := hbw.in_ (by have := HLL.out; omega)
      obtain ⟨p3, c3, e3, hinR⟩ := hrun.in_ (by have := HLL.out; rw [List.length_append]; omega)
      rw [← hlA] at hinA
      rw [← hlB] at hinB
      have hlR : (A ++ B).length = nr := by have := HLL.out; rw [List.length_append]; omega
      rw [hlR] at hinR
      obtain rfl : pa = p1 := (Value.slice.inj e1).1
      obtain rfl : ca = c1 := (Value.slice.inj e1).2.2
      obtain rfl : pb = p2 := (Value.slice.inj e2).1
      obtain rfl : cb = c2 := (Value.slice.inj e2).2.2
      obtain rfl : pr = p3 := (Value.slice.inj e3).1
      obtain rfl : cr = c3 := (Value.slice.inj e3).2.2
      have hnc : nr ≤ cr := hinR.nc
      have hAn : LA ≤ nr := by have := HLL.out; omega
      have hAc : LA ≤ cr := by omega
      have hAn' : (LA : Int) ≤ (nr : Int) := by omega
      have hAc' : (LA : Int) ≤ (cr : Int) := by omega
      have hA0 : (0 : Int) ≤ (LA : Int) := by omega
      have hnLB : nr - LA = LB := by have := HLL.out; omega
      have HS1 := hid (sameEvents_yes ⟨pr, LA, cr, _⟩ ⟨pa, LA, ca, _⟩ wr (fun _ => True) ((evFront hinR hAn).mono fun _ _ _ => trivial) (hinA.mono fun _ _ _ => trivial) rfl (fun j hj => by
        dsimp only at hj ⊢
        rw [List.getD_eq_getElem?_getD, List.getD_eq_getElem?_getD, List.getElem?_append_left (by omega)]))
      dsimp only at HS1
      have HBut := hid hbut
      have HInR := hid hinR
      have HInB := hid hinB
      have HNl := hid hnLB
      clear hd hex hlA hlB haw hbw e1 e2 e3 hinA hinB hinR hlR hbut hnLB
      have hgetB : ∀ j, j < LB → (A ++ B).getD (LA + j) ⟨0, 0⟩ = B.getD j ⟨0, 0⟩ := fun j hj => by
        have := HLA.out
        rw [List.getD_eq_getElem?_getD, List.getD_eq_getElem?_getD, List.getElem?_append_right (by omega), ← this, Nat.add_sub_cancel_left]
      have HGet := hid hgetB
      clear hgetB
      go_wp2_with fail
      refine HS1.out.mono ?_
      rintro e w4 ⟨rfl, hb4⟩
      have HB4 := hid hb4
      clear hb4 HS1
      cases pr with
      | none =>
        obtain ⟨hn0, hc0⟩ := HInR.out.nil rfl
        dsimp only at hn0 hc0
        obtain rfl : LA = 0 := by omega
        obtain rfl : LB = 0 := by have := HNl.out; omega
        subst hn0
        subst hc0
        have HS2' := hid (sameEvents_yes ⟨none, 0, 0, _⟩ ⟨pb, 0, cb, _⟩ w4 (fun _ => True) ((HInR.out.below HB4.out).mono fun _ _ _ => trivial) ((HInB.out.below HB4.out).mono fun _ _ _ => trivial) rfl (fun j hj => by dsimp only at hj; omega))
        dsimp only at HS2'
        clear hrun
        go_wp2_with fail
        refine HS2'.out.mono ?_
        rintro e w5 ⟨rfl, hb5⟩
        have HB5 := hid hb5
        clear hb5
        go_wp2
        go_ret
        exact ⟨rfl, (HBut.out.trans (But.ofBelow HB4.out)).trans (But.ofBelow HB5.out)⟩
      | some ad =>
        obtain ⟨g, hg⟩ : ∃ g, ad = ⟨g, 0, none⟩ := by
          obtain ⟨_, ⟨hv, _⟩ | ⟨gb, cap, cur, hv, _⟩⟩ := hrun
          · cases hv
          · exact ⟨gb, by cases hv; rfl⟩
        subst hg
        have hsub := evSubL HInR.out hAn
        obtain ⟨pq, hpq⟩ : ∃ pq, pq = (if cr = LA then (some ⟨g, 0, none⟩ : Option Addr) else some ⟨g, LA * 2, none⟩) := ⟨_, rfl⟩
        rw [← hpq] at hsub
        have HS2' := hid (sameEvents_yes _ ⟨pb, LB, cb, _⟩ w4 (fun _ => True) ((hsub.below HB4.out).mono fun _ _ _ => trivial) ((HInB.out.below HB4.out).mono fun _ _ _ => trivial) HNl.out (fun j hj => HGet.out j (by have := HNl.out; dsimp only at hj; omega)))
        dsimp only at HS2'
        have HPq := hid hpq
        clear hrun hsub hpq HAp HR HP HA HBb HE HLP HLA HLB HNr HLL HInR HInB HGet
        clear hAc hAn hA0
        by_cases hca : cr = LA
        · subst hca
          have hpq2 : pq = some ⟨g, 0, none⟩ := by rw [HPq.out, if_pos rfl]
          rw [hpq2, show nr - cr = 0 by omega, Nat.sub_self] at HS2'
          clear hpq2 HPq
          go_wp2_with fail
          refine HS2'.out.mono ?_
          rintro e w5 ⟨rfl, hb5⟩
          have HB5 := hid hb5
          clear hb5
          go_wp2
          go_ret
          exact ⟨rfl, (HBut.out.trans (But.ofBelow HB4.out)).trans (But.ofBelow HB5.out)⟩
        · have hpq2 : pq = some ⟨g, LA * 2, none⟩ := by rw [HPq.out, if_neg hca]
          rw [hpq2] at HS2'
          clear hpq2 HPq
          go_wp2_with fail
          refine HS2'.out.mono ?_
          rintro e w5 ⟨rfl, hb5⟩
          have HB5 := hid hb5
          clear hb5
          go_wp2
          go_ret
          exact ⟨rfl, (HBut.out.trans (But.ofBelow HB4.out)).trans (But.ofBelow HB5.out)⟩
theorem oneEv (xs : List EV) : ∀ u ∈ xs.flatMap EV.cells, u.oneCell' = true := by
  intro u hu
  obtain ⟨j, _, hj⟩ := List.mem_flatMap.1 hu
  exact elEv.one _ u hj

theorem split_bad {l : LT TR} {n i err : Int} {xs ys : List EV} (h : SplitS l n i err xs ys) (he : err ≠ 0) : xs = [] ∧ ys = [] ∧ ¬ Fine l i n := by
  rcases h with ⟨c, _, h1, h2⟩ | ⟨c, d, _, h1, h2⟩ | ⟨c, a, b, d, o, _, h1, h2⟩ | ⟨_, _, _, _, _, _, h0, _⟩
  · exact ⟨h1, h2, fun g => c g.1⟩
  · exact ⟨h1, h2, fun ⟨_, a, b, g1, _⟩ => g1.not d⟩
  · refine ⟨h1, h2, fun ⟨_, a', b', g1, g2⟩ => ?_⟩
    obtain ⟨rfl, rfl⟩ := g1.uniq d
    exact o g2
  · exact (he h0).elim
theorem split_good {l : LT TR} {n i : Int} {xs ys : List EV} (h : SplitS l n i 0 xs ys) : CanL n l ∧ ∃ a b m, LifeAt l.item l.n i a b ∧ (∀ k : Nat, k < n.toNat → OneCp l.item a b i (k : Int) (m k)) ∧ xs = evsF l.item (befP l.item m true) a (b - a) ∧ ys = evsF l.item (befP l.item m false) a (b - a) := by
  rcases h with ⟨_, h0, _⟩ | ⟨_, _, h0, _⟩ | ⟨_, _, _, _, _, h0, _⟩ | ⟨c, a, b, m, h1, h2, _, h3, h4⟩
  · omega
  · omega
  · omega
  · exact ⟨c, a, b, m, h1, h2, h3, h4⟩
theorem path_bad {l : LT TR} {n i err f : Int} {xs ys : List EV} {ps : List Int} (h : SplitS l n i err xs ys) (he : err ≠ 0) (g : PathS l n i f ps) : f ≠ 0 ∧ ps = [] := by
  rcases g with ⟨g0, _, g2⟩ | ⟨c, a, b, m, g1, g2, _⟩
  · exact ⟨g0, g2⟩
  · exact ((split_bad h he).2.2 ⟨c, a, b, g1, fun k hk => ⟨_, g2 k hk⟩⟩).elim
theorem path_good {l : LT TR} {n i f : Int} {ps : List Int} {a b : Nat} {m : Nat → Nat} (c : CanL n l) (h1 : LifeAt l.item l.n i a b) (h2 : ∀ k : Nat, k < n.toNat → OneCp l.item a b i (k : Int) (m k)) (g : PathS l n i f ps) : (2000 < (evsF l.item (fun _ => true) a (b - a)).length ∧ f = 182) ∨ (f = 0 ∧ ps = pl (evL l.item (befP l.item m true) a (b - a)) 0 0 ∧ (evsF l.item (fun _ => true) a (b - a)).length ≤ 2000) := by
  by_cases hl : 2000 < (evsF l.item (fun _ => true) a (b - a)).length
  · exact .inl ⟨hl, (g.uniq (.inr ⟨c, a, b, m, h1, h2, .inl ⟨hl, rfl, rfl⟩⟩)).1⟩
  · obtain ⟨e1, e2⟩ := g.uniq (.inr ⟨c, a, b, m, h1, h2, .inr ⟨by omega, rfl, rfl⟩⟩)
    exact .inr ⟨e1, e2, by omega⟩
set_option maxHeartbeats 16000000 in
theorem witnessTasks_walk (l : LT TR) (i n : Int) (w : World) (hl : LT.In elTr w (fun b => b < w.heap.size) l) (h47 : l.n * 32 ≤ 140737488355328) :
    Calls Try.prog 4 #[.slice l.p l.n l.c, .int .i64 i, .int .i64 n] w fun e w' => e = .returned (.bool true) ∧ Below w.heap.size w w' := by
  have hnn := hl.nn
  obtain ⟨i0, Kd⟩ := kindEv
  have HKd := hid Kd
  have HL := hid hl
  have H47 := hid h47
  have HSp := hid (split_any l i n w _ hl h47)
  clear hl h47 Kd
  go_enter Try.func4, Try.ntmps4
  go_wp2_with fail
  refine HSp.out.mono ?_
  rintro e W1 ⟨v1, v2, err, xs, ys, hS, rfl, hr1, hr2, hap, hb1⟩
  clear HSp
  have HPa := hid (path_any l i n W1 _ (HL.out.below hb1) H47.out)
  obtain ⟨p1, c1, hv1⟩ := ownsRow_slice hr1
  obtain ⟨p2, c2, hv2⟩ := ownsRow_slice hr2
  subst hv1
  subst hv2
  obtain ⟨n1, hn1⟩ : ∃ n1, n1 = xs.length := ⟨_, rfl⟩
  obtain ⟨n2, hn2⟩ : ∃ n2, n2 = ys.length := ⟨_, rfl⟩
  rw [← hn1] at hr1 hap ⊢
  rw [← hn2] at hr2 hap ⊢
  have HN1 := hid hn1
  have HN2 := hid hn2
  have HS := hid hS
  have HR1 := hid hr1
  have HR2 := hid hr2
  have HB1 := hid hb1
  clear hS hr1 hr2 hap hb1 hn1 hn2
  go_wp2_with fail
  refine HPa.out.mono ?_
  rintro e W2 ⟨vp, f, ps, hP, rfl, hrp, hb2⟩
  clear HPa
  obtain ⟨pp, cp, hvp⟩ := ownsRow_slice hrp
  subst hvp
  obtain ⟨np, hnp⟩ : ∃ np, np = ps.length := ⟨_, rfl⟩
  rw [← hnp] at hrp ⊢
  have HNp := hid hnp
  have hb02 : Below w.heap.size w W2 := HB1.out.trans (hb2.mono HB1.out.size)
  have HR1b := hid (HR1.out.below hb2)
  have HR2b := hid (HR2.out.below hb2)
  have HRp := hid hrp
  have HP := hid hP
  have HB2 := hid hb02
  have HS12 := hid (show w.heap.size ≤ W1.heap.size from HB1.out.size)
  clear hnp hrp hP hb2 hb02 HR1 HR2
  by_cases he : err = 0
  · subst he
    obtain ⟨hC, a, b, m, hlf, hone, hxs, hys⟩ := split_good HS.out
    have hpg := path_good hC hlf hone HP.out
    obtain ⟨T, hT⟩ : ∃ T : Nat, n = (T : Int) := ⟨n.toNat, by have := hC.1; omega⟩
    subst hT
    have hab := hlf.ab
    have hbn := hlf.bn
    have ha0 : ¬ (a : Int) < 0 := by omega
    have hT12 : T ≤ 12 := by have := hC.2.1; omega
    have HC := hid hC
    have HLf := hid hlf
    have HPg := hid hpg
    have HXs := hid hxs
    have HYs := hid hys
    have HLl := hid (life_any l i W2 _ (HL.out.below HB2.out))
    clear hC hlf hone hxs hys hpg
    go_wp2_with fail
    refine HLl.out.mono ?_
    rintro e W3 ⟨hq, rfl⟩
    clear HLl
    obtain rfl : e = .returned (.tuple #[.int .i64 (a : Int), .int .i64 (b : Int)]) := by
      rcases hq with ⟨hno, _⟩ | ⟨a', b', g, rfl⟩
      · exact (HLf.out.not hno).elim
      · obtain ⟨rfl, rfl⟩ := g.uniq HLf.out
        rfl
    clear hq
    go_wp2_with fail
    go_loopw [14, 15] (fun x y wr => ∃ k : Nat, a ≤ k ∧ k ≤ b ∧ y = .int .i64 (k : Int) ∧ EvRow W3.heap.size wr x (evsF l.item (fun _ => true) a (k - a)) ∧ Below W3.heap.size W3 wr) (fun _ y _ => b - (intOf y).toNat)
    case atStart => exact ⟨a, Nat.le_refl _, hab, rfl, by rw [Nat.sub_self]; exact EvRow.nil _ _, Below.refl _ _⟩
    case round =>
      obtain ⟨k, hak, hkb, rfl, hr, hbl⟩ := hrel
      have HR := hid hr
      have HB := hid hbl
      clear hr hbl
      by_cases hlt : k < b
      · have hlt' : (k : Int) < (b : Int) := by omega
        have hltn : k < l.n := by omega
        have hltn' : (k : Int) < (l.n : Int) := by omega
        obtain ⟨b1, o1, hp, _, hl1, ha⟩ := ((HL.out.below HB2.out).below HB.out).tr (by omega)
        obtain ⟨a0, a1, a2, a3⟩ := ha k hltn
        have hka : a + (k - a) = k := by omega
        have hks : k + 1 - a = (k - a) + 1 := by omega
        have HKA := hid hka
        have HKS := hid hks
        rw [hp]
        clear ha hp hka hks
        by_cases h1 : (l.item k).kind = 1
        · have HK1 := hid h1
          have HE : Hid (evsF l.item (fun _ => true) a (k + 1 - a) = evsF l.item (fun _ => true) a (k - a) ++ [(l.item k).ev]) := by show _ = _; rw [HKS.out, evsF_yes (by rw [HKA.out]; exact HK1.out) rfl, HKA.out]
          have hlen : (evsF l.item (fun _ => true) a (k - a)).length ≤ k - a := evsF_len _ _ _ _
          have h47 := H47.out
          rw [h1] at a0
          clear h1
          go_upto_region 13 with fail
          refine wp_region_calmE 30 (fun wx => Below wr.heap.size wr wx) [(0, true), (1, true), (2, true), (3, true), (4, true), (5, false), (6, true), (7, true), (8, true), (9, true), (10, false), (11, true)] (.one 12 true [] (.one 13 false [(14, true)] .done)) (by kernel_rfl) (by kernel_rfl) (Below.refl _ _).drew ?_
          refine wpPre_e rfl rfl (fun K1 hK1 => ?_)
          apply Exists.intro
          refine And.intro (fun wx hx => ?_) ?_
          · go_simp
            try rfl
          go_simp
          refine hK1 _ ?_
          clear hK1 K1
          refine wpPre_e rfl rfl (fun K1 hK1 => ?_)
          apply Exists.intro
          refine And.intro (fun wx hx => ?_) ?_
          · go_simp
            try rfl
          go_simp
          refine hK1 _ ?_
          clear hK1 K1
          refine wpPre_e rfl rfl (fun K1 hK1 => ?_)
          apply Exists.intro
          refine And.intro (fun wx hx => ?_) ?_
          · go_simp
            try rfl
          go_simp
          refine hK1 _ ?_
          clear hK1 K1
          refine wpPre_e rfl rfl (fun K1 hK1 => ?_)
          apply Exists.intro
          refine And.intro (fun wx hx => ?_) ?_
          · go_simp
            try rfl
          go_simp
          refine hK1 _ ?_
          clear hK1 K1
          refine wpPre_e rfl rfl (fun K1 hK1 => ?_)
          apply Exists.intro
          refine And.intro (fun wx hx => ?_) ?_
          · go_simp
            try rfl
          go_simp
          refine hK1 _ ?_
          clear hK1 K1
          refine wpPre_e rfl rfl (fun K1 hK1 => ?_)
          apply Exists.intro
          refine And.intro (fun wx hx => ?_) ?_
          · have e0 := below_fact hx rfl a0
            have e1 := below_fact hx rfl a1
            have e2 := below_fact hx rfl a2
            have e3 := below_fact hx rfl a3
            go_simp
            try rfl
          go_simp
          refine hK1 _ ?_
          clear hK1 K1
          refine wpPre_e rfl rfl (fun K1 hK1 => ?_)
          apply Exists.intro
          refine And.intro (fun wx hx => ?_) ?_
          · go_simp
            try rfl
          go_simp
          refine hK1 _ ?_
          clear hK1 K1
          refine wpPre_e rfl rfl (fun K1 hK1 => ?_)
          apply Exists.intro
          refine And.intro (fun wx hx => ?_) ?_
          · go_simp
            try rfl
          go_simp
          refine hK1 _ ?_
          clear hK1 K1
          refine wpPre_e rfl rfl (fun K1 hK1 => ?_)
          apply Exists.intro
          refine And.intro (fun wx hx => ?_) ?_
          · go_simp
            try rfl
          go_simp
          refine hK1 _ ?_
          clear hK1 K1
          refine wpPre_e rfl rfl (fun K1 hK1 => ?_)
          apply Exists.intro
          refine And.intro (fun wx hx => ?_) ?_
          · go_simp
            try rfl
          go_simp
          refine hK1 _ ?_
          clear hK1 K1
          refine wpPre_e rfl rfl (fun K1 hK1 => ?_)
          apply Exists.intro
          refine And.intro (fun wx hx => ?_) ?_
          · have e0 := below_fact hx rfl a0
            have e1 := below_fact hx rfl a1
            have e2 := below_fact hx rfl a2
            have e3 := below_fact hx rfl a3
            go_simp
            try rfl
          go_simp
          refine hK1 _ ?_
          clear hK1 K1
          refine wpPre_e rfl rfl (fun K1 hK1 => ?_)
          apply Exists.intro
          refine And.intro (fun wx hx => ?_) ?_
          · go_simp
            try rfl
          go_simp
          refine hK1 _ ?_
          clear hK1 K1
          refine wpPre_nil ?_
          refine wpTr_e rfl (fun K1 hK1 => ?_)
          go_simp
          refine hK1 _ _ (fun _ => (below1 wr _).drew) ?_
          clear hK1 K1
          refine wpPre_nil ?_
          refine wpTr_e rfl (fun K1 hK1 => ?_)
          refine step_app rfl (.tmp 77) (.tmp 89) 31 39 i0 _ 2 16 HKd.out rfl W3.heap.size u14 (evsF l.item (fun _ => true) a (k - a)).length _ rfl (World.ownsRow.alloc HR.out _) ⟨wr.heap.size, 0, none⟩ 1 1 [.int .i64 (l.item k).task, .int .i64 (l.item k).port] rfl rfl (news2 wr _ _) (one2 _ _) (by omega) (by omega) (by have := HB.out.size; simp; omega) ?_
          intro v3 w3 ho3 hg3 hn3
          obtain ⟨pp3, cc3, rfl⟩ := ownsRow_slice ho3
          have HR3 : Hid (EvRow W3.heap.size w3 (.slice pp3 ((evsF l.item (fun _ => true) a (k - a)).length + 1) cc3) (evsF l.item (fun _ => true) a (k - a) ++ [(l.item k).ev])) := EvRow.push (by unfold TR.ev EV.cells; exact ho3)
          have HB3 : Hid (Below W3.heap.size W3 w3) := (HB.out.trans ((below1 wr (.cells #[.int .i64 (l.item k).task, .int .i64 (l.item k).port] 39)).mono HB.out.size)).drew.grown hg3 (by have := HB.out.size; simp; omega) (fun q hq => (HR.out.lt q hq).1)
          clear ho3 hg3 hn3
          go_simp
          refine hK1 _ _ (fun h => by cases h) ?_
          clear hK1 K1
          refine wpPre_e rfl rfl (fun K1 hK1 => ?_)
          apply Exists.intro
          refine And.intro (fun wx hx => ?_) ?_
          · go_simp
            try rfl
          go_simp
          refine hK1 _ ?_
          clear hK1 K1
          refine wpPre_nil ?_
          refine wpTr_done ?_
          go_wp2
          go_roundw
          case rel => exact ⟨k + 1, by omega, by omega, by go_num, by rw [HE.out]; exact HR3.out, HB3.out⟩
          case measure => simp [intOf]; omega
        · have HE : Hid (evsF l.item (fun _ => true) a (k + 1 - a) = evsF l.item (fun _ => true) a (k - a)) := by show _ = _; rw [HKS.out]; exact evsF_no (by rw [HKA.out]; exact fun h => h1 h.1)
          go_wp2
          go_roundw
          case rel => exact ⟨k + 1, by omega, by omega, by go_num, by rw [HE.out]; exact HR.out, HB.out⟩
          case measure => simp [intOf]; omega
      · obtain rfl : k = b := by omega
        obtain ⟨W4, hW4⟩ : ∃ W4, W4 = wr := ⟨_, rfl⟩
        subst hW4
        obtain ⟨E, hE⟩ : ∃ E, E = evsF l.item (fun _ => true) a (k - a) := ⟨_, rfl⟩
        have hrun : EvRow W3.heap.size W4 u14 E := by rw [hE]; exact HR.out
        have hsum : E.length = n1 + n2 := by rw [hE, HN1.out, HN2.out, HXs.out, HYs.out]; exact parts_len _ _ _ _
        have hElen : n1 + n2 ≤ l.n := by have := evsF_len l.item (fun _ => true) a (k - a); rw [← hE] at this; omega
        have hof : ∀ t : Nat, ofT (t : Int) E = ofT (t : Int) xs ++ ofT (t : Int) ys := fun t => by
          rw [hE, HXs.out, HYs.out]
          exact (ofT_parts l.item m a t (k - a) fun q h1 h2 h3 => (HC.out.2.2 q (by omega)).1).1
        obtain ⟨pr, cr, hv⟩ := ownsRow_slice hrun
        subst hv
        rw [hsum] at hrun ⊢
        have h47 := H47.out
        have HRun := hid hrun
        have HSum := hid hsum
        have HOf := hid hof
        have HE := hid hE
        have HB04 : Hid (Below w.heap.size w W4) := HB2.out.trans (HB.out.mono HB2.out.size)
        have HR1c := hid (HR1b.out.below HB.out)
        have HR2c := hid (HR2b.out.below HB.out)
        have HRpc := hid (HRp.out.below HB.out)
        have hnn1 : ((n1 + n2 : Nat) : Int) = (n1 : Int) + (n2 : Int) := by omega
        clear hrun hsum hof hE HR
        go_wp2_with fail
        go_loopw [16] (fun x wr => ∃ t : Nat, t ≤ T ∧ x = .int .i64 (t : Int) ∧ Below W4.heap.size W4 wr) (fun x _ => T - (intOf x).toNat)
        case atStart => exact ⟨0, Nat.zero_le _, rfl, Below.refl _ _⟩
        case round =>
          obtain ⟨t, ht, rfl, hbt⟩ := hrel
          have HBt := hid hbt
          clear hbt
          have hx1 : xs.length = n1 := HN1.out.symm
          have hy1 : ys.length = n2 := HN2.out.symm
          by_cases htT : t < T
          · have htT' : (t : Int) < (T : Int) := by omega
            have HO1 := hid (of_any (.slice pr (n1 + n2) cr) E (t : Int) _ wr (HRun.out.below HBt.out) (by rw [HSum.out]; omega))
            have hlx := ofT_len (t : Int) xs
            have hly := ofT_len (t : Int) ys
            have hlE : (ofT (t : Int) E).length ≤ 140737488355328 := by have := ofT_len (t : Int) E; have := HSum.out; omega
            rw [hx1] at hlx
            rw [hy1] at hly
            go_wp2_with fail
            refine HO1.out.mono ?_
            rintro e X1 ⟨u1, rfl, hu1, hx1'⟩
            clear HO1
            have hb41 : Below W4.heap.size W4 X1 := HBt.out.trans (hx1'.mono HBt.out.size)
            have HO2 := hid (of_any (.slice p1 n1 c1) xs (t : Int) _ X1 (HR1c.out.below hb41) (by rw [hx1]; omega))
            have HU1 := hid hu1
            have HX1 := hid hb41
            have HX01 := hid hx1'
            clear hu1 hx1' hb41
            go_wp2_with fail
            refine HO2.out.mono ?_
            rintro e X2 ⟨u2, rfl, hu2, hx2'⟩
            clear HO2
            have hb42 : Below W4.heap.size W4 X2 := HX1.out.trans (hx2'.mono HX1.out.size)
            have HO3 := hid (of_any (.slice p2 n2 c2) ys (t : Int) _ X2 (HR2c.out.below hb42) (by rw [hy1]; omega))
            have HU2 := hid hu2
            have HX2 := hid hx2'
            clear hu2 hx2' hb42
            go_wp2_with fail
            refine HO3.out.mono ?_
            rintro e X3 ⟨u3, rfl, hu3, hx3'⟩
            clear HO3
            obtain ⟨p3, c3, hv3⟩ := ownsRow_slice hu3
            subst hv3
            obtain ⟨m3, hm3⟩ : ∃ m3, m3 = (ofT (t : Int) ys).length := ⟨_, rfl⟩
            rw [← hm3] at hu3 hly ⊢
            have HSr := hid hu3.src.2
            have HM3 := hid hm3
            have HU2b := hid (HU2.out.below hx3')
            have HX13 : Hid (Below X1.heap.size X1 X3) := HX2.out.trans (hx3'.mono HX2.out.size)
            clear hu3 hx3' hm3 HU2
            go_wp2_with (at_builtin; refine wpList_appS rfl (.tmp 109) (.tmp 112) 31 39 i0 _ 2 16 HKd.out rfl X1.heap.size u2 (ofT (t : Int) xs).length _ rfl HU2b.out p3 m3 c3 _ rfl HSr.out (oneEv _) (by omega) (by omega) HX13.out.size ?_)
            intro v9 w9 ho9 hg9 hn9
            have hR9 : EvRow X1.heap.size w9 v9 (ofT (t : Int) xs ++ ofT (t : Int) ys) := EvRow.appS rfl HM3.out ho9
            have hb19 : Below X1.heap.size X1 w9 := HX13.out.grown hg9 HX13.out.size (fun q hq => (World.ownsRow.lt HU2b.out q hq).1)
            rw [← HOf.out t] at hR9
            have HSm := hid (sameRows u1 v9 (ofT (t : Int) E) w9 _ _ (HU1.out.below hb19) hR9 hlE)
            have HB9 : Hid (Below W4.heap.size W4 w9) := HX1.out.trans (hb19.mono HX1.out.size)
            clear ho9 hg9 hn9 hR9 hb19
            go_wp2_with fail
            refine HSm.out.mono ?_
            rintro e w10 ⟨rfl, hb10⟩
            have HB10 : Hid (Below W4.heap.size W4 w10) := HB9.out.trans (hb10.mono HB9.out.size)
            clear hb10 HSm
            go_wp2
            go_roundw
            case rel => exact ⟨t + 1, by omega, by go_num, HB10.out⟩
            case measure => simp [intOf]; omega
          · obtain rfl : t = T := by omega
            have HBw : Hid (Below w.heap.size w wr) := HB04.out.trans (HBt.out.mono HB04.out.size)
            rcases HPg.out with ⟨h2, rfl⟩ | ⟨rfl, hps, hle⟩
            · have h3 : (2000 : Int) < (n1 : Int) + (n2 : Int) := by have := HSum.out; rw [HE.out] at this; omega
              clear h2
              go_wp2
              go_ret
              exact ⟨rfl, HBw.out⟩
            · have hle2 : (evL l.item (befP l.item m true) a (k - a)).length ≤ 2000 := by rw [evL_len]; exact hle
              have hpl : ps.length ≤ 140737488355328 := by
                have := pl_len (evL l.item (befP l.item m true) a (k - a)) 0 0 2000 (by omega)
                rw [← hps] at this
                omega
              have hex : Exec E ps (xs ++ ys) := by
                have h := exec_life (evL_mono (f := l.item) (m := m) (a := a) (d := k - a))
                rw [evL_alls, evL_befs, evL_afts _ _ (befP l.item m false) _ _ (fun q => by unfold befP; cases decide (q < m (l.item q).task.toNat) <;> rfl), ← hps, ← HE.out, ← HXs.out, ← HYs.out] at h
                exact h
              have HEx := hid (exchanged_any wr _ _ _ _ pr (n1 + n2) cr (.slice pp np cp) (.slice p1 n1 c1) (.slice p2 n2 c2) E xs ys ps (HRun.out.below HBt.out) (HRpc.out.below HBt.out) (HR1c.out.below HBt.out) (HR2c.out.below HBt.out) hex (fun q hq => by
                have h0 := (World.ownsRow.lt HRun.out q hq).1
                refine ⟨fun e => ?_, fun e => ?_, fun e => ?_⟩
                · have := (World.ownsRow.lt HRp.out q e).2; omega
                · have := (World.ownsRow.lt HR1b.out q e).2; omega
                · have := (World.ownsRow.lt HR2b.out q e).2; omega) (by rw [HSum.out]; omega) hpl)
              have HRl : Hid (∀ q, (Value.slice pr (n1 + n2) cr).ownBlock = some q → w.heap.size ≤ q) := fun q hq => Nat.le_trans HB2.out.size (World.ownsRow.lt HRun.out q hq).1
              clear hle2 hpl hex hps hle
              go_wp2_with fail
              refine HEx.out.mono ?_
              rintro e w5 ⟨rfl, hbut⟩
              have HB5 : Hid (Below w.heap.size w w5) := HBw.out.trans (hbut.below HBw.out.size fun q hq e => by have := HRl.out q e; omega)
              clear hbut HEx
              go_wp2
              go_ret
              exact ⟨rfl, HB5.out⟩
  · obtain ⟨rfl, rfl, hnf⟩ := split_bad HS.out he
    obtain ⟨hf, rfl⟩ := path_bad HS.out he HP.out
    obtain rfl : n1 = 0 := HN1.out
    obtain rfl : n2 = 0 := HN2.out
    obtain rfl : np = 0 := HNp.out
    have he1 : (err != 0) = true := by simpa using he
    have hf1 : (f != 0) = true := by simpa using hf
    have HRf := hid (refusable_any l i n W2 _ (HL.out.below HB2.out))
    have HNf := hid hnf
    clear he hf hnf
    go_wp2_with fail
    refine HRf.out.mono ?_
    rintro e W3 ⟨r, rfl, hr, hb3⟩
    obtain rfl : r = true := hr.2 HNf.out
    have HB3 : Hid (Below w.heap.size w W3) := HB2.out.trans (hb3.mono HB2.out.size)
    clear hr hb3
    go_wp2
    go_ret
    exact ⟨rfl, HB3.out⟩
end Go.Proofs.Ytbkikbhodgjijaa
