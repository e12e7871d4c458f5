import Derived.Test.YtpldokahoamdpaaPack12
namespace Go.Proofs.Ytpldokahoamdpaa
open Go.RowKit Go.Conc
set_option maxRecDepth 8000
def LNewQ (room : Int) (w : World) (Z : Nat → Prop) (e : Ending) (w' : World) : Prop :=
  ((room < 0 ∨ 8 < room) → e = .returned (.tuple #[.pointer none, .int .i64 50]) ∧ w' = w) ∧
  (¬ (room < 0 ∨ 8 < room) → e = .returned (.tuple #[.pointer (some ⟨w.heap.size + 1, 0, none⟩), .int .i64 0]) ∧ LnI w' Z (w.heap.size + 1) ⟨room, none, w.heap.size, room.toNat, []⟩ ∧ Below w.heap.size w w')
set_option maxHeartbeats 4000000 in
/-- New -/
theorem lnew_any (room : Int) (w : World) (Z : Nat → Prop) (hZ : ∀ k, Z k → k < w.heap.size) : Calls Try.prog 8 #[.int .i64 room] w fun e w' => LNewQ room w Z e w' := by
  by_cases h0 : room < 0
  · have HP := hid h0
    go_enter Try.func8, Try.ntmps8
    go_wp2
    exact bodyPost_ret (v := .tuple #[.pointer none, .int .i64 50]) (by simp [results, Try.results8, go_sem]) rfl ⟨fun _ => ⟨rfl, rfl⟩, fun h => absurd (.inl HP.out) h⟩
  · by_cases h1 : 8 < room
    · have HP := hid h1
      have h0' : decide (room < 0) = false := decide_eq_false h0
      have h1' : decide (8 < room) = true := decide_eq_true h1
      clear h0 h1
      go_enter Try.func8, Try.ntmps8
      go_wp2
      exact bodyPost_ret (v := .tuple #[.pointer none, .int .i64 50]) (by simp [results, Try.results8, go_sem]) rfl ⟨fun _ => ⟨rfl, rfl⟩, fun h => absurd (.inr HP.out) h⟩
    · obtain ⟨T, hT⟩ : ∃ T : Nat, room = (T : Int) := ⟨room.toNat, by omega⟩
      subst hT
      have hmk := mkCh w T (by omega)
      obtain ⟨W, hW⟩ : ∃ W, W = w.alloc (.chan T #[] false 0 0 false) := ⟨_, rfl⟩
      have hnew : W.heap[w.heap.size]? = some (.chan T #[] false 0 0 false) := by rw [hW]; show (w.heap.push _)[w.heap.size]? = _; simp
      have hB : Below w.heap.size w W := by rw [hW]; exact (Below.refl _ _).alloc (Nat.le_refl _) _
      have hWs : W.heap.size = w.heap.size + 1 := by rw [hW]; simp
      rw [← hW] at hmk
      have HF : Hid (LnI (W.alloc (.cells #[.int .i64 (T : Int), .int .i64 0, .pointer none, .chan (some w.heap.size)] 74)) Z (w.heap.size + 1) ⟨T, none, w.heap.size, (T : Int).toNat, []⟩) := by
        have hB2 : Below W.heap.size W (W.alloc (.cells #[.int .i64 (T : Int), .int .i64 0, .pointer none, .chan (some w.heap.size)] 74)) := (Below.refl _ _).alloc (Nat.le_refl _) _
        have hbx := Box.new W #[.int .i64 (T : Int), .int .i64 0, .pointer none, .chan (some w.heap.size)] 74
        rw [hWs] at hbx
        refine ⟨by simpa [nR, Ln.nextV] using hbx, ⟨0, 0, ?_⟩, (fun n hn => by cases hn), by simp, (by show (T : Int) ≤ 8; omega), by simp; omega, by simp, (fun x hx => by cases hx), fun k hk hz => ?_, by simp [Ln.inCh]⟩
        · show (W.alloc _).heap[w.heap.size]? = _
          rw [hB2.block _ (by omega), hnew]
          simp [Ln.inCh]
        · have := hZ k hz
          rcases hk with e | e | e
          · omega
          · have e' : k = w.heap.size := e
            omega
          · cases e
      have HB := hid (hB.alloc (by omega : w.heap.size ≤ W.heap.size) (.cells #[.int .i64 (T : Int), .int .i64 0, .pointer none, .chan (some w.heap.size)] 74))
      have HP := hid h1
      have hT8 : (T : Int) ≤ 8 := by omega
      have HWs := hid hWs
      have hd0 : decide ((T : Int) < 0) = false := decide_eq_false h0
      have hd1 : decide (8 < (T : Int)) = false := decide_eq_false h1
      clear h0 h1 hnew hB hW hWs
      go_enter Try.func8, Try.ntmps8
      go_wp2
      refine bodyPost_ret (v := .tuple #[.pointer (some ⟨w.heap.size + 1, 0, none⟩), .int .i64 0]) (by simp [results, Try.results8, go_sem, HWs.out]) rfl ⟨fun h => ?_, fun _ => ⟨rfl, HF.out, HB.out⟩⟩
      have := HP.out
      omega
/-- what Put makes of a lane -/
structure PutS (w : World) (Z : Nat → Prop) (b : Nat) (L : Ln) (l : LT IT) (us : List IT) (L' : Ln) (w' : World) : Prop where
  q : L'.q = L.q ++ us
  next : L'.next = L.next
  set : LSet w Z b L w' L'
  le : us.length ≤ l.n
  each : ∀ j x, us[j]? = some x → CopyI (l.item j) x ∧ refI L.room (nR (L.q ++ us.take j)) (l.item j).mark = 0
def PutQ (w : World) (Z : Nat → Prop) (b : Nat) (L : Ln) (l : LT IT) (e : Ending) (w' : World) : Prop := ∃ us L' er, e = .returned (.tuple #[.int .i64 ((us : List IT).length : Int), .int .i64 er]) ∧ PutS w Z b L l us L' w' ∧
  ((us.length = l.n ∧ er = 0) ∨ (us.length < l.n ∧ er ≠ 0 ∧ er = refI L.room (nR (L.q ++ us)) (l.item us.length).mark))
set_option maxRecDepth 60000 in
set_option maxHeartbeats 4000000 in
/-- Put -/
theorem put_any (w : World) (Z : Nat → Prop) (b : Nat) (L : Ln) (hI : LnI w Z b L) (hZ : ∀ k, Z k → k < w.heap.size) (l : LT IT) (S : Nat → Prop) (hl : LT.In elItem w S l) (hS : ∀ k, k < w.heap.size → S k → ¬ L.C b k) (hsz : ∀ j, j < l.n → (l.item j).r.n + (l.item j).r.v.total ≤ 10000) (hlen : L.q.length + l.n ≤ 30000) :
    Calls Try.prog 9 #[.pointer (some ⟨b, 0, none⟩), .slice l.p l.n l.c] w fun e w' => PutQ w Z b L l e w' := by
  have hnn := hl.nn
  have H0 : Hid (PutS w Z b L l [] L w) := ⟨by simp, rfl, LSet.refl hI, Nat.zero_le _, fun j x h => by simp at h⟩
  have HL := hid hl
  have HS := hid hS
  have HZ := hid hZ
  have HI := hid hI
  clear hl hS hZ hI
  go_enter Try.func9, Try.ntmps9
  go_wp2_with fail
  go_loopw [11] (fun v wr => ∃ us L', v = .int .i64 ((us : List IT).length : Int) ∧ PutS w Z b L l us L' wr) (fun v _ => l.n - (intOf v).toNat)
  case atStart => exact ⟨[], L, rfl, H0.out⟩
  case round =>
    obtain ⟨us, L', rfl, hP⟩ := hrel
    obtain ⟨k, hk⟩ : ∃ k, k = us.length := ⟨_, rfl⟩
    rw [← hk]
    have HP := hid hP
    have HK := hid hk
    have hkl : k ≤ l.n := by rw [hk]; exact hP.le
    clear hP hk H0
    by_cases hlt : k < l.n
    · have hlt' : (k : Int) < (l.n : Int) := by omega
      obtain ⟨bb, o, hp, hSb, hbb, hat⟩ := HL.out.at_ (by omega)
      rw [hp]
      have hcell : ∀ r u, (elItem.cells (l.item k))[r]? = some u → wr.cell? ⟨bb, o + k * 7 + r, none⟩ = some u := fun r u hu => (World.cell?_of_block (a := ⟨bb, o + k * 7 + r, none⟩) (HP.out.set.but.block bb hbb (HS.out bb hbb hSb))).trans (hat k hlt r u hu)
      have c0 : wr.cell? ⟨bb, o + k * 7, none⟩ = some (.int .i64 (l.item k).mark) := hcell 0 _ rfl
      have c1 := hcell 1 _ rfl
      have c2 := hcell 2 _ rfl
      have c3 := hcell 3 _ rfl
      have c4 := hcell 4 _ rfl
      have c5 := hcell 5 _ rfl
      have c6 := hcell 6 _ rfl
      have hbb2 : bb < wr.heap.size := Nat.lt_of_lt_of_le hbb HP.out.set.but.size
      have hinx : IT.In wr S (l.item k) := (((HL.out.each k hlt).mono (S' := fun j => S j ∧ j < w.heap.size) fun j hj hl => ⟨hj, hl⟩).kept HP.out.set.but.size fun j hj hl => HP.out.set.but.block j hl (HS.out j hl hj.1)).mono fun j hj _ => hj.1
      obtain ⟨x, hx⟩ : ∃ x, x = l.item k := ⟨_, rfl⟩
      have hszx := hsz k hlt
      rw [← hx] at c0 c1 c2 c3 c4 c5 c6 hinx hszx
      obtain ⟨W, hW⟩ : ∃ W, W = wr.alloc (.cells #[.int .i64 x.mark, .string x.r.key, .int .i64 x.r.v.kind, .int .i64 x.r.v.int, .string x.r.v.text, .slice x.r.v.p x.r.v.n x.r.v.c, .slice x.r.p x.r.n x.r.c] 35) := ⟨_, rfl⟩
      have hB : Below wr.heap.size wr W := by rw [hW]; exact (Below.refl _ _).alloc (Nat.le_refl _) _
      have hX : Box W wr.heap.size #[.int .i64 x.mark, .string x.r.key, .int .i64 x.r.v.kind, .int .i64 x.r.v.int, .string x.r.v.text, .slice x.r.v.p x.r.v.n x.r.v.c, .slice x.r.p x.r.n x.r.c] 35 := by rw [hW]; exact Box.new _ _ _
      have hIr := HP.out.set.ln.below hB
      have HRf := hid (refusal_any W Z b L' hIr x)
      have HW := hid hW
      have HB := hid hB
      have HX := hid hX
      have HXk := hid hx
      have HIn := hid (hinx.below hB)
      have z0 := hX.cell 0
      have z1 := hX.cell 1
      have z2 := hX.cell 2
      have z3 := hX.cell 3
      have z4 := hX.cell 4
      have z5 := hX.cell 5
      have z6 := hX.cell 6
      simp at z0 z1 z2 z3 z4 z5 z6
      clear hcell hat hW hB hX hx hIr hinx
      go_upto_region 4 with fail
      rw [← HW.out]
      go_wp2_with fail
      refine HRf.out.mono ?_
      rintro e w1 ⟨rfl, hB1⟩
      have hX1 := HX.out.below hB1
      have HB1 := hid hB1
      have y0 := hX1.cell 0
      have y1 := hX1.cell 1
      have y2 := hX1.cell 2
      have y3 := hX1.cell 3
      have y4 := hX1.cell 4
      have y5 := hX1.cell 5
      have y6 := hX1.cell 6
      simp at y0 y1 y2 y3 y4 y5 y6
      clear z0 z1 z2 z3 z4 z5 z6 c0 c1 c2 c3 c4 c5 c6 hX1 hB1 HRf
      have hroom : L'.room = L.room := HP.out.set.room
      obtain ⟨er, her⟩ : ∃ er, er = refI L'.room (nR L'.q) x.mark := ⟨_, rfl⟩
      rw [← her]
      have HEr : Hid (er = refI L.room (nR (L.q ++ us)) x.mark) := by rw [← HP.out.q, ← hroom]; exact her
      clear her hroom
      have HSt := hid (LSet.trans HP.out.set (LSet.below HP.out.set.ln (HB.out.trans (HB1.out.mono HB.out.size))))
      by_cases he : er = 0
      · have he' : (er != 0) = false := by simp [he]
        have HE0 := hid he
        have HCp := hid (copied_any x w1 S (HIn.out.below HB1.out) hszx)
        clear he
        go_wp2_with fail
        refine HCp.out.mono ?_
        rintro e w2 ⟨u, rfl, hcp, hinu, hB2⟩
        have hm0 : 0 ≤ x.mark := by
          have h1 := HEr.out
          rw [HE0.out] at h1
          unfold refI at h1
          split at h1
          · cases h1
          · omega
        have hs2 := HSt.out.but.size
        have hs3 := hB2.size
        have hl2 := HSt.out.ln.below hB2
        have hql : L'.q.length < 30000 := by rw [HP.out.q, List.length_append, ← HK.out]; omega
        have HLy := hid (lay_any w2 Z b L' u hl2 (fun j hj => by have := HZ.out j hj; omega) (hinu.mono fun j hj _ => ⟨fun e => by have := HSt.out.ln.c_lt e; omega, fun e => by have := HZ.out j e; omega⟩) (hcp.fine hszx hm0) hql)
        have HSt2 := hid (LSet.trans HSt.out (LSet.below HSt.out.ln hB2))
        have HCu := hid hcp
        clear hcp hinu hB2 hm0 hs2 hs3 hl2 hql
        go_wp2_with fail
        refine HLy.out.mono ?_
        rintro e w3 ⟨rfl, ch, cap, hly⟩
        have HN : Hid (PutS w Z b L l (us ++ [u]) ⟨L'.room, L'.next, ch, cap, L'.q ++ [u]⟩ w3) := by
          refine ⟨by simp [HP.out.q], HP.out.next, LSet.trans HSt2.out hly, by simp; have := HK.out; omega, fun j y hj => ?_⟩
          rcases Nat.lt_or_ge j us.length with hju | hju
          · rw [List.getElem?_append_left hju] at hj
            rw [List.take_append_of_le_length (Nat.le_of_lt hju)]
            exact HP.out.each j y hj
          · rw [List.getElem?_append_right hju] at hj
            obtain rfl : j = us.length := by
              rcases Nat.eq_or_lt_of_le hju with e | e
              · exact e.symm
              · rw [List.getElem?_eq_none (by simp; omega)] at hj; cases hj
            simp at hj
            subst hj
            rw [← HK.out, ← HXk.out]
            refine ⟨HCu.out, ?_⟩
            rw [HK.out, List.take_left]
            exact HEr.out.symm.trans HE0.out
        clear hly HLy HCp
        go_wp2_with fail
        go_roundw
        case rel => exact ⟨us ++ [u], _, by simp; have := HK.out; omega, HN.out⟩
        case measure => simp [intOf]; omega
      · have he' : (er != 0) = true := by simp [he]
        have HE0 := hid he
        clear he
        go_wp2
        refine bodyPost_ret (v := .tuple #[.int .i64 (k : Int), .int .i64 er]) (by simp [results, Try.results9, go_sem]) rfl ⟨us, L', er, by rw [← HK.out], ⟨HP.out.q, HP.out.next, HSt.out, HP.out.le, HP.out.each⟩, .inr ⟨by rw [← HK.out]; exact hlt, HE0.out, by rw [← HK.out, ← HXk.out]; exact HEr.out⟩⟩
    · obtain rfl : k = l.n := by omega
      go_wp2
      refine bodyPost_ret (v := .tuple #[.int .i64 (l.n : Int), .int .i64 0]) (by simp [results, Try.results9, go_sem]) rfl ⟨us, L', 0, by rw [← HK.out], HP.out, .inl ⟨HK.out.symm, rfl⟩⟩
end Go.Proofs.Ytpldokahoamdpaa

namespace Go.Proofs.Ytpldokahoamdpaa
open Go.RowKit Go.Conc
set_option maxRecDepth 8000
theorem LSet.z {w w' : World} {Z Z' : Nat → Prop} {b : Nat} {L L' : Ln} (h : LSet w Z b L w' L') (hz : ∀ k, Z' k → Z k) : LSet w Z' b L w' L' := ⟨h.ln.z fun k _ hk => hz k hk, h.but, h.c, h.room⟩
/-- what lies outside of a lane's blocks stays -/
theorem LSet.keep {α : Type} (E : El α) {w w' : World} {Z T : Nat → Prop} {b : Nat} {L L' : Ln} {x : α} (h : LSet w Z b L w' L') (hx : E.In w (fun k => ¬ L.C b k ∧ T k) x) : E.In w' (fun k => ¬ L'.C b k ∧ T k) x := by
  have h1 := E.mono (S' := fun k => (¬ L.C b k ∧ T k) ∧ k < w.heap.size) hx fun k hk hl => ⟨hk, hl⟩
  have h2 := E.kept h1 h.but.size fun k hk hl => h.but.block k hl hk.1.1
  refine E.mono h2 fun k hk _ => ⟨fun e => ?_, hk.1.2⟩
  rcases h.c k e with e | e
  · exact hk.1.1 e
  · omega
theorem LSet.keepL {α : Type} (E : El α) {w w' : World} {Z T : Nat → Prop} {b : Nat} {L L' : Ln} {l : LT α} (h : LSet w Z b L w' L') (hl : LT.In E w (fun k => ¬ L.C b k ∧ T k) l) : LT.In E w' (fun k => ¬ L'.C b k ∧ T k) l := by
  have h1 := LT.In.mono (S' := fun k => (¬ L.C b k ∧ T k) ∧ k < w.heap.size) hl fun k hk hl => ⟨hk, hl⟩
  have h2 := LT.In.kept h1 h.but.size fun k hk hl => h.but.block k hl hk.1.1
  refine LT.In.mono h2 fun k hk _ => ⟨fun e => ?_, hk.1.2⟩
  rcases h.c k e with e | e
  · exact hk.1.1 e
  · omega
/-- a row that grows beside a lane -/
structure GL {α : Type} (E : El α) (B : Nat) (T : Nat → Prop) (w : World) (Z : Nat → Prop) (b : Nat) (L : Ln) (v : Value) (n : Nat) (g : Nat → α) : Prop where
  ln : LnI w (fun k => Z k ∨ v.ownBlock = some k) b L
  own : w.ownsRow B E.ty E.size v n ((List.range n).flatMap fun j => E.cells (g j))
  each : ∀ j, j < n → E.In w (fun k => ¬ L.C b k ∧ T k ∧ v.ownBlock ≠ some k) (g j)
section
variable {α : Type} {E : El α} {B : Nat} {T : Nat → Prop} {w w' : World} {Z : Nat → Prop} {b : Nat} {L L' : Ln} {v v' : Value} {n : Nat} {g : Nat → α} {u : α}
theorem GL.nil (h : LnI w Z b L) (g : Nat → α) : GL E B T w Z b L (.slice none 0 0) 0 g :=
  ⟨h.z (fun k _ hk => hk.elim id fun e => by cases e), World.ownsRow_nil _ _ _ _, fun j hj => absurd hj (Nat.not_lt_zero j)⟩
theorem GL.lane (h : GL E B T w Z b L v n g) (s : LSet w (fun k => Z k ∨ v.ownBlock = some k) b L w' L') : GL E B T w' Z b L' v n g := by
  refine ⟨s.ln, ownsRow_keep h.own fun k hk hl => s.but.block k hl fun e => h.ln.cz k e (.inr hk), fun j hj => s.keep E (h.each j hj)⟩
theorem GL.below (h : GL E B T w Z b L v n g) (hb : Below w.heap.size w w') : GL E B T w' Z b L v n g := h.lane (LSet.below h.ln hb)
theorem GL.push (h : GL E B T w Z b L v n g) (hu : E.In w (fun k => ¬ L.C b k ∧ T k ∧ v.ownBlock ≠ some k) u)
    (hown : w'.ownsRow B E.ty E.size v' (n + 1) (((List.range n).flatMap fun j => E.cells (g j)) ++ E.cells u)) (hg : w.grownBy w' v.ownBlock) (hn : Near w v v') :
    GL E B T w' Z b L v' (n + 1) (fun j => if j < n then g j else u) := by
  have hbt : But (fun k => v.ownBlock = some k) w w' := (But.refl _ w).grown hg fun k hk _ => hk
  have hl : LnI w' (fun k => Z k ∨ v'.ownBlock = some k) b L := by
    have h1 : LnI w (fun k => Z k ∨ v.ownBlock = some k ∨ v'.ownBlock = some k) b L := h.ln.z fun k hk hz => by
      rcases hz with e | e | e
      · exact .inl e
      · exact .inr e
      · rcases hn with h1 | h1
        · exact .inr (h1 ▸ e)
        · have := h1 k e; omega
    exact (h1.but hbt fun k _ e => .inr (.inl e)).z fun k _ hz => by
      rcases hz with e | e
      · exact .inl e
      · exact .inr (.inr e)
  have key : ∀ x, E.In w (fun k => ¬ L.C b k ∧ T k ∧ v.ownBlock ≠ some k) x → E.In w' (fun k => ¬ L.C b k ∧ T k ∧ v'.ownBlock ≠ some k) x := by
    intro x hx
    have h1 : E.In w (fun k => (¬ L.C b k ∧ T k ∧ v.ownBlock ≠ some k) ∧ v'.ownBlock ≠ some k) x := by
      refine E.mono hx fun k hk hl => ⟨hk, fun e => ?_⟩
      rcases hn with h1 | h1
      · exact hk.2.2 (h1 ▸ e)
      · have := h1 k e; omega
    have h2 := E.kept h1 hg.size fun k hk hl => hg.block k hl fun e => hk.1.2.2 e.symm
    exact E.mono h2 fun k hk _ => ⟨hk.1.1, hk.1.2.1, hk.2⟩
  refine ⟨hl, ?_, fun j hj => ?_⟩
  · have e : ((List.range (n + 1)).flatMap fun j => E.cells (if j < n then g j else u)) = ((List.range n).flatMap fun j => E.cells (g j)) ++ E.cells u := by
      rw [List.range_succ, List.flatMap_append]
      congr 1
      · rw [List.flatMap_def, List.flatMap_def]
        congr 1
        apply List.map_congr_left
        intro j hj
        rw [if_pos (List.mem_range.1 hj)]
      · simp
    rw [e]
    exact hown
  · by_cases hjn : j < n
    · rw [if_pos hjn]; exact key _ (h.each j hjn)
    · rw [if_neg hjn]; exact key _ hu
/-- the row as a list -/
theorem GL.in_ (h : GL E B T w Z b L v n g) (hnn : n ≤ 140737488355328) : ∃ p c, v = .slice p n c ∧ LT.In E w (fun k => ¬ L.C b k ∧ (T k ∨ B ≤ k)) ⟨p, n, c, g⟩ := by
  have hlt := h.own.lt
  have hce := @World.ownsRow.cells _ _ _ _ _ _ _ h.own
  have hcz := h.ln.cz
  obtain ⟨_, ⟨hv, h0⟩ | ⟨gb, cap, cur, hv, hbg, hh, hnc, hcm, hcs, htake⟩⟩ := id h.own
  · subst h0
    exact ⟨none, 0, hv, LT.In.none_ E w _ none 0 g (Nat.zero_le _) (fun _ => rfl)⟩
  · refine ⟨_, cap, hv, fun hn => ⟨gb, 0, rfl, ⟨fun e => hcz gb e (.inr (by rw [hv]; rfl)), .inr hbg⟩, (hlt gb (by rw [hv]; rfl)).2, fun j hj r u hu => ?_⟩, fun j hj => E.mono (h.each j hj) fun k hk _ => ⟨hk.1, .inl hk.2.1⟩, hnc, hnn, hcm, fun h => by cases h⟩
    have hr : r < E.size := by
      rcases Nat.lt_or_ge r E.size with h1 | h1
      · exact h1
      · rw [List.getElem?_eq_none (by rw [E.len]; exact h1)] at hu; cases hu
    have := hce (g := gb) (by rw [hv]; rfl) (j * E.size + r) u (by rw [range_flat_get E g n j r hj hr]; exact hu)
    rw [Go.WideShapes.add_plain] at this
    rw [show (0 : Nat) + j * E.size + r = 0 + (j * E.size + r) by omega]
    exact this
end
/-- a lane beside which a new row was written -/
theorem LSet.row {w0 w w' : World} {Z X : Nat → Prop} {b : Nat} {L0 L : Ln} (h : LSet w0 Z b L0 w L) (hb : But X w w') (hX : ∀ k, X k → w0.heap.size ≤ k) (hl : LnI w' Z b L) : LSet w0 Z b L0 w' L := by
  refine ⟨hl, ⟨hb.os.trans h.but.os, hb.tape.trans h.but.tape, hb.output.trans h.but.output, Nat.le_trans h.but.size hb.size, fun k hk hn => ?_⟩, h.c, h.room⟩
  exact (hb.block k (Nat.lt_of_lt_of_le hk h.but.size) fun e => by have := hX k e; omega).trans (h.but.block k hk hn)
/-- what Pull leaves behind so many rounds -/
def pullQ (A : List IT) (m : IT) (B : List IT) (j : Nat) : List IT := if j ≤ A.length then A.drop j ++ m :: (B ++ A.take j) else B.drop (j - A.length - 1) ++ (A ++ B.take (j - A.length - 1))
theorem pullQ_0 (A : List IT) (m : IT) (B : List IT) : pullQ A m B 0 = A ++ m :: B := by simp [pullQ]
theorem pullQ_end (A : List IT) (m : IT) (B : List IT) : pullQ A m B (A.length + 1 + B.length) = A ++ B := by
  unfold pullQ
  rw [if_neg (by omega), show A.length + 1 + B.length - A.length - 1 = B.length by omega]
  simp
theorem pullQ_A (A : List IT) (m : IT) (B : List IT) {j : Nat} {x : IT} (hx : A[j]? = some x) : ∃ q', pullQ A m B j = x :: q' ∧ pullQ A m B (j + 1) = q' ++ [x] := by
  have hj : j < A.length := by
    rcases Nat.lt_or_ge j A.length with h | h
    · exact h
    · rw [List.getElem?_eq_none h] at hx; cases hx
  refine ⟨A.drop (j + 1) ++ m :: (B ++ A.take j), ?_, ?_⟩
  · unfold pullQ
    rw [if_pos (by omega), List.drop_eq_getElem_cons hj]
    rw [List.getElem?_eq_getElem hj] at hx
    injection hx with hx
    rw [hx]
    rfl
  · unfold pullQ
    rw [if_pos (by omega), List.take_add_one, hx]
    simp
theorem pullQ_m (A : List IT) (m : IT) (B : List IT) : pullQ A m B A.length = m :: (B ++ A) ∧ pullQ A m B (A.length + 1) = B ++ A := by
  unfold pullQ
  refine ⟨?_, ?_⟩
  · rw [if_pos (Nat.le_refl _)]; simp
  · rw [if_neg (by omega), show A.length + 1 - A.length - 1 = 0 by omega]; simp
theorem pullQ_B (A : List IT) (m : IT) (B : List IT) {i : Nat} {x : IT} (hx : B[i]? = some x) : ∃ q', pullQ A m B (A.length + 1 + i) = x :: q' ∧ pullQ A m B (A.length + 1 + i + 1) = q' ++ [x] := by
  have hi : i < B.length := by
    rcases Nat.lt_or_ge i B.length with h | h
    · exact h
    · rw [List.getElem?_eq_none h] at hx; cases hx
  refine ⟨B.drop (i + 1) ++ (A ++ B.take i), ?_, ?_⟩
  · unfold pullQ
    rw [if_neg (by omega), show A.length + 1 + i - A.length - 1 = i by omega, List.drop_eq_getElem_cons hi]
    rw [List.getElem?_eq_getElem hi] at hx
    injection hx with hx
    rw [hx]
    rfl
  · unfold pullQ
    rw [if_neg (by omega), show A.length + 1 + i + 1 - A.length - 1 = i + 1 by omega, List.take_add_one, hx]
    simp
/-- the first marker -/
theorem first_mark : ∀ (q : List IT), nR q ≠ q.length → ∃ A m B, q = A ++ m :: B ∧ (∀ x ∈ A, x.mark = 0) ∧ m.mark ≠ 0
  | [], h => absurd rfl h
  | x :: q, h => by
    by_cases hx : x.mark = 0
    · rw [nR_cons0 q hx, List.length_cons] at h
      obtain ⟨A, m, B, e, h1, h2⟩ := first_mark q (by omega)
      refine ⟨x :: A, m, B, by rw [e]; rfl, fun y hy => ?_, h2⟩
      rcases List.mem_cons.1 hy with e | e
      · rw [e]; exact hx
      · exact h1 y e
    · exact ⟨[], x, q, rfl, (fun y hy => by cases hy), hx⟩
end Go.Proofs.Ytpldokahoamdpaa
