import Derived.Test.YtikfpoabaaiegaaPack33
namespace Go.Proofs.Ytikfpoabaaiegaa
set_option maxRecDepth 8000
theorem front_small {x : Nat × Nat × Nat} {B R : List Int} (h : frontS B = .ok (x, R)) (hB : Byt B) : x.1 ≤ 9999 ∧ x.2.1 ≤ 11 ∧ x.2.2 ≤ 9999 ∧ Byt R := by
  obtain ⟨_, M, h1, h⟩ := bind_ok h
  obtain ⟨a, M2, h2, h⟩ := bind_ok h
  obtain ⟨b, M3, h3, h⟩ := bind_ok h
  obtain ⟨c, M4, h4, h⟩ := bind_ok h
  obtain ⟨rfl, rfl⟩ := ret_ok h
  rw [first_ok h1] at hB
  have hM := hB.tail
  obtain ⟨a1, a2⟩ := num_ok h2 hM
  rw [a1] at hM
  have hM2 := hM.right
  obtain ⟨b1, b2⟩ := num_ok h3 hM2
  rw [b1] at hM2
  have hM3 := hM2.right
  obtain ⟨c1, c2⟩ := num_ok h4 hM3
  rw [c1] at hM3
  exact ⟨a2, b2, c2, hM3.right⟩
def tailG (qss : List (List BRec)) (ps : List BRec) : Bg := numsG (qss.length : Int) (bagLs qss (numsG (ps.length : Int) (bagRs ps gNil)))
theorem bag_tail {ls : List (LT RT)} {ps : List RT} {V : List VT} (hl : ∀ c ∈ ls, SmL c) (hp : ∀ c ∈ ps, SmR c) (hv : VAl ((dList dLT ls).add (dList dRec ps)).V V) : ∃ qss qs, All OkL ls qss ∧ All OkR ps qs ∧ Put ((dList dLT ls).add (dList dRec ps)) V gNil = tailG qss qs := by
  obtain ⟨V1, V2, rfl, hv1, hv2⟩ := VAl.split (A := (dList dLT ls).V) (B := (dList dRec ps).V) hv
  obtain ⟨qss, h1, h2⟩ := put_logs ls hl V1 hv1
  obtain ⟨qs, h3, h4⟩ := put_recs ps hp V2 hv2
  exact ⟨qss, qs, h1, h3, by rw [put_add, h4, h2]; rfl⟩
def frontG (x : Nat × Nat × Nat) (g : Bg) : Bg := numsG (x.1 : Int) (numsG (x.2.1 : Int) (numsG (x.2.2 : Int) g))
theorem put_front (x : Nat × Nat × Nat) (d : Bg) (V : List VT) (g : Bg) : Put ((dFront x).add d) V g = frontG x (Put d V g) := by
  have := put_add (dFront x) d [] V g
  rw [List.nil_append] at this
  rw [this]
  rfl
theorem bag_whole {x : Nat × Nat × Nat} {y : ST × List (LT RT) × List RT} {L R : List Int} {V : List VT} (h : wholeS_ L = .ok (y, R)) (hL : Byt L) (hv : VAl ((dFront x).add (dWhole y)).V V) :
    ∃ (m : Nat) (ys : List VT) (qs : List BCel) (qss : List (List BRec)) (ps : List BRec), y.1 = mkS m ys ∧ m ≤ 1073741824 ∧ All OkC ys qs ∧ qs.length ≤ 64 ∧ All OkL y.2.1 qss ∧ qss.length ≤ 4 ∧ All OkR y.2.2 ps ∧ ps.length ≤ 256 ∧
      lft ((dFront x).add (dWhole y)).N ((dFront x).add (dWhole y)).K V 0 0 0 = frontG x (numsG (m : Int) (numsG (qs.length : Int) (bagCs qs (tailG qss ps)))) := by
  obtain ⟨s, M, h1, h⟩ := bind_ok h
  obtain ⟨l, M2, h2, h⟩ := bind_ok h
  obtain ⟨p, M3, h3, h⟩ := bind_ok h
  obtain ⟨rfl, rfl⟩ := ret_ok h
  have hM := hL
  rw [(state_ok h1 hL).1] at hM
  have hM1 := hM.right
  obtain ⟨b1, b2⟩ := logs_small h2 hM1
  have hM2 := hM1
  rw [(logs_ok h2 hM1).1] at hM2
  have hM3 := hM2.right
  obtain ⟨c1, c2⟩ := recs_small h3 hM3
  obtain ⟨V1, V2, rfl, hv1, hv2⟩ := VAl.split (A := (dSt s).V) (B := ((dList dLT l).add (dList dRec p)).V) hv
  obtain ⟨m, ys, qs, e1, e2, e3, e4, e5⟩ := bag_state h1 hL hv1
  obtain ⟨qss, ps, f1, f2, f3⟩ := bag_tail b2 c2 hv2
  refine ⟨m, ys, qs, qss, ps, e1, e4, e2, e3, f1, by rw [f1.1]; exact b1, f2, by rw [f2.1]; exact c1, ?_⟩
  rw [put_whole, put_front]
  show frontG x (Put ((dSt s).add ((dList dLT l).add (dList dRec p))) (V1 ++ V2) gNil) = _
  rw [put_add, f3, e5]
theorem bag_patch {x : Nat × Nat × Nat} {y : Nat × (Nat × List VT × List ByteArray) × List (LT RT) × List RT} {L R : List Int} {V : List VT} (h : patchS_ L = .ok (y, R)) (hL : Byt L) (hv : VAl ((dFront x).add (dPatch y)).V V) :
    ∃ (qs : List BCel) (qss : List (List BRec)) (ps : List BRec), y.1 < 4294967296 ∧ y.2.1.1 ≤ 1073741824 ∧ All OkC y.2.1.2.1 qs ∧ qs.length ≤ 64 ∧ y.2.1.2.2.length ≤ 64 ∧ (∀ k ∈ y.2.1.2.2, k.size ≤ 12) ∧ All OkL y.2.2.1 qss ∧ qss.length ≤ 4 ∧ All OkR y.2.2.2 ps ∧ ps.length ≤ 256 ∧
      lft ((dFront x).add (dPatch y)).N ((dFront x).add (dPatch y)).K V 0 0 0 = frontG x (numsG (y.1 : Int) (numsG (y.2.1.1 : Int) (numsG (qs.length : Int) (bagCs qs (numsG (y.2.1.2.2.length : Int) (bagKs y.2.1.2.2 (tailG qss ps))))))) := by
  obtain ⟨u, M, h1, h⟩ := bind_ok h
  obtain ⟨d, M2, h2, h⟩ := bind_ok h
  obtain ⟨l, M3, h3, h⟩ := bind_ok h
  obtain ⟨p, M4, h4, h⟩ := bind_ok h
  obtain ⟨rfl, rfl⟩ := ret_ok h
  obtain ⟨n, D1, g1, h2⟩ := bind_ok h2
  obtain ⟨cs, D2, g2, h2⟩ := bind_ok h2
  obtain ⟨ks, D3, g3, h2⟩ := bind_ok h2
  obtain ⟨rfl, rfl⟩ := ret_ok h2
  obtain ⟨a1, a2⟩ := word_ok h1 hL
  rw [a1] at hL
  have hM := hL.right
  obtain ⟨b1, b2⟩ := num_ok g1 hM
  rw [b1] at hM
  have hD1 := hM.right
  obtain ⟨c1, c2⟩ := cells_small g2 hD1
  have hc := (cells_ok g2 hD1).1
  rw [hc] at hD1
  have hD2 := hD1.right
  obtain ⟨d1, d2, d3⟩ := gone_ok g3 hD2
  rw [d1] at hD2
  have hD3 := hD2.right
  obtain ⟨e1, e2⟩ := logs_small h3 hD3
  have he := (logs_ok h3 hD3).1
  rw [he] at hD3
  have hM3 := hD3.right
  obtain ⟨f1, f2⟩ := recs_small h4 hM3
  have hv' : VAl ((dList dCel cs).V ++ ((dList (fun k => ⟨[], [k], []⟩) ks).V ++ ((dList dLT l).add (dList dRec p)).V)) V := by
    have e : ((dFront x).add (dPatch (u, (n, cs, ks), l, p))).V = (dList dCel cs).V ++ ((dList (fun k => ⟨[], [k], []⟩) ks).V ++ ((dList dLT l).add (dList dRec p)).V) := by
      simp [dFront, dPatch, dDl, dNum, Bg.add]
    rw [e] at hv
    exact hv
  obtain ⟨V1, V2, rfl, hv1, hv2⟩ := VAl.split hv'
  obtain ⟨V3, V4, rfl, hv3, hv4⟩ := VAl.split hv2
  obtain ⟨qs, i1, i2⟩ := put_cels cs c2 V1 hv1
  obtain ⟨kk, j1, j2⟩ := put_keys ks V3 hv3
  obtain ⟨qss, ps, k1, k2, k3⟩ := bag_tail e2 f2 hv4
  have hkk : kk = ks := List.ext_getElem j1.1 fun t t1 t2 => j1.2 t _ _ (List.getElem?_eq_getElem t2) (List.getElem?_eq_getElem t1)
  subst hkk
  refine ⟨qs, qss, ps, a2, b2, i1, by rw [i1.1]; exact c1, d2, fun k hk => ?_, k1, by rw [k1.1]; exact e1, k2, by rw [k2.1]; exact f1, ?_⟩
  · obtain ⟨t, ht, rfl⟩ := List.getElem_of_mem hk
    have := (d3 t ht).1
    simpa [List.getD_eq_getElem?_getD, List.getElem?_eq_getElem ht] using this
  · rw [put_whole, put_front]
    have e : Put (dPatch (u, (n, cs, kk), l, p)) (V1 ++ (V3 ++ V4)) gNil = Put (dNum u) [] (Put (dNum n) [] (Put (dList dCel cs) V1 (Put (dList (fun k => ⟨[], [k], []⟩) kk) V3 (Put ((dList dLT l).add (dList dRec p)) V4 gNil)))) := by
      simp [Put, dPatch, dDl, Bg.add, dNum]
    rw [e, k3, j2, i2]
    rfl
theorem But.newer {X : Nat → Prop} {w W W' : World} {q : Nat} (h : But X w W) (hq : w.heap.size ≤ q) (hb : But (fun y => y = q) W W') : But X w W' :=
  ⟨hb.os.trans h.os, hb.tape.trans h.tape, hb.output.trans h.output, Nat.le_trans h.size hb.size, fun x hx hn => (hb.block x (Nat.lt_of_lt_of_le hx h.size) (by omega)).trans (h.block x hx hn)⟩
theorem GW.newer {rb : Nat} {w1 W W' : World} {bv : Value} {pa : Int} {a b c : Value} {i j k q : Nat} (h : GW rb w1 W bv pa a b c i j k) (hq : w1.heap.size ≤ q) (hr : q ≠ rb) (hb : But (fun y => y = q) W W') : GW rb w1 W' bv pa a b c i j k :=
  ⟨h.box.but hb (fun e => hr e.symm), h.but.newer hq hb⟩
def Two (rb q : Nat) : Nat → Prop := fun x => x = rb ∨ x = q
theorem But.l {rb q : Nat} {W W' : World} (h : But (fun x => x = rb) W W') : But (Two rb q) W W' := h.mono fun _ _ h => .inl h
theorem But.r {rb q : Nat} {W W' : World} (h : But (fun x => x = q) W W') : But (Two rb q) W W' := h.mono fun _ _ h => .inr h
theorem LT.In.two {α : Type} {E : El α} {W W' : World} {rb q : Nat} {l : LT α} (h : LT.In E W (fun b => rb < b ∧ b ≠ q) l) (hb : But (Two rb q) W W') : LT.In E W' (fun b => rb < b ∧ b ≠ q) l :=
  h.but hb fun b hb1 _ hx => by
    rcases hx with e | e
    · have := hb1.1; omega
    · exact hb1.2 e
theorem bagLs_cons {N : List Int} {K : List ByteArray} {V : List VT} {i j k : Nat} {q : List BRec} {qs : List (List BRec)} {g : Bg} (h : lft N K V i j k = bagLs (q :: qs) g) : lft N K V i j k = numsG (q.length : Int) (bagRs q (bagLs qs g)) := h
theorem bagKs_cons {N : List Int} {K : List ByteArray} {V : List VT} {i j k : Nat} {x : ByteArray} {xs : List ByteArray} {g : Bg} (h : lft N K V i j k = bagKs (x :: xs) g) : K[j]? = some x ∧ lft N K V i (j + 1) k = bagKs xs g := by
  simp only [lft, bagKs, List.cons_append, Bg.mk.injEq] at h
  obtain ⟨h1, h2, h3⟩ := h
  obtain ⟨b1, b2⟩ := drop_cons h2
  exact ⟨b1, by simp only [lft, bagKs, h1, b2, h3]⟩
end Go.Proofs.Ytikfpoabaaiegaa

namespace Go.Proofs.Ytikfpoabaaiegaa
open Go.RowKit
set_option maxRecDepth 8000
theorem GMv.lt {w0 : World} {rb : Nat} {w : World} {bv : Value} {pa ea : Int} {g : Bg} (h : GMv w0 rb w bv pa ea g) : rb < w.heap.size := by
  obtain ⟨a, b, c, V', h, _⟩ := h
  exact h.box.lt
theorem two_round {rb q : Nat} {wA wr W1 w8 w9 : World} {o : Obj} {row : Option Nat} (h : But (Two rb q) wA wr) (h1 : But (fun x => x = rb) wr W1) (hg : (W1.alloc o).grownBy w8 row) (hr : ∀ k, row = some k → wA.heap.size ≤ k) (hq : But (fun x => x = q) w8 w9) : But (Two rb q) wA w9 :=
  (((h.trans h1.l).alloc o).grown hg (fun k e hk => absurd hk (by have := hr k e; omega))).trans hq.r
theorem near_ge {W : World} {v v3 : Value} {n : Nat} (h : ∀ o, v.ownBlock = some o → n ≤ o) (hn : Near W v v3) (hs : n ≤ W.heap.size) : ∀ o, v3.ownBlock = some o → n ≤ o := fun o ho => by
  rcases hn with e | e
  · exact h o (e ▸ ho)
  · have := e o ho
    omega
def LIs (q : List BRec) (l : LT RT) : Prop := l.n = q.length ∧ ∀ s r, q[s]? = some r → BRec.Is r (l.item s)
theorem okL_alike {y u : LT RT} {q : List BRec} (h : OkL y q) (hu : LIs q u) : RecsAlike y u := by
  have h1 : Isl RT.Alike u ((List.range y.n).map y.item) := h.2.isl (fun _ _ t h1 h2 => h1.2 t h2) hu.1 hu.2
  refine ⟨by rw [h1.1]; simp, fun j hj => h1.2 j _ (by simp [hj])⟩
theorem okL_ok {y : LT RT} {q : List BRec} (h : OkL y q) : q.length ≤ 256 ∧ ∀ r ∈ q, BRec.Ok r := ⟨h.1, h.2.left fun _ _ h => h.1⟩
theorem TkL.list {α β : Type} {E : El α} {Is : β → α → Prop} {bag : List β → Bg → Bg} {rb : Nat} {w1 w wr : World} {bv : Value} {pa : Int} {a b c : Value} {N : List Int} {K : List ByteArray} {V : List VT} {rs : List β} {g : Bg} {v : Value} {t : Nat} {it : Nat → α} {i j k q : Nat}
    (h : TkL (E.wth (fun b => b ≠ q)) Is bag rb w1 w wr bv pa a b c N K V rs g v t it i j k) (ho : ∀ o, v.ownBlock = some o → q < o) (hl : t ≤ 140737488355328) : ∃ l : LT α, v = .slice l.p l.n l.c ∧ l.n = t ∧ l.item = it ∧ LT.In E wr (fun b => rb < b ∧ b ≠ q) l := by
  obtain ⟨p, cc, hv, hin⟩ := h.own.in_ hl
  refine ⟨⟨p, t, cc, it⟩, hv, rfl, rfl, fun hn => ?_, fun s hs => E.mono (hin.each s hs) fun b hb _ => ⟨hb.1, hb.2⟩, hin.nc, hin.nn, hin.cc, hin.nil⟩
  obtain ⟨b, o, e, hS, hl, ha⟩ := hin.at_ hn
  refine ⟨b, o, e, ⟨hS, fun e2 => ?_⟩, hl, ha⟩
  have h9 := ho b (by rw [hv]; simp only at e; rw [e]; rfl)
  omega
theorem bindS_at {α β : Type} {s : RS α} {f : α → RS β} {L R : List Int} {y : α} (h : s L = .ok (y, R)) : bindS s f L = f y R := by unfold bindS; rw [h]
theorem bindS_no {α β : Type} {s : RS α} {f : α → RS β} {L : List Int} {e : Nat} (h : s L = .error e) : bindS s f L = .error e := by unfold bindS; rw [h]
theorem walk_front4 : walkR 4 (txL ⟨#[83, 105, 116, 105]⟩) ⟨[], [], []⟩ = bindS frontS fun x => retS (dFront x) := (walk_front 0 []).trans (by congr 1)
theorem walk_whole12 : walkR 12 (txL ⟨#[83, 105, 116, 105, 110, 60, 99, 107, 91, 98, 118, 93, 62, 91, 112, 91, 108, 107, 118, 91, 97, 104, 93, 93, 93, 91, 108, 107, 118, 91, 97, 104, 93, 93]⟩) ⟨[], [], []⟩ = (bindS frontS fun x => bindS wholeS_ fun y => retS ((dFront x).add (dWhole y))) := (walk_front 8 _).trans (by congr 1; funext x; exact walk_whole 0 _)
theorem walk_patch14 : walkR 14 (txL ⟨#[83, 105, 116, 105, 119, 110, 60, 99, 107, 91, 98, 118, 93, 62, 60, 99, 107, 62, 91, 112, 91, 108, 107, 118, 91, 97, 104, 93, 93, 93, 91, 108, 107, 118, 91, 97, 104, 93, 93]⟩) ⟨[], [], []⟩ = (bindS frontS fun x => bindS patchS_ fun y => retS ((dFront x).add (dPatch y))) := (walk_front 10 _).trans (by congr 1; funext x; exact walk_patch 0 _)
theorem seg_whole {ii tt bb : Nat} {B R : List Int} (h : frontS B = .ok ((ii, tt, bb), R)) (hb : bb = 0) : segS B = (bindS wholeS_ fun y => retS ⟨ii, tt, 0, 0, y.1, (0, [], []), y.2.1, y.2.2⟩) R := by
  rw [seg_front, bindS_at h]
  simp only
  rw [if_pos hb]
theorem seg_patch {ii tt bb : Nat} {B R : List Int} (h : frontS B = .ok ((ii, tt, bb), R)) (hb : bb ≠ 0) : segS B = (bindS patchS_ fun y => retS ⟨ii, tt, bb, y.1, mkS 0 [], y.2.1, y.2.2.1, y.2.2.2⟩) R := by
  rw [seg_front, bindS_at h]
  simp only
  rw [if_neg hb]
end Go.Proofs.Ytikfpoabaaiegaa
