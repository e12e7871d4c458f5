import Derived.Test.YtpldokahoamdpaaPack23
namespace Go.Proofs.Ytpldokahoamdpaa
open Go.RowKit Go.Conc
set_option maxRecDepth 8000
/-- a list of these items -/
def LT.ofL {α : Type} (d : α) (p : Option Addr) (c : Nat) (L : List α) : LT α := ⟨p, L.length, c, fun j => L[j]?.getD d⟩
theorem LT.ofL_toL {α : Type} (d : α) (p : Option Addr) (c : Nat) (L : List α) : (LT.ofL d p c L).toL = L := by
  refine List.ext_getElem? fun j => ?_
  rcases Nat.lt_or_ge j L.length with h | h
  · rw [LT.toL_get _ (show j < (LT.ofL d p c L).n from h)]
    show some (L[j]?.getD d) = _
    rw [List.getElem?_eq_getElem h]; rfl
  · rw [List.getElem?_eq_none h, List.getElem?_eq_none (by rw [LT.toL_len]; exact h)]
theorem rowsE_toL {α : Type} (E : El α) (l : LT α) : rowsE E l = l.toL.flatMap E.cells := by
  unfold rowsE LT.toL
  rw [List.flatMap_map]
theorem flat_take {α β : Type} (f : α → List β) (s : Nat) (hf : ∀ x, (f x).length = s) : ∀ (L : List α) (i : Nat), (L.flatMap f).take (i * s) = (L.take i).flatMap f
  | [], i => by simp
  | x :: L, 0 => by simp
  | x :: L, i + 1 => by
    rw [List.flatMap_cons, List.take_succ_cons, List.flatMap_cons, List.take_append, hf, List.take_of_length_le (by rw [hf, Nat.add_mul]; omega), ← flat_take f s hf L i]
    congr 2
    rw [Nat.add_mul]; omega
theorem flat_drop {α β : Type} (f : α → List β) (s : Nat) (hf : ∀ x, (f x).length = s) : ∀ (L : List α) (i : Nat), (L.flatMap f).drop (i * s) = (L.drop i).flatMap f
  | [], i => by simp
  | x :: L, 0 => by simp
  | x :: L, i + 1 => by
    rw [List.flatMap_cons, List.drop_succ_cons, List.drop_append, hf, List.drop_eq_nil_of_le (by rw [hf, Nat.add_mul]; omega), ← flat_drop f s hf L i]
    simp only [List.nil_append]
    congr 1
    rw [Nat.add_mul]; omega
theorem flat_len {α β : Type} (f : α → List β) (s : Nat) (hf : ∀ x, (f x).length = s) : ∀ (L : List α), (L.flatMap f).length = L.length * s
  | [] => by simp
  | x :: L => by rw [List.flatMap_cons, List.length_append, hf, flat_len f s hf L, List.length_cons, Nat.add_mul]; omega
set_option maxRecDepth 60000 in
set_option maxHeartbeats 4000000 in
/-- without -/
theorem rwithout (w : World) (Z : Nat → Prop) (b : Nat) (R : Rf) (h : RfI w Z b R) (i : Nat) (hi : i < R.l.n) : Calls Try.prog 70 #[.pointer (some ⟨b, 0, none⟩), .int .i64 (i : Int)] w fun e w' => ∃ p c, e = .returned (.slice p (R.l.n - 1) c) ∧ w'.ownsRow w.heap.size 35 7 (.slice p (R.l.n - 1) c) (R.l.n - 1) ((R.l.toL.take i ++ R.l.toL.drop (i + 1)).flatMap IT.cells) ∧ Below w.heap.size w w' := by
  obtain ⟨i0, Kd⟩ := kindIt
  have HKd := hid Kd
  have c2 := h.c2
  have bl := h.box.lt
  have hlen := h.len
  have hce := @World.ownsRow.cells _ _ _ _ _ _ _ h.own
  obtain ⟨gb, o, hp, _, hgl, hat⟩ := h.in_.at_ (by omega)
  have HI := hid h
  clear h Kd
  rw [hp] at c2
  have hnc := HI.out.in_.nc
  have hcc := HI.out.in_.cc
  have hic : (i : Int) ≤ (R.l.c : Int) := by omega
  have hi1 : ((i : Int) + 1) ≤ (R.l.n : Int) := by omega
  have hi2 : (R.l.n : Int) ≤ (R.l.c : Int) := by omega
  have hL : (R.l.toL.flatMap IT.cells).length = R.l.n * 7 := by rw [flat_len IT.cells 7 (fun _ => rfl), LT.toL_len]
  have hown : (Value.slice R.l.p R.l.n R.l.c).ownBlock = some gb := by rw [hp]; rfl
  have ho0 : o = 0 := by
    obtain ⟨_, ⟨hv, h0⟩ | ⟨g2, cap, cur, hv, _⟩⟩ := id HI.out.own
    · injection hv with e1; rw [hp] at e1; cases e1
    · injection hv with e1; rw [hp] at e1; injection e1 with e2; injection e2
  subst ho0
  have hce2 : ∀ (j : Nat) (u : Value), (R.l.toL.flatMap IT.cells)[j]? = some u → w.cell? ⟨gb, j, none⟩ = some u := fun j u hu => by
    have := hce hown j u (by rw [rowsE_toL]; exact hu)
    rwa [Go.WideShapes.add_plain, Nat.zero_add] at this
  have HCe := hid hce2
  have HL := hid hL
  clear hce hce2 hL hat hown
  go_enter Try.func70, Try.ntmps70
  go_wp2_with (at_builtin; refine wpList_app rfl (.tmp 6) (.tmp 12) 22 35 i0 _ 7 104 HKd.out rfl w.heap.size (.slice none 0 0) 0 [] rfl (World.ownsRow_nil _ _ _ _) ⟨gb, 0, none⟩ i R.l.c ((R.l.toL.take i).flatMap IT.cells) rfl ?_ ?_ ?_ ?_ ?_ ?_ ?_)
  · rw [flat_len IT.cells 7 (fun _ => rfl), List.length_take, LT.toL_len]; congr 1; omega
  · intro j u hu
    rw [Go.WideShapes.add_plain, Nat.zero_add]
    rw [← flat_take IT.cells 7 (fun _ => rfl)] at hu
    refine HCe.out j u ?_
    rw [List.getElem?_take] at hu
    split at hu
    · exact hu
    · cases hu
  · intro u hu
    obtain ⟨x, _, hx⟩ := List.mem_flatMap.1 hu
    exact elItem.one x u hx
  · omega
  · omega
  · exact Nat.le_refl _
  · intro v3 w3 ho3 hg3 hn3
    have hbt : Below w.heap.size w w3 := (Below.refl _ _).grown hg3 (Nat.le_refl _) fun k hk => by cases hk
    obtain ⟨p3, c3, rfl⟩ := ownsRow_slice ho3
    have c2' : w3.cell? ⟨b, 2, none⟩ = some (.slice (some ⟨gb, 0, none⟩) R.l.n R.l.c) := (World.cell?_of_block (a := ⟨b, 2, none⟩) (hbt.block b bl)).trans c2
    have bl' : b < w3.heap.size := Nat.lt_of_lt_of_le bl hbt.size
    have HO3 := hid ho3
    have HB3 := hid hbt
    clear ho3 hg3 hn3 hbt c2
    by_cases hc : R.l.c = i + 1
    · go_wp2_with (at_builtin; refine wpList_app rfl (.tmp 14) (.tmp 21) 22 35 i0 _ 7 104 HKd.out rfl w.heap.size (.slice p3 i c3) i ((R.l.toL.take i).flatMap IT.cells) rfl HO3.out ⟨gb, 0, none⟩ (R.l.n - (i + 1)) 0 ((R.l.toL.drop (i + 1)).flatMap IT.cells) rfl ?_ ?_ ?_ ?_ ?_ ?_ ?_)
      · rw [flat_len IT.cells 7 (fun _ => rfl), List.length_drop, LT.toL_len]
      · intro j u hu
        have hlast : R.l.toL.drop (i + 1) = [] := List.drop_eq_nil_of_le (by rw [LT.toL_len]; omega)
        rw [hlast] at hu
        simp at hu
      · intro u hu
        obtain ⟨x, _, hx⟩ := List.mem_flatMap.1 hu
        exact elItem.one x u hx
      · omega
      · omega
      · exact HB3.out.size
      · intro v4 w4 ho4 hg4 hn4
        obtain ⟨p4, c4, rfl⟩ := ownsRow_slice ho4
        have hen : i + (R.l.n - (i + 1)) = R.l.n - 1 := by omega
        rw [hen] at ho4 ⊢
        rw [← List.flatMap_append] at ho4
        have HO4 := hid ho4
        have HB4 := hid (HB3.out.grown hg4 HB3.out.size fun k hk => (HO3.out.lt k hk).1)
        clear ho4 hg4 hn4 hen
        go_wp2
        refine bodyPost_ret (v := .slice p4 (R.l.n - 1) c4) (by simp [results, Try.results70, go_sem]) rfl ⟨p4, c4, rfl, HO4.out, HB4.out⟩
    · go_wp2_with (at_builtin; refine wpList_app rfl (.tmp 14) (.tmp 21) 22 35 i0 _ 7 104 HKd.out rfl w.heap.size (.slice p3 i c3) i ((R.l.toL.take i).flatMap IT.cells) rfl HO3.out ⟨gb, (i + 1) * 7, none⟩ (R.l.n - (i + 1)) (R.l.c - (i + 1)) ((R.l.toL.drop (i + 1)).flatMap IT.cells) rfl ?_ ?_ ?_ ?_ ?_ ?_ ?_)
      · rw [flat_len IT.cells 7 (fun _ => rfl), List.length_drop, LT.toL_len]
      · intro j u hu
        rw [Go.WideShapes.add_plain]
        rw [← flat_drop IT.cells 7 (fun _ => rfl), List.getElem?_drop] at hu
        have h5 := HCe.out _ u hu
        exact (World.cell?_of_block (a := ⟨gb, (i + 1) * 7 + j, none⟩) (HB3.out.block gb hgl)).trans h5
      · intro u hu
        obtain ⟨x, _, hx⟩ := List.mem_flatMap.1 hu
        exact elItem.one x u hx
      · omega
      · omega
      · exact HB3.out.size
      · intro v4 w4 ho4 hg4 hn4
        obtain ⟨p4, c4, rfl⟩ := ownsRow_slice ho4
        have hen : i + (R.l.n - (i + 1)) = R.l.n - 1 := by omega
        rw [hen] at ho4 ⊢
        rw [← List.flatMap_append] at ho4
        have HO4 := hid ho4
        have HB4 := hid (HB3.out.grown hg4 HB3.out.size fun k hk => (HO3.out.lt k hk).1)
        clear ho4 hg4 hn4 hen
        go_wp2
        refine bodyPost_ret (v := .slice p4 (R.l.n - 1) c4) (by simp [results, Try.results70, go_sem]) rfl ⟨p4, c4, rfl, HO4.out, HB4.out⟩
end Go.Proofs.Ytpldokahoamdpaa

namespace Go.Proofs.Ytpldokahoamdpaa
open Go.RowKit Go.Conc
set_option maxRecDepth 8000
/-- some of the items are laid into the reference's lane as a row of its own -/
theorem RfI.part {w w1 : World} {Z : Nat → Prop} {b : Nat} {R : Rf} (h : RfI w Z b R) (hZ : ∀ k, Z k → k < w.heap.size) (hB : Below w.heap.size w w1) (L : List IT) (hsub : ∀ x ∈ L, x ∈ R.l.toL) (hlen : L.length ≤ R.l.n) (n : Nat) (hn : L.length = n) (p : Option Addr) (c : Nat)
    (ho : w1.ownsRow w.heap.size 35 7 (.slice p n c) n (L.flatMap IT.cells)) : RSet w Z b R (w1.setCell ⟨b, 2, none⟩ (.slice p n c)) ⟨R.room, R.shut, LT.ofL ⟨0, rz⟩ p c L⟩ := by
  subst hn
  have hl := h.len
  refine RfI.set h hZ (But.ofBelow hB) (LT.ofL ⟨0, rz⟩ p c L) ?_ (fun g hg => .inr (ho.lt g hg).1) (by show L.length ≤ 30000; omega) (fun e => by show L.length = 0; have := h.sh e; omega) (fun j hj => ?_)
  · rw [rowsE_toL, LT.ofL_toL]
    exact ownsRow_mono ho (Nat.zero_le _)
  · have hj2 : j < L.length := hj
    have hm : (LT.ofL ⟨0, rz⟩ p c L).item j ∈ R.l.toL := by
      show L[j]?.getD _ ∈ _
      rw [List.getElem?_eq_getElem hj2]
      exact hsub _ (List.getElem_mem hj2)
    obtain ⟨i, hi⟩ := List.getElem?_of_mem hm
    obtain ⟨hi2, hi3⟩ := LT.toL_some _ hi
    have h7 := h.it i hi2
    rw [hi3] at h7
    refine ⟨((h7.1.mono (S' := fun k => (¬ R.C b k ∧ ¬ Z k) ∧ k < w.heap.size) fun k hk hl => ⟨hk, hl⟩).kept hB.size fun k hk hl => hB.block k hl).mono fun k hk _ => ⟨fun e => hk.1.1 (.inl e), fun e => ?_, hk.1.2⟩, h7.2⟩
    have := (ho.lt k e).1
    omega
theorem RSet.fresh {w w1 w2 : World} {Z : Nat → Prop} {b t : Nat} {R R' : Rf} (h : RSet w (fun k => Z k ∨ k = t) b R w1 R') (ht : w.heap.size ≤ t) (hb : But (fun k => k = t) w1 w2) : RSet w Z b R w2 R' :=
  ⟨(h.ln.but hb (fun k _ e => .inr e)).z (fun k _ e => .inl e), ⟨hb.os.trans h.but.os, hb.tape.trans h.but.tape, hb.output.trans h.but.output, Nat.le_trans h.but.size hb.size, fun k hk hn => (hb.block k (Nat.lt_of_lt_of_le hk h.but.size) (by omega)).trans (h.but.block k hk hn)⟩, h.c, h.room⟩
set_option maxRecDepth 60000 in
set_option maxHeartbeats 4000000 in
theorem rtake_none (w : World) (Z : Nat → Prop) (b : Nat) (R : Rf) (h : RfI w Z b R) (hn : R.l.n = 0) : Calls Try.prog 47 #[.pointer (some ⟨b, 0, none⟩)] w fun e w' => e = .returned (.tuple #[zI, .bool false]) ∧ Below w.heap.size w w' := by
  obtain ⟨W, hW⟩ : ∃ W, W = w.alloc (.cells #[.int .i64 0, .string ⟨#[]⟩, .int .i64 0, .int .i64 0, .string ⟨#[]⟩, .slice none 0 0, .slice none 0 0] 35) := ⟨_, rfl⟩
  have hB : Below w.heap.size w W := by rw [hW]; exact (Below.refl _ _).alloc (Nat.le_refl _) _
  have hX : Box W w.heap.size #[.int .i64 0, .string ⟨#[]⟩, .int .i64 0, .int .i64 0, .string ⟨#[]⟩, .slice none 0 0, .slice none 0 0] 35 := by rw [hW]; exact Box.new _ _ _
  have hI := h.below hB
  have c2 := hI.c2
  have bl := hI.box.lt
  rw [hn] at c2
  have z0 := hX.cell 0
  have z1 := hX.cell 1
  have z2 := hX.cell 2
  have z3 := hX.cell 3
  have z4 := hX.cell 4
  have z5 := hX.cell 5
  have z6 := hX.cell 6
  simp at z0 z1 z2 z3 z4 z5 z6
  have f0 := hX.frozen 0
  have f1 := hX.frozen 1
  have f2 := hX.frozen 2
  have f3 := hX.frozen 3
  have f4 := hX.frozen 4
  have f5 := hX.frozen 5
  have f6 := hX.frozen 6
  have zl := hX.lt
  have HB := hid hB
  have HW := hid hW
  clear h hI hB hX hW hn
  go_enter Try.func47, Try.ntmps47
  go_upto_region 1 with fail
  rw [← HW.out]
  go_wp2
  have hp := put7_but W w.heap.size ⟨0, rz⟩
  refine bodyPost_ret (v := .tuple #[zI, .bool false]) (by simp [results, Try.results47, go_sem, z0, z1, z2, z3, z4, z5, z6, zI]) rfl ⟨rfl, ?_⟩
  change Below w.heap.size w (put7 W w.heap.size ⟨0, rz⟩)
  exact HB.out.trans (hp.below HB.out.size (fun k hk e => by omega))
set_option maxRecDepth 60000 in
set_option maxHeartbeats 4000000 in
theorem rpeek_none (w : World) (Z : Nat → Prop) (b : Nat) (R : Rf) (h : RfI w Z b R) (hn : R.l.n = 0) : Calls Try.prog 49 #[.pointer (some ⟨b, 0, none⟩)] w fun e w' => e = .returned (.tuple #[zI, .bool false]) ∧ Below w.heap.size w w' := by
  obtain ⟨W, hW⟩ : ∃ W, W = w.alloc (.cells #[.int .i64 0, .string ⟨#[]⟩, .int .i64 0, .int .i64 0, .string ⟨#[]⟩, .slice none 0 0, .slice none 0 0] 35) := ⟨_, rfl⟩
  have hB : Below w.heap.size w W := by rw [hW]; exact (Below.refl _ _).alloc (Nat.le_refl _) _
  have hX : Box W w.heap.size #[.int .i64 0, .string ⟨#[]⟩, .int .i64 0, .int .i64 0, .string ⟨#[]⟩, .slice none 0 0, .slice none 0 0] 35 := by rw [hW]; exact Box.new _ _ _
  have hI := h.below hB
  have c2 := hI.c2
  have bl := hI.box.lt
  rw [hn] at c2
  have z0 := hX.cell 0
  have z1 := hX.cell 1
  have z2 := hX.cell 2
  have z3 := hX.cell 3
  have z4 := hX.cell 4
  have z5 := hX.cell 5
  have z6 := hX.cell 6
  simp at z0 z1 z2 z3 z4 z5 z6
  have f0 := hX.frozen 0
  have f1 := hX.frozen 1
  have f2 := hX.frozen 2
  have f3 := hX.frozen 3
  have f4 := hX.frozen 4
  have f5 := hX.frozen 5
  have f6 := hX.frozen 6
  have zl := hX.lt
  have HB := hid hB
  have HW := hid hW
  clear h hI hB hX hW hn
  go_enter Try.func49, Try.ntmps49
  go_upto_region 1 with fail
  rw [← HW.out]
  go_wp2
  have hp := put7_but W w.heap.size ⟨0, rz⟩
  refine bodyPost_ret (v := .tuple #[zI, .bool false]) (by simp [results, Try.results49, go_sem, z0, z1, z2, z3, z4, z5, z6, zI]) rfl ⟨rfl, ?_⟩
  change Below w.heap.size w (put7 W w.heap.size ⟨0, rz⟩)
  exact HB.out.trans (hp.below HB.out.size (fun k hk e => by omega))
def RTkQ (w : World) (Z : Nat → Prop) (b : Nat) (R : Rf) (L : List IT) (x : IT) (w' : World) : Prop := ∃ R', R'.l.toL = L ∧ R'.shut = R.shut ∧ RSet w Z b R w' R' ∧ IT.In w' (fun k => ¬ R'.C b k ∧ ¬ Z k) x
set_option maxRecDepth 60000 in
set_option maxHeartbeats 4000000 in
theorem rtake_some (w : World) (Z : Nat → Prop) (b : Nat) (R : Rf) (h : RfI w Z b R) (hZ : ∀ k, Z k → k < w.heap.size) (hn : 0 < R.l.n) : Calls Try.prog 47 #[.pointer (some ⟨b, 0, none⟩)] w fun e w' => e = .returned (.tuple #[(R.l.item 0).val, .bool true]) ∧ RTkQ w Z b R (R.l.toL.drop 1) (R.l.item 0) w' := by
  obtain ⟨W, hW⟩ : ∃ W, W = w.alloc (.cells #[.int .i64 0, .string ⟨#[]⟩, .int .i64 0, .int .i64 0, .string ⟨#[]⟩, .slice none 0 0, .slice none 0 0] 35) := ⟨_, rfl⟩
  have hB : Below w.heap.size w W := by rw [hW]; exact (Below.refl _ _).alloc (Nat.le_refl _) _
  have hX : Box W w.heap.size #[.int .i64 0, .string ⟨#[]⟩, .int .i64 0, .int .i64 0, .string ⟨#[]⟩, .slice none 0 0, .slice none 0 0] 35 := by rw [hW]; exact Box.new _ _ _
  have hWs : W.heap.size = w.heap.size + 1 := by rw [hW]; simp
  have hI := h.below hB
  have c2 := hI.c2
  have bl := hI.box.lt
  obtain ⟨gb, o, hp, _, hgl, hat⟩ := h.in_.at_ (by omega)
  rw [hp] at c2
  obtain ⟨x, hx⟩ : ∃ x, x = R.l.item 0 := ⟨_, rfl⟩
  have hcell : ∀ r u, (elItem.cells x)[r]? = some u → W.cell? ⟨gb, o + r, none⟩ = some u := fun r u hu => (World.cell?_of_block (a := ⟨gb, o + r, none⟩) (hB.block gb hgl)).trans (by have := hat 0 (by omega) r u (by rw [← hx]; exact hu); simpa using this)
  have e0 : W.cell? ⟨gb, o, none⟩ = some (.int .i64 x.mark) := hcell 0 _ rfl
  have e1 := hcell 1 _ rfl
  have e2 := hcell 2 _ rfl
  have e3 := hcell 3 _ rfl
  have e4 := hcell 4 _ rfl
  have e5 := hcell 5 _ rfl
  have e6 := hcell 6 _ rfl
  have hpos : ((R.l.n : Int) == 0) = false := by simp; omega
  have hpos2 : (0 : Int) < (R.l.n : Int) := by omega
  have hit := h.it 0 hn
  rw [← hx] at hit
  have HIt := hid hit
  have HB := hid hB
  have HW := hid hW
  have HX := hid hX
  have HWs := hid hWs
  have HXx := hid hx
  have H0 := hid h
  have HZ := hid hZ
  have hhl := h.box.lt
  clear h hB hX hW hI hat hcell hit hx hWs hZ
  go_enter Try.func47, Try.ntmps47
  go_upto_region 1 with fail
  rw [← HW.out]
  go_upto_region 4 with fail
  obtain ⟨W2, hW2⟩ : ∃ V, V = W.alloc (.cells #[.int .i64 x.mark, .string x.r.key, .int .i64 x.r.v.kind, .int .i64 x.r.v.int, .string x.r.v.text, .slice x.r.v.p x.r.v.n x.r.v.c, .slice x.r.p x.r.n x.r.c] 35) := ⟨_, rfl⟩
  rw [← hW2]
  have hB2 : Below W.heap.size W W2 := by rw [hW2]; exact (Below.refl _ _).alloc (Nat.le_refl _) _
  have hY : Box W2 W.heap.size #[.int .i64 x.mark, .string x.r.key, .int .i64 x.r.v.kind, .int .i64 x.r.v.int, .string x.r.v.text, .slice x.r.v.p x.r.v.n x.r.v.c, .slice x.r.p x.r.n x.r.c] 35 := by rw [hW2]; exact Box.new _ _ _
  have hB02 : Below w.heap.size w W2 := HB.out.trans (hB2.mono HB.out.size)
  have hIz : RfI W2 (fun k => Z k ∨ k = w.heap.size) b R := (H0.out.z (fun k hk hz => hz.elim id fun e => by omega)).below hB02
  have hW2s : W2.heap.size = w.heap.size + 2 := by rw [hW2]; simp [HWs.out]
  have HWo := hid (rwithout W2 _ b R hIz 0 hn)
  have HIz := hid hIz
  have HX2 := hid (HX.out.below hB2)
  have HY := hid hY
  have HB02 := hid hB02
  have HWs2 := hid hW2s
  clear e0 e1 e2 e3 e4 e5 e6 c2 bl hB2 hY hB02 hIz hW2 hW2s
  go_wp2_with fail
  refine HWo.out.mono ?_
  rintro e w3 ⟨p3, c3, rfl, ho3, hB3⟩
  have hI3 := HIz.out.below hB3
  have c2 := hI3.c2
  have g2 := hI3.box.frozen 2
  have bl := hI3.box.lt
  have hs3 := hB3.size
  have hSt := RfI.part HIz.out (fun k hk => by
    rcases hk with e | e
    · have := HZ.out k e; have := HWs2.out; omega
    · have := HWs2.out; omega) hB3 (R.l.toL.take 0 ++ R.l.toL.drop (0 + 1)) (fun y hy => by simp at hy; exact List.mem_of_mem_tail hy) (by simp [LT.toL_len]) (R.l.n - 1) (by simp [LT.toL_len]) p3 c3 ho3
  obtain ⟨w4, hw4⟩ : ∃ V, V = w3.setCell ⟨b, 2, none⟩ (.slice p3 (R.l.n - 1) c3) := ⟨_, rfl⟩
  rw [← hw4] at hSt
  have hb4 : But (fun k => k = b) w3 w4 := by rw [hw4]; exact (But.one w3 b).setAt 2 _
  have hWs2 := HWs2.out
  have hY4 := (HY.out.below hB3).kept (hb4.block _ (by have := (HY.out.below hB3).lt; omega) (by have := HWs.out; omega))
  have hX4 := (HX2.out.below hB3).kept (hb4.block _ (by omega) (by omega))
  have HSt := hid (RSet.trans (RSet.below (H0.out.z (Z' := fun k => Z k ∨ k = w.heap.size) (fun k hk hz => hz.elim id fun e => by omega)) HB02.out) hSt)
  have HW4 := hid hw4
  have z0 := hX4.cell 0
  have z1 := hX4.cell 1
  have z2 := hX4.cell 2
  have z3 := hX4.cell 3
  have z4 := hX4.cell 4
  have z5 := hX4.cell 5
  have z6 := hX4.cell 6
  simp at z0 z1 z2 z3 z4 z5 z6
  have f0 := hX4.frozen 0
  have f1 := hX4.frozen 1
  have f2 := hX4.frozen 2
  have f3 := hX4.frozen 3
  have f4 := hX4.frozen 4
  have f5 := hX4.frozen 5
  have f6 := hX4.frozen 6
  have y0 := hY4.cell 0
  have y1 := hY4.cell 1
  have y2 := hY4.cell 2
  have y3 := hY4.cell 3
  have y4 := hY4.cell 4
  have y5 := hY4.cell 5
  have y6 := hY4.cell 6
  simp at y0 y1 y2 y3 y4 y5 y6
  have zl := hX4.lt
  have HIx : Hid (IT.In w4 (fun k => (¬ R.C b k ∧ ¬ Z k) ∧ k < w.heap.size) x) := by
    refine (HIt.out.1.mono (S' := fun k => (¬ R.C b k ∧ ¬ Z k) ∧ k < w.heap.size) fun k hk hl => ⟨hk, hl⟩).kept (by have := hb4.size; have := HB02.out.size; omega) fun k hk hl => ?_
    exact (hb4.block k (by have := HB02.out.size; omega) fun e => hk.1.1 (.inl e)).trans ((hB3.block k (by have := HB02.out.size; omega)).trans (HB02.out.block k hl))
  clear hI3 hB3 hSt hb4 hY4 hX4 ho3 hw4
  go_upto_region 5 with fail
  rw [← HW4.out]
  clear c2 g2 bl
  go_wp2
  have hp7 := put7_but w4 w.heap.size x
  rw [← HXx.out]
  refine bodyPost_ret (v := .tuple #[x.val, .bool true]) (by simp [results, Try.results47, go_sem, z0, z1, z2, z3, z4, z5, z6, IT.val]) rfl ⟨rfl, ?_⟩
  change RTkQ w Z b R (R.l.toL.drop 1) x (put7 w4 w.heap.size x)
  have hfin := RSet.fresh HSt.out (Nat.le_refl _) hp7
  refine ⟨⟨R.room, R.shut, LT.ofL ⟨0, rz⟩ p3 c3 (R.l.toL.take 0 ++ R.l.toL.drop (0 + 1))⟩, ?_, rfl, hfin, ?_⟩
  · show (LT.ofL _ _ _ _).toL = _
    rw [LT.ofL_toL]; simp
  · refine (HIx.out.kept hp7.size fun k hk hl => hp7.block k hl (by omega)).mono fun k hk _ => ⟨fun e => ?_, hk.1.2⟩
    rcases hfin.c k e with e2 | e2
    · exact hk.1.1 e2
    · omega
set_option maxRecDepth 60000 in
set_option maxHeartbeats 4000000 in
/-- Peek -/
theorem rpeek_some (w : World) (Z : Nat → Prop) (b : Nat) (R : Rf) (h : RfI w Z b R) (hn : 0 < R.l.n) : Calls Try.prog 49 #[.pointer (some ⟨b, 0, none⟩)] w fun e w' => ∃ u : IT, e = .returned (.tuple #[u.val, .bool true]) ∧ CopyI (R.l.item 0) u ∧ IT.In w' (fun k => w.heap.size ≤ k) u ∧ Below w.heap.size w w' := by
  obtain ⟨W, hW⟩ : ∃ W, W = w.alloc (.cells #[.int .i64 0, .string ⟨#[]⟩, .int .i64 0, .int .i64 0, .string ⟨#[]⟩, .slice none 0 0, .slice none 0 0] 35) := ⟨_, rfl⟩
  have hB : Below w.heap.size w W := by rw [hW]; exact (Below.refl _ _).alloc (Nat.le_refl _) _
  have hX : Box W w.heap.size #[.int .i64 0, .string ⟨#[]⟩, .int .i64 0, .int .i64 0, .string ⟨#[]⟩, .slice none 0 0, .slice none 0 0] 35 := by rw [hW]; exact Box.new _ _ _
  have hWs : W.heap.size = w.heap.size + 1 := by rw [hW]; simp
  have hI := h.below hB
  have c2 := hI.c2
  have bl := hI.box.lt
  obtain ⟨gb, o, hp, _, hgl, hat⟩ := h.in_.at_ (by omega)
  rw [hp] at c2
  obtain ⟨x, hx⟩ : ∃ x, x = R.l.item 0 := ⟨_, rfl⟩
  have hcell : ∀ r u, (elItem.cells x)[r]? = some u → W.cell? ⟨gb, o + r, none⟩ = some u := fun r u hu => (World.cell?_of_block (a := ⟨gb, o + r, none⟩) (hB.block gb hgl)).trans (by have := hat 0 (by omega) r u (by rw [← hx]; exact hu); simpa using this)
  have e0 : W.cell? ⟨gb, o, none⟩ = some (.int .i64 x.mark) := hcell 0 _ rfl
  have e1 := hcell 1 _ rfl
  have e2 := hcell 2 _ rfl
  have e3 := hcell 3 _ rfl
  have e4 := hcell 4 _ rfl
  have e5 := hcell 5 _ rfl
  have e6 := hcell 6 _ rfl
  have hpos : ((R.l.n : Int) == 0) = false := by simp; omega
  have hpos2 : (0 : Int) < (R.l.n : Int) := by omega
  have hit := h.it 0 hn
  rw [← hx] at hit
  have HIt := hid hit
  have HB := hid hB
  have HW := hid hW
  have HX := hid hX
  have HWs := hid hWs
  have HXx := hid hx
  have HCp := hid (ritem x W _ (hit.1.below hB) hit.2.sz hit.2.m)
  clear h hB hX hW hI hat hcell hit hx hWs
  go_enter Try.func49, Try.ntmps49
  go_upto_region 1 with fail
  rw [← HW.out]
  go_wp2_with fail
  refine HCp.out.mono ?_
  rintro e w2 ⟨u, rfl, hcp, hin, hB2⟩
  obtain ⟨W2, hW2⟩ : ∃ V, V = w2.alloc (.cells #[.int .i64 u.mark, .string u.r.key, .int .i64 u.r.v.kind, .int .i64 u.r.v.int, .string u.r.v.text, .slice u.r.v.p u.r.v.n u.r.v.c, .slice u.r.p u.r.n u.r.c] 35) := ⟨_, rfl⟩
  have hB3 : Below w2.heap.size w2 W2 := by rw [hW2]; exact (Below.refl _ _).alloc (Nat.le_refl _) _
  have hY : Box W2 w2.heap.size #[.int .i64 u.mark, .string u.r.key, .int .i64 u.r.v.kind, .int .i64 u.r.v.int, .string u.r.v.text, .slice u.r.v.p u.r.v.n u.r.v.c, .slice u.r.p u.r.n u.r.c] 35 := by rw [hW2]; exact Box.new _ _ _
  have hX2 := (HX.out.below hB2).below hB3
  have HB2 := hid ((HB.out.trans (hB2.mono HB.out.size)).trans (hB3.mono (Nat.le_trans HB.out.size hB2.size)))
  have HU := hid (And.intro hcp (hin.below hB3))
  have HW2 := hid hW2
  have hWs := HWs.out
  have z0 := hX2.cell 0
  have z1 := hX2.cell 1
  have z2 := hX2.cell 2
  have z3 := hX2.cell 3
  have z4 := hX2.cell 4
  have z5 := hX2.cell 5
  have z6 := hX2.cell 6
  simp at z0 z1 z2 z3 z4 z5 z6
  have f0 := hX2.frozen 0
  have f1 := hX2.frozen 1
  have f2 := hX2.frozen 2
  have f3 := hX2.frozen 3
  have f4 := hX2.frozen 4
  have f5 := hX2.frozen 5
  have f6 := hX2.frozen 6
  have y0 := hY.cell 0
  have y1 := hY.cell 1
  have y2 := hY.cell 2
  have y3 := hY.cell 3
  have y4 := hY.cell 4
  have y5 := hY.cell 5
  have y6 := hY.cell 6
  simp at y0 y1 y2 y3 y4 y5 y6
  have zl := hX2.lt
  have yl := hY.lt
  clear hcp hin hB2 hB3 hY hX2 hW2 e0 e1 e2 e3 e4 e5 e6 c2 bl
  go_upto_region 4 with fail
  rw [← HW2.out]
  go_wp2
  have hp7 := put7_but W2 w.heap.size u
  rw [← HXx.out]
  refine bodyPost_ret (v := .tuple #[u.val, .bool true]) (by simp [results, Try.results49, go_sem, z0, z1, z2, z3, z4, z5, z6, IT.val]) rfl ⟨u, rfl, HU.out.1, ?_, ?_⟩
  · change IT.In (put7 W2 w.heap.size u) _ _
    exact (HU.out.2.kept hp7.size fun k hk hl => hp7.block k hl (by omega)).mono fun k hk _ => by omega
  · change Below w.heap.size w (put7 W2 w.heap.size u)
    exact HB2.out.trans (hp7.below HB2.out.size (fun k hk e => by omega))
end Go.Proofs.Ytpldokahoamdpaa
