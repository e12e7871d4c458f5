import Derived.Test.YtikfpoabaaiegaaBgY
namespace Go.Proofs.Ytikfpoabaaiegaa
open Go.RowKit
set_option maxRecDepth 8000
theorem LT.In.src {α : Type} {E : El α} {w : World} {S : Nat → Prop} {l : LT α} (h : LT.In E w S l) : Src w l.p l.n l.c E.size ((List.range l.n).flatMap fun j => E.cells (l.item j)) := by
  cases hp : l.p with
  | none =>
    obtain ⟨h1, h2⟩ := h.nil hp
    rw [h1, h2]
    exact .inl ⟨rfl, rfl, rfl, rfl⟩
  | some ad =>
    refine .inr ⟨ad, rfl, range_flat_len E l.item l.n, fun j u hu => ?_⟩
    have hj : j < l.n * E.size := by
      rcases Nat.lt_or_ge j (l.n * E.size) with h1 | h1
      · exact h1
      · rw [List.getElem?_eq_none (by rw [range_flat_len]; exact h1)] at hu; cases hu
    have hs : 0 < E.size := by
      rcases Nat.eq_zero_or_pos E.size with h1 | h1
      · rw [h1] at hj; omega
      · exact h1
    have hq : j / E.size < l.n := Nat.div_lt_of_lt_mul (by rw [Nat.mul_comm]; exact hj)
    have hr : j % E.size < E.size := Nat.mod_lt _ hs
    have e : j / E.size * E.size + j % E.size = j := by rw [Nat.mul_comm]; exact Nat.div_add_mod j E.size
    obtain ⟨b, o, e1, _, _, ha⟩ := h.at_ (Nat.lt_of_le_of_lt (Nat.zero_le _) hq)
    rw [hp] at e1
    cases e1
    rw [← e, range_flat_get E l.item l.n _ _ hq hr] at hu
    have := ha _ hq _ u hu
    rw [Nat.add_assoc, e] at this
    rw [Go.WideShapes.add_plain]
    exact this
theorem VT.toLT {w : World} {S : Nat → Prop} {t : VT} (h : VT.In w S t) : LT.In elVal w S ⟨t.p, t.n, t.c, t.item⟩ := by
  have hf := h.fit
  refine ⟨fun hn => ?_, fun j hj => h.sub hj, hf.nc, hf.nn, hf.cc, hf.nil⟩
  obtain ⟨b, o, e, hS, hl, ha⟩ := h.at_ hn
  refine ⟨b, o, e, hS, hl, fun j hj r u hu => ?_⟩
  have h4 := ha j hj
  have hr : r < 4 := by
    rcases Nat.lt_or_ge r 4 with h1 | h1
    · exact h1
    · rw [List.getElem?_eq_none (by rw [elVal.len]; exact h1)] at hu; cases hu
  rcases (by omega : r = 0 ∨ r = 1 ∨ r = 2 ∨ r = 3) with rfl | rfl | rfl | rfl
  · cases hu; exact h4.c0
  · cases hu; exact h4.c1
  · cases hu; exact h4.c2
  · cases hu; exact h4.c3
theorem one_vals (V : List VT) : ∀ u ∈ valC V, u.oneCell' = true := by
  intro u hu
  obtain ⟨t, _, h⟩ := List.mem_flatMap.1 hu
  exact oneCell_cells t u h
theorem one_strs (K : List ByteArray) : ∀ u ∈ strC K, u.oneCell' = true := by intro u hu; obtain ⟨z, _, rfl⟩ := List.mem_map.1 hu; rfl
/-- a state's cells: their counts, keys and values -/
def celN (f : Nat → VT) (n : Nat) : List Int := (List.range n).map fun j => ((f j).n : Int)
def celK (f : Nat → VT) (n : Nat) : List ByteArray := (List.range n).map fun j => (f j).text
def vals (t : VT) : List VT := (List.range t.n).map t.item
def celV (f : Nat → VT) (n : Nat) : List VT := (List.range n).flatMap fun j => vals (f j)
theorem celN_succ (f : Nat → VT) (n : Nat) : celN f (n + 1) = celN f n ++ [((f n).n : Int)] := by simp [celN, List.range_succ]
theorem celK_succ (f : Nat → VT) (n : Nat) : celK f (n + 1) = celK f n ++ [(f n).text] := by simp [celK, List.range_succ]
theorem celV_succ (f : Nat → VT) (n : Nat) : celV f (n + 1) = celV f n ++ vals (f n) := by simp [celV, List.range_succ]
theorem celV_len (f : Nat → VT) : ∀ n, (∀ j, j < n → (f j).n ≤ 6) → (celV f n).length ≤ 6 * n := by
  intro n
  induction n with
  | zero => intro _; simp [celV]
  | succ n ih =>
    intro h
    rw [celV_succ, List.length_append]
    have := ih fun j hj => h j (by omega)
    have := h n (by omega)
    simp [vals]
    omega
theorem valC_src {w : World} {S : Nat → Prop} {t : VT} (h : VT.In w S t) : Src w t.p t.n t.c 4 (valC (vals t)) := by
  have := (VT.toLT h).src
  have e : valC (vals t) = (List.range t.n).flatMap fun j => elVal.cells (t.item j) := by
    unfold valC vals
    rw [List.flatMap_map]
    rfl
  rw [e]
  exact this
set_option maxHeartbeats 8000000 in
theorem addCells_any {w0 : World} {rb : Nat} {w : World} {N : List Int} {K : List ByteArray} {V : List VT} (h : BGx w0 rb w N K V) (p : Option Addr) (n cp : Nat) (f : Nat → VT) {S : Nat → Prop} (hin : LT.In elCell w0 S ⟨p, n, cp, f⟩) (hS : ∀ q, S q → q < rb) (hn : n ≤ 64) (hl : ∀ j, j < n → VC (f j)) (hN : N.length ≤ 900000) (hK : K.length ≤ 900000) (hV : V.length ≤ 900000) :
    Calls Try.prog 45 #[.pointer (some ⟨rb, 0, none⟩), .slice p n cp] w fun x w' => x = .returned (.tuple #[]) ∧ BGx w0 rb w' (N ++ ((n : Int) :: celN f n)) (K ++ celK f n) (V ++ celV f n) := by
  obtain ⟨a, b, c, h⟩ := h
  obtain ⟨iI, KdI⟩ := kindI
  obtain ⟨iS, KdS⟩ := kindSt
  obtain ⟨iV, KdV⟩ := kindV
  have HKI := hid KdI
  have HKS := hid KdS
  have HKV := hid KdV
  obtain ⟨pa, ca, rfl⟩ := ownsRow_slice h.oN
  have hrb := h.box.lt
  have x0 := h.box.cell 0
  simp at x0
  have hal : Below w.heap.size w (w.alloc (.cells #[.int .i64 (n : Int)] 3)) := (Below.refl _ _).alloc (Nat.le_refl _) _
  have H1 := hid (h.kept hal)
  have HIn := hid hin
  have HS := hid hS
  have HL := hid hl
  have hrw : w0.heap.size ≤ w0.heap.size := Nat.le_refl _
  clear h hal hin hS KdI KdS KdV hl hrw
  go_enter Try.func45, Try.ntmps45
  go_wp2_with (at_builtin; refine wpList_app rfl (.tmp 9) (.tmp 12) 25 3 iI _ 1 8 HKI.out rfl (rb + 1) _ N.length (intC N) rfl H1.out.oN ⟨w.heap.size, 0, none⟩ 1 1 [.int .i64 (n : Int)] rfl rfl (cell_one_new _ _ _) (one_int _) (by omega) (by omega) (by simp; omega) ?_)
  intro v3 w3 ho3 hg3 hn3
  obtain ⟨p3, c3, rfl⟩ := ownsRow_slice ho3
  have hx3 := H1.out.boxN hg3
  have y1 := hx3.cell 0
  have g1 := hx3.frozen 0
  simp at y1
  have H2 := hid (H1.out.nums (M := [(n : Int)]) ho3 hg3 hn3)
  clear hx3 ho3 hg3 hn3 H1
  go_wp2_with fail
  clear y1 g1
  obtain ⟨W2, hW2⟩ : ∃ W2, W2 = w3.setCell ⟨rb, 0, none⟩ (.slice p3 (N.length + 1) c3) := ⟨_, rfl⟩
  rw [← hW2] at H2 ⊢
  clear hW2 x0 hrb
  go_loopw [4] (fun x wr => ∃ j : Nat, j ≤ n ∧ x = .int .i64 (j : Int) ∧ BGx w0 rb wr (N ++ [(n : Int)] ++ celN f j) (K ++ celK f j) (V ++ celV f j)) (fun x _ => n - (intOf x).toNat)
  case atStart => exact ⟨0, Nat.zero_le _, rfl, _, _, _, by simpa [celN, celK, celV] using H2.out⟩
  case round =>
    obtain ⟨j, hj, rfl, hb⟩ := hrel
    clear H2
    by_cases hlt : j < n
    · have hlt' : (j : Int) < (n : Int) := by omega
      obtain ⟨a1, b1, c1, hg⟩ := hb
      obtain ⟨bk, ok, hp, hSb, hl1, ha⟩ := HIn.out.at_ (show 0 < n by omega)
      simp only at hp
      subst hp
      have hbr := HS.out bk hSb
      have hca : Hid (∀ W, Below rb w0 W → W.cell? ⟨bk, ok + j * 2, none⟩ = some (.string (f j).text) ∧ W.cell? ⟨bk, ok + j * 2 + 1, none⟩ = some (.slice (f j).p (f j).n (f j).c)) := fun W hW =>
        ⟨(World.cell?_of_block (a := ⟨bk, ok + j * 2, none⟩) (hW.block bk hbr)).trans (ha j hlt 0 _ rfl), (World.cell?_of_block (a := ⟨bk, ok + j * 2 + 1, none⟩) (hW.block bk hbr)).trans (ha j hlt 1 _ rfl)⟩
      have hNl : (N ++ [(n : Int)] ++ celN f j).length ≤ 900100 := by simp [celN]; omega
      have hKl : (K ++ celK f j).length ≤ 900100 := by simp [celK]; omega
      have hVl : (V ++ celV f j).length ≤ 900400 := by
        have := celV_len f j (fun i hi => (HL.out i (by omega)).2)
        rw [List.length_append]
        omega
      have hfn : (f j).n ≤ 6 := (HL.out j hlt).2
      have HF : Hid (VT.In w0 S (f j)) := HIn.out.each j hlt
      obtain ⟨N1, hN1⟩ : ∃ N1, N1 = N ++ [(n : Int)] ++ celN f j := ⟨_, rfl⟩
      obtain ⟨K1, hK1⟩ : ∃ K1, K1 = K ++ celK f j := ⟨_, rfl⟩
      obtain ⟨V1, hV1⟩ : ∃ V1, V1 = V ++ celV f j := ⟨_, rfl⟩
      rw [← hN1, ← hK1, ← hV1] at hg
      rw [← hN1] at hNl
      rw [← hK1] at hKl
      rw [← hV1] at hVl
      have HE : Hid (N ++ [(n : Int)] ++ celN f (j + 1) = N1 ++ [((f j).n : Int)] ∧ K ++ celK f (j + 1) = K1 ++ [(f j).text] ∧ V ++ celV f (j + 1) = V1 ++ vals (f j)) := by
        refine ⟨?_, ?_, ?_⟩
        · rw [hN1, celN_succ, ← List.append_assoc]
        · rw [hK1, celK_succ, ← List.append_assoc]
        · rw [hV1, celV_succ, ← List.append_assoc]
      generalize f j = t at *
      clear hN1 hK1 hV1 ha HIn HL
      go_wp2_with fail
      go_cut [] (fun wx => BGx w0 rb wx N1 (K1 ++ [t.text]) V1)
      case first =>
        obtain ⟨pb, cb, rfl⟩ := ownsRow_slice hg.oK
        have hwc := hg.box.lt
        have q0 := (hca.out wr hg.below).1
        have x1 := hg.box.cell 1
        simp at x1
        have hal : Below wr.heap.size wr ((wr.alloc (.cells #[.string t.text] 9)).drew) := ((Below.refl _ _).alloc (Nat.le_refl _) _).drew
        have H1 := hid (hg.kept hal)
        have z1 := (hg.kept (w2 := wr.alloc (.cells #[.string t.text] 9)) ((Below.refl _ _).alloc (Nat.le_refl _) _)).box.cell 1
        simp at z1
        have HNw := hid (new_one wr (.string t.text) 9 wr.heap.size rfl)
        clear hg hal
        go_region_law (refine step_app rfl (.tmp 26) (.tmp 32) 32 9 iS _ 1 16 HKS.out rfl (rb + 1) _ K1.length (strC K1) rfl H1.out.oK ⟨wr.heap.size, 0, none⟩ 1 1 [.string t.text] rfl rfl HNw.out (one_str _) (by omega) (by omega) (by simp; omega) ?_
                       intro v3 w3 ho3 hg3 hn3
                       obtain ⟨p3, c3, rfl⟩ := ownsRow_slice ho3
                       have hx3 := H1.out.boxK hg3
                       have y1 := hx3.cell 1
                       have g1 := hx3.frozen 1
                       simp at y1)
        all_goals go_wp2_with fail
        all_goals go_meet
        all_goals exact ⟨_, _, _, H1.out.keys (M := [t.text]) ho3 hg3 hn3⟩
      case rest =>
        obtain ⟨a2, b2, c2, h2⟩ := hcut
        have hKl2 : (K1 ++ [t.text]).length ≤ 900101 := by simp; omega
        obtain ⟨K2, hK2⟩ : ∃ K2, K2 = K1 ++ [t.text] := ⟨_, rfl⟩
        rw [← hK2] at h2 hKl2
        have HK2 := hid hK2
        clear hg hK2
        go_wp2_with fail
        go_cut [] (fun wx => BGx w0 rb wx (N1 ++ [(t.n : Int)]) K2 V1)
        case first =>
          obtain ⟨pa, ca, rfl⟩ := ownsRow_slice h2.oN
          have hwc := h2.box.lt
          have q1 := (hca.out wc h2.below).2
          have x0 := h2.box.cell 0
          simp at x0
          have hal : Below wc.heap.size wc ((wc.alloc (.cells #[.int .i64 (t.n : Int)] 3)).drew) := ((Below.refl _ _).alloc (Nat.le_refl _) _).drew
          have H1 := hid (h2.kept hal)
          have z1 := (h2.kept (w2 := wc.alloc (.cells #[.int .i64 (t.n : Int)] 3)) ((Below.refl _ _).alloc (Nat.le_refl _) _)).box.cell 0
          simp at z1
          have HNw := hid (new_one wc (.int .i64 (t.n : Int)) 3 wc.heap.size rfl)
          clear h2 hal
          go_region_law (refine step_app rfl (.tmp 40) (.tmp 47) 25 3 iI _ 1 8 HKI.out rfl (rb + 1) _ N1.length (intC N1) rfl H1.out.oN ⟨wc.heap.size, 0, none⟩ 1 1 [.int .i64 (t.n : Int)] rfl rfl HNw.out (one_int _) (by omega) (by omega) (by simp; omega) ?_
                         intro v3 w3 ho3 hg3 hn3
                         obtain ⟨p3, c3, rfl⟩ := ownsRow_slice ho3
                         have hx3 := H1.out.boxN hg3
                         have y1 := hx3.cell 0
                         have g1 := hx3.frozen 0
                         simp at y1)
          all_goals go_wp2_with fail
          all_goals go_meet
          all_goals exact ⟨_, _, _, H1.out.nums (M := [(t.n : Int)]) ho3 hg3 hn3⟩
        case rest =>
          obtain ⟨a3, b3, c3, h3⟩ := hcut
          clear h2
          go_wp2_with fail
          obtain ⟨pc, cc, rfl⟩ := ownsRow_slice h3.oV
          have hwc := h3.box.lt
          have q1 := (hca.out wc h3.below).2
          have x2 := h3.box.cell 2
          simp at x2
          have H1 := hid (h3.kept (w2 := wc.drew) (Below.refl _ _).drew)
          have HSr : Hid (Src wc.drew t.p t.n t.c 4 (valC (vals t))) := valC_src (HF.out.kept (w' := wc.drew) (Nat.le_trans h3.below.size (Nat.le_refl _)) (fun b hb _ => h3.below.block b (HS.out b hb)))
          have hvl : (vals t).length = t.n := by simp [vals]
          have HVl := hid hvl
          clear h3 hvl
          go_region_law (refine step_appS rfl (.tmp 55) (.tmp 60) 22 24 iV _ 4 56 HKV.out rfl (rb + 1) _ V1.length (valC V1) rfl H1.out.oV t.p t.n t.c (valC (vals t)) rfl HSr.out (one_vals _) (by omega) (by omega) (by simp; omega) ?_
                         intro v3 w3 ho3 hg3 hn3
                         obtain ⟨p3, c3, rfl⟩ := ownsRow_slice ho3
                         have hx3 := H1.out.boxV hg3
                         have y1 := hx3.cell 2
                         have g1 := hx3.frozen 2
                         simp at y1)
          all_goals
            have HP := hid (H1.out.vals (M := vals t) (by rw [HVl.out]; exact ho3) hg3 hn3)
            clear hx3 y1 g1 ho3 hg3 hn3 H1
            go_wp2
            go_roundw
            case rel =>
              exact ⟨j + 1, by omega, by go_num, by rw [HE.out.1, HE.out.2.1, HE.out.2.2, ← HK2.out]; exact ⟨_, _, _, HP.out⟩⟩
            case measure => simp [intOf]; omega
    · obtain rfl : j = n := by omega
      have hlt' : ¬ (j : Int) < (j : Int) := by omega
      have HB := hid hb
      clear hb
      go_wp2
      exact bodyPost_end (results_none rfl _ _ _) rfl ⟨rfl, by rw [show N ++ ((j : Int) :: celN f j) = N ++ [(j : Int)] ++ celN f j by simp]; exact HB.out⟩
end Go.Proofs.Ytikfpoabaaiegaa
