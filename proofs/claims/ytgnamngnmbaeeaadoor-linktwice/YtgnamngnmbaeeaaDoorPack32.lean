import Derived.Test.YtgnamngnmbaeeaaDoorPack31
import Derived.ProofKit
import Derived.OpenShut
import Derived.ChangeOld
import Derived.SizedLaws
import Derived.Deep.DeepHandedRow
import Derived.Deep.Strs
import Derived.Lib.LaidTab
namespace Go.Proofs.YtgnamngnmbaeeaaDoor
open Go.RowKit
set_option maxRecDepth 8000
/-- one call of a script -/
structure OpT where
  kd : Int
  s2 : Bool
  i : Int
  bit : Int
  b : BS
def OpT.cells (o : OpT) : List Value := [.int .i64 o.kd, .bool o.s2, .int .i64 o.i, .int .i64 o.bit, o.b.val]
def OpT.val (o : OpT) : Value := .agg #[.int .i64 o.kd, .bool o.s2, .int .i64 o.i, .int .i64 o.bit, o.b.val]
structure OpT.In (w : World) (S : Nat → Prop) (o : OpT) : Prop where
  b : o.b.In w S
  kd : Fit64 o.kd
  i : Fit64 o.i
  bit : Fit64 o.bit
def elOpT : El OpT where
  ty := 46
  size := 5
  cells := OpT.cells
  len := fun _ => rfl
  one := fun x u hu => by
    simp only [OpT.cells, List.mem_cons, List.not_mem_nil, or_false] at hu
    rcases hu with rfl | rfl | rfl | rfl | rfl <;> rfl
  In := OpT.In
  kept := fun h hs hb => ⟨h.b.kept hs hb, h.kd, h.i, h.bit⟩
  mono := fun h hb => ⟨h.b.mono hb, h.kd, h.i, h.bit⟩
/-- one step of the line -/
def stS (S : LS) (o : OpT) : LS :=
  if o.kd = 1 then stPut S o.b.zs else if o.kd = 2 then stTick S else if o.kd = 3 then stTake S o.i else if o.kd = 4 then stAck S o.i else if o.kd = 5 then drS S S.R.rd.length else if o.kd = 6 then stTell S o.i else if o.kd = 7 then stAns S else S
theorem Inv.stS {S : LS} (h : Inv S) (hz : S.P.length ≤ 1073741824) (o : OpT) (hb : ∀ z ∈ o.b.zs, 0 ≤ z ∧ z < 256) : Inv (stS S o) := by
  unfold Go.Proofs.YtgnamngnmbaeeaaDoor.stS
  split
  · unfold stPut
    split
    · exact h
    · exact h.put (by omega) hb
  · split
    · exact h.tick
    · split
      · exact h.take hz _
      · split
        · exact h.ack hz _
        · split
          · exact h.drain
          · split
            · exact h.tell _
            · split
              · exact h.answer
              · exact h
/-- how much grows -/
structure Grw (S S' : LS) (k : Nat) : Prop where
  p : S'.P.length ≤ S.P.length + k
  w : S'.ws.length ≤ S.ws.length + k
  a : S'.A.wi = S.A.wi
  r : S'.R.wi = S.R.wi
theorem Grw.refl (S : LS) : Grw S S 0 := ⟨Nat.le_refl _, Nat.le_refl _, rfl, rfl⟩
theorem Grw.trans {S S1 S2 : LS} {j k : Nat} (h : Grw S S1 j) (g : Grw S1 S2 k) : Grw S S2 (j + k) :=
  ⟨by have := h.p; have := g.p; omega, by have := h.w; have := g.w; omega, g.a.trans h.a, g.r.trans h.r⟩
theorem Grw.le {S S' : LS} {j k : Nat} (h : Grw S S' j) (hk : j ≤ k) : Grw S S' k := ⟨by have := h.p; omega, by have := h.w; omega, h.a, h.r⟩
theorem readyR_wi (R : RA) : (readyR R).wi = R.wi := (readyF_F R.kp.length R).wi
theorem keepR_wi (R : RA) (n : Nat) (m : List Int) : (keepR R n m).wi = R.wi := by
  unfold keepR
  split
  · rfl
  · split <;> rfl
theorem takeN_wi (R : RA) (z : List Int) : (takeN R z).wi = R.wi := by
  unfold takeN
  split
  · rfl
  · split
    · rw [readyR_wi, keepR_wi]
    · rfl
theorem ackN_wi (A : SA) (z : List Int) : (ackN A z).wi = A.wi := by
  unfold ackN
  split <;> rfl
theorem stLook_grw (S : LS) : Grw S (stLook S) 0 := ⟨Nat.le_refl _, Nat.le_refl _, rfl, rfl⟩
theorem stS_grw (S : LS) (o : OpT) : Grw S (stS S o) 1 := by
  have h0 : Grw S S 1 := (Grw.refl S).le (by omega)
  unfold Go.Proofs.YtgnamngnmbaeeaaDoor.stS
  split
  · unfold stPut
    split
    · exact h0
    · exact ⟨by show (S.P ++ [o.b.zs]).length ≤ _; rw [List.length_append]; exact Nat.le_refl _, Nat.le_succ _, rfl, rfl⟩
  · split
    · exact ⟨h0.p, h0.w, rfl, rfl⟩
    · split
      · unfold stTake
        split
        · exact h0
        · exact ⟨h0.p, h0.w, rfl, takeN_wi _ _⟩
      · split
        · unfold stAck
          split
          · exact h0
          · exact ⟨h0.p, h0.w, ackN_wi _ _, rfl⟩
        · split
          · exact ⟨h0.p, h0.w, rfl, rfl⟩
          · split
            · unfold stTell
              split
              · exact ⟨h0.p, by show (S.ws ++ [min o.i 1073741824]).length ≤ _; rw [List.length_append]; exact Nat.le_refl _, rfl, rfl⟩
              · exact ⟨h0.p, h0.w, rfl, rfl⟩
            · split
              · exact ⟨h0.p, h0.w, rfl, rfl⟩
              · exact h0
/-- A STEP OF THE LINE, whatever it is -/
theorem step_any (w : World) (C : Nat → Nat) (c lb : Nat) (S : LS) (h : LI w C c lb S) (hn : ∀ k, w.heap.size ≤ k → In8 C c k) (hT : Tab w) (hO : Out8 C c) (hI : Inv S) (hp : S.P.length + 1 ≤ 1073741824) (hw : S.ws.length + 1 ≤ 1073741824)
    (o : OpT) (ho : o.In w (fun k => ¬ In8 C c k)) : Calls Tryd.prog 20 #[.pointer (some ⟨lb, 0, none⟩), o.val] w fun e w' => e = .returned (.bool true) ∧ LQ w C c lb (stS S o) w' := by
  have hz : S.P.length ≤ 1073741824 := by omega
  obtain ⟨kd, s2, i, bit, ⟨bp, bc, bz⟩⟩ := o
  obtain ⟨hb, _, hi, hbit⟩ := ho
  unfold OpT.val Go.Proofs.YtgnamngnmbaeeaaDoor.stS
  dsimp only [BS.val] at hb hi hbit ⊢
  by_cases h1 : kd = 1
  · subst h1
    rw [if_pos rfl]
    exact step_put w C c lb S h hn s2 i bit bp bz.length bc bz rfl hb fun hlen => ⟨by unfold putE; rw [if_neg hlen, if_neg (by have := hI.an; omega)], hp⟩
  rw [if_neg h1]
  by_cases h2 : kd = 2
  · subst h2
    rw [if_pos rfl]
    exact step_tick w C c lb S h hn hT hO s2 i bit bp bz.length bc
  rw [if_neg h2]
  by_cases h3 : kd = 3
  · subst h3
    rw [if_pos rfl]
    exact step_take w C c lb S h hn hT hO s2 i bit hi bp bz.length bc (hI.take_ok hz i)
  rw [if_neg h3]
  by_cases h4 : kd = 4
  · subst h4
    rw [if_pos rfl]
    exact step_ack w C c lb S h hn hT hO s2 i bit hi bp bz.length bc (hI.ack_ok hz i)
  rw [if_neg h4]
  by_cases h5 : kd = 5
  · subst h5
    rw [if_pos rfl]
    exact step_next w C c lb S h hn hT hO s2 i bit bp bz.length bc (hI.rdy hz)
  rw [if_neg h5]
  by_cases h6 : kd = 6
  · subst h6
    rw [if_pos rfl]
    exact step_tell w C c lb S h hn hT hO s2 i bit bp bz.length bc hw
  rw [if_neg h6]
  by_cases h7 : kd = 7
  · subst h7
    rw [if_pos rfl]
    exact step_ans w C c lb S h hn hT hO s2 i bit bp bz.length bc
  rw [if_neg h7]
  by_cases h9 : kd = 9
  · subst h9
    exact step_flip w C c lb S h hn hT hO s2 i bit hi hbit bp bz.length bc (fun z hz' => (hI.d z hz').frm hI hz) (fun z hz' => (hI.n z hz').frm hI hz)
  · exact step_none w C c lb S h hn hT hO s2 i bit bp bz.length bc kd ⟨h1, h2, h3, h4, h5, h6, h7, h9⟩
/-- what a line leaves as it was: other lists -/
theorem In7.in8 {C : Nat → Nat} {c k : Nat} (h : In7 C c k) : In8 C c k := ⟨h.1, Nat.le_trans h.2 (by omega)⟩
theorem LT.In.line {α : Type} {E : El α} {w w' : World} {C C' : Nat → Nat} {c : Nat} {s : LT α} (h : LT.In E w (fun k => ¬ In8 C c k) s) (hb : But (In7 C c) w w') (hc : ∀ k, k < w.heap.size → C' k = C k) : LT.In E w' (fun k => ¬ In8 C' c k) s :=
  ((h.mono fun k hk hl => (⟨hk, hl⟩ : ¬ In8 C c k ∧ k < w.heap.size)).but hb fun k hk _ e => hk.1 e.in8).mono fun k hk _ => by
    have := hk.1
    unfold In8 at this ⊢
    rw [hc k hk.2]
    exact this
theorem tab_line {w w' : World} {C : Nat → Nat} {c : Nat} (hT : Tab w) (hO : Out8 C c) (hb : But (In7 C c) w w') : Tab w' :=
  tab_fr (Z := fun k => ¬ In8 C c k) hT (hb.mono fun _ _ e => fun n => n e.in8) hO
theorem Out8.line {w : World} {C C' : Nat → Nat} {c : Nat} (hT : Tab w) (hO : Out8 C c) (hc : ∀ k, k < w.heap.size → C' k = C k) : Out8 C' c := by
  unfold Out8 In8 at *
  rw [hc 0 hT.1]
  exact hO
/-- an op's cells where it lies -/
theorem LT.In.opc {w : World} {S : Nat → Prop} {s : LT OpT} (h : LT.In elOpT w S s) {k : Nat} (hk : k < s.n) : ∃ b o, s.p = some ⟨b, o, none⟩ ∧ b < w.heap.size ∧ S b ∧ w.cell? ⟨b, o + k * 5, none⟩ = some (.int .i64 (s.item k).kd) ∧ w.cell? ⟨b, o + k * 5 + 1, none⟩ = some (.bool (s.item k).s2) ∧ w.cell? ⟨b, o + k * 5 + 2, none⟩ = some (.int .i64 (s.item k).i) ∧ w.cell? ⟨b, o + k * 5 + 3, none⟩ = some (.int .i64 (s.item k).bit) ∧ w.cell? ⟨b, o + k * 5 + 4, none⟩ = some (s.item k).b.val := by
  obtain ⟨b, o, hp, hS, hl, ha⟩ := h.at_ (by omega)
  exact ⟨b, o, hp, hl, hS, ha k hk 0 _ rfl, ha k hk 1 _ rfl, ha k hk 2 _ rfl, ha k hk 3 _ rfl, ha k hk 4 _ rfl⟩
end Go.Proofs.YtgnamngnmbaeeaaDoor

namespace Go.Proofs.YtgnamngnmbaeeaaDoor
open Go.ChangeShapes Go.WideShapes Go.ChangeAt Go.RowKit
set_option maxRecDepth 8000
theorem own : ownKnob Tryd.prog.godebug = none := by kernel_rfl
theorem laidOut : laidOutB Tryd.prog = true := by kernel_rfl
def tabName : String := Rows.linkOrderRow.named.headD Rows.linkOrderRow.func
theorem gTab : Tryd.prog.globalNamed tabName = some 0 := by kernel_rfl
theorem gTabType : (Tryd.prog.globals[0]?).map (·.type) = some 167 := by kernel_rfl
theorem cellsTab : Tryd.prog.cellsOf 167 = 16 := by kernel_rfl
theorem cellsU32 : Tryd.prog.cellsOf 154 = 1 := by kernel_rfl
theorem cells5 : Tryd.prog.cellsOf 5 = 1 := by kernel_rfl
theorem bytes5 : Tryd.prog.bytesOf 5 = 1 := by kernel_rfl
def tabInts : List Int := [0, 498536548, 997073096, 651767980, 1994146192, 1802195444, 1303535960, 1342533948, 3988292384, 4027552580, 3604390888, 3412177804, 2607071920, 2262029012, 2685067896, 3183342108]
theorem tabInts_at : ∀ i, i < 16 → tabInts.getD i 0 = (Crc.tabAt i : Nat) := by decide

/-- WHAT THE ROW's LIST GIVES: the table's cells hold its sixteen numbers. -/
theorem tab_of_laid {W : World} (h : laidMetH Tryd.prog [(tabName, Rows.laid_eddy_frame_halves)] W) : Tab W := by
  have ht : Lib.TabIs Tryd.prog W tabName .u32 tabInts :=
    Lib.tabIs_of_head (rest := []) gTab gTabType Tryd.underlying167 Tryd.underlying154 cellsU32 cellsTab h
  have hc : ∀ i, i < 16 → W.cell? ⟨0, i, none⟩ = some (.int .u32 (Crc.tabAt i : Nat)) := by
    intro i hi
    have := ht.cell gTab i (by simpa [tabInts] using hi)
    rw [tabInts_at i hi] at this
    exact this
  exact ⟨cell_lt (hc 0 (by omega)), hc⟩

/-- FOR THE WITNESS: a world, the table (block 0) holding what its initialiser lays. -/
def tabObj : Obj → Obj
  | .cells _ t frozen => .cells #[.int .u32 0, .int .u32 498536548, .int .u32 997073096, .int .u32 651767980, .int .u32 1994146192, .int .u32 1802195444, .int .u32 1303535960, .int .u32 1342533948, .int .u32 3988292384, .int .u32 4027552580, .int .u32 3604390888, .int .u32 3412177804, .int .u32 2607071920, .int .u32 2262029012, .int .u32 2685067896, .int .u32 3183342108] t frozen
  | o => o
def layTab (w : World) : World := { w with heap := w.heap.modify 0 tabObj }

theorem cellsI3 : Tryd.prog.cellsOf 3 = 1 := by kernel_rfl
theorem cellsU8 : Tryd.prog.cellsOf 5 = 1 := by kernel_rfl
theorem bytesU8 : Tryd.prog.bytesOf 5 = 1 := by kernel_rfl
theorem cellsB : Tryd.prog.cellsOf 36 = 1 := by kernel_rfl
theorem mem_weightsAll {H : Type} {P : Program} {e : TypeId} : ∀ {l : List (DataW H)} {d : DataW H} {n : Nat}, d ∈ l → n ∈ d.weights P e → n ∈ DataW.weightsAll P e l
  | [], _, _, h, _ => by cases h
  | x :: r, d, n, h, hn => by
    simp only [DataW.weightsAll, List.mem_append]
    rcases List.mem_cons.1 h with rfl | h
    · exact .inl hn
    · exact .inr (mem_weightsAll h hn)

/-- what stands in a row, opened out of an argument -/
def Opens {α : Type} (E : El α) : Prop :=
  ∀ (H : Type) (enc : TypeId × Value → H) (W : World) (fuel : Nat) (cs : List Value) (y : DataW H × List MemPlace),
    DataW.trod enc Tryd.prog W 0 (fun _ => true) true fuel E.ty cs = some y → (∀ n ∈ y.1.weights Tryd.prog E.ty, n ≤ reachBytes) → ∃ t : α, cs = E.cells t ∧ E.In W (fun b => b < W.heap.size) t

/-- a list of what can be opened -/
theorem open_list {α : Type} (x0 : α) (E : El α) (ty : TypeId) (B : Nat) (hu : Tryd.prog.underlying ty = some (.slice E.ty)) (hcz : Tryd.prog.cellsOf E.ty = E.size) (hz : 0 < E.size) (hby : Tryd.prog.bytesOf E.ty = B + 1) (hO : Opens E)
    {H : Type} {enc : TypeId × Value → H} {W : World} (fuel : Nat) (cs : List Value) (y : DataW H × List MemPlace)
    (g : DataW.trod enc Tryd.prog W 0 (fun _ => true) true fuel ty cs = some y) (hw : ∀ n ∈ y.1.weights Tryd.prog ty, n ≤ reachBytes) :
    ∃ l : LT α, cs = [.slice l.p l.n l.c] ∧ LT.In E W (fun b => b < W.heap.size) l := by
  rcases DataW.trod_slice hu g with ⟨hc, _⟩ | ⟨a, len, cap, elems, rest, m, hm, hc, hx, hb, hl, hcm, hel, hcell, hsp, _⟩
  · exact ⟨⟨none, 0, 0, fun _ => x0⟩, hc, LT.In.none_ E W _ none 0 _ (Nat.zero_le _) (fun _ => rfl)⟩
  · have hrest : rest.length = cap - len := (hsp rfl).1
    rw [hx] at hw
    simp only [DataW.weights, hu, List.mem_cons, List.mem_append, List.length_map] at hw
    have hcb : cap * (B + 1) ≤ reachBytes := by
      have := hw _ (.inl rfl)
      rw [hby] at this
      rw [hel, hrest, show len + (cap - len) = cap by omega] at this
      exact this
    unfold reachBytes at hcb
    have hcl : cap ≤ cap * (B + 1) := Nat.le_mul_of_pos_right _ (Nat.succ_pos _)
    have each : ∀ j, j < len → ∃ t : α, (∀ r u, (E.cells t)[r]? = some u → W.cell? (a.add (j * E.size + r)) = some u) ∧ E.In W (fun b => b < W.heap.size) t := by
      intro j hj
      have h1 := hcell j hj
      have hje : j < elems.length := by omega
      rw [List.getElem?_eq_getElem hje, hcz] at h1
      obtain ⟨cs', hcs, htr⟩ := Option.bind_eq_some_iff.1 h1
      obtain ⟨t, rfl, hin⟩ := hO H enc W m cs' elems[j] htr (fun q hq => hw q (.inr (.inl (mem_weightsAll (d := elems[j].1) (List.mem_map.2 ⟨elems[j], List.getElem_mem hje, rfl⟩) hq))))
      obtain ⟨_, hln, hcc⟩ := World.cells?_some hcs
      refine ⟨t, fun r u hu => ?_, hin⟩
      have hr : r < E.size := by
        rcases Nat.lt_or_ge r E.size with h1 | h1
        · exact h1
        · rw [List.getElem?_eq_none (by rw [E.len]; exact h1)] at hu; cases hu
      have := hcc r hr
      rw [Go.Deep.add_add] at this
      exact this.trans hu
    have : Inhabited α := ⟨x0⟩
    obtain ⟨F, hF⟩ := Go.Deep.choose_lt each
    refine ⟨⟨some a, len, cap, F⟩, hc, fun hp => ?_, fun j hj => (hF j hj).2, hl, by show len ≤ 140737488355328; omega, hcm, fun h => by cases h⟩
    have hp' : 0 < len := hp
    obtain ⟨b, o, spot⟩ := a
    have l0 : 0 < (E.cells (F 0)).length := by rw [E.len]; exact hz
    have f0 := (hF 0 hp').1 0 _ (List.getElem?_eq_getElem l0)
    have hspot : spot = none := by simpa [Addr.add] using World.cell?_spot f0
    subst hspot
    have hbl : b < W.heap.size := by have := cell_lt f0; simpa [Addr.add] using this
    refine ⟨b, o, rfl, hbl, hbl, fun j hj r u hu => ?_⟩
    have q0 := (hF j hj).1 r u hu
    rw [add_plain] at q0
    rw [show o + j * E.size + r = o + (j * E.size + r) by omega]
    exact q0

theorem bytes_fit {H : Type} {enc : TypeId × Value → H} {W : World} {fuel : Nat} {cs : List Value} {y : DataW H × List MemPlace}
    (g3 : DataW.trod enc Tryd.prog W 0 (fun _ => true) true fuel 36 cs = some y) (hw : ∀ n ∈ y.1.weights Tryd.prog 36, n ≤ reachBytes) :
    ∃ n p c f, cs = [.slice p n c] ∧ Byts W (fun b => b < W.heap.size) p n c f := by
  rcases DataW.trod_slice Tryd.underlying36 g3 with ⟨hc, _⟩ | ⟨a, len0, cap0, elems, rest, m, hm, hc, hx, hb, hl, hcm, hel, hcell, hsp, _⟩
  · exact ⟨0, none, 0, fun _ => 0, hc, fun h => absurd h (by omega), Nat.le_refl 0, by omega, Nat.zero_le _, fun j hj => absurd hj (by omega), fun _ => ⟨rfl, rfl⟩⟩
  · have hrest : rest.length = cap0 - len0 := (hsp rfl).1
    have hwi := hw
    rw [hx] at hwi
    simp only [DataW.weights, Tryd.underlying36, List.mem_cons, List.mem_append, List.length_map] at hwi
    have hcb : cap0 * 1 ≤ reachBytes := by
      have := hwi _ (.inl rfl)
      rw [bytesU8] at this
      rw [hel, hrest, show len0 + (cap0 - len0) = cap0 by omega] at this
      exact this
    unfold reachBytes at hcb
    have each : ∀ j, j < len0 → ∃ t : Int, W.cell? (a.add j) = some (.int .u8 t) ∧ 0 ≤ t ∧ t < 256 := by
      intro j hj
      have h1 := hcell j hj
      have hje : j < elems.length := by omega
      rw [List.getElem?_eq_getElem hje, cellsU8] at h1
      obtain ⟨cs', hcs, htr⟩ := Option.bind_eq_some_iff.1 h1
      obtain ⟨t, hk, _, wk⟩ := DataW.trod_int Tryd.underlying5 htr
      have bk := bounds_u8 wk
      subst hk
      obtain ⟨_, hln, hcc⟩ := World.cells?_some hcs
      refine ⟨t, ?_, by omega, by omega⟩
      have := hcc 0 (by omega)
      rw [Go.Deep.add_add, Nat.mul_one, Nat.add_zero] at this
      exact this
    obtain ⟨F, hF⟩ := Go.Deep.choose_lt each
    refine ⟨len0, some a, cap0, F, hc, fun hp => ?_, hl, by omega, hcm, fun j hj => (hF j hj).2, fun h => by cases h⟩
    obtain ⟨b, o, spot⟩ := a
    have f0 := (hF 0 hp).1
    have hspot : spot = none := by simpa [Addr.add] using World.cell?_spot f0
    subst hspot
    have hbl : b < W.heap.size := by have := cell_lt f0; simpa [Addr.add] using this
    refine ⟨b, o, rfl, hbl, hbl, fun j hj => ?_⟩
    have q0 := (hF j hj).1
    rw [add_plain] at q0
    exact q0
theorem bytesI3 : Tryd.prog.bytesOf 3 = 7 + 1 := by kernel_rfl
theorem cellsB4 : Tryd.prog.cellsOf 4 = 1 := by kernel_rfl
theorem cellsOp : Tryd.prog.cellsOf 46 = 5 := by kernel_rfl
theorem bytesOp : Tryd.prog.bytesOf 46 = 55 + 1 := by kernel_rfl
theorem opens_int : Opens elInt := fun H enc W fuel cs y g _ => by
  obtain ⟨k, hk, _, wk⟩ := DataW.trod_int Tryd.underlying3 g
  have bk := bounds_i64 wk
  exact ⟨k, hk, bk.1, bk.2⟩
theorem range_zs (n : Nat) (f : Nat → Int) (j : Nat) (hj : j < n) : ((List.range n).map f).getD j 0 = f j := by
  rw [List.getD_eq_getElem?_getD]; simp [hj]
theorem opens_opT : Opens elOpT := fun H enc W fuel cs y g hw => by
  obtain ⟨xs, n, rfl, rfl, hlen, hxl, hfs⟩ := DataW.trod_struct Tryd.underlying46 g
  have hlen : cs.length = 5 := hlen.trans cellsOp
  match xs, hxl with
  | [y0, y1, y2, y3, y4], _ =>
  match cs, hlen with
  | [v0, v1, v2, v3, v4], _ =>
  have g0 := hfs 0 _ rfl
  have g1 := hfs 1 _ rfl
  have g2 := hfs 2 _ rfl
  have g3 := hfs 3 _ rfl
  have g4 := hfs 4 _ rfl
  simp [cellsI3, cellsB4, cellsB] at g0 g1 g2 g3 g4
  have w4 : ∀ m ∈ y4.1.weights Tryd.prog 36, m ≤ reachBytes := fun m hm => hw m (by
    show m ∈ DataW.weights Tryd.prog 46 _
    simp only [DataW.weights, Tryd.underlying46, List.map, DataW.weightsEach, List.mem_append]
    exact .inr (.inr (.inr (.inr (.inl hm)))))
  obtain ⟨k0, hk0, _, wk0⟩ := DataW.trod_int Tryd.underlying3 g0
  obtain ⟨k1, hk1, _⟩ := DataW.trod_bool Tryd.underlying4 g1
  obtain ⟨k2, hk2, _, wk2⟩ := DataW.trod_int Tryd.underlying3 g2
  obtain ⟨k3, hk3, _, wk3⟩ := DataW.trod_int Tryd.underlying3 g3
  obtain ⟨n, p, c, f, hb, hI⟩ := bytes_fit g4 w4
  have b0 := bounds_i64 wk0
  have b2 := bounds_i64 wk2
  have b3 := bounds_i64 wk3
  simp only [List.cons.injEq, and_true] at hk0 hk1 hk2 hk3 hb
  subst hk0 hk1 hk2 hk3 hb
  have hl : ((List.range n).map f).length = n := by simp
  refine ⟨⟨k0, k1, k2, k3, ⟨p, c, (List.range n).map f⟩⟩, by show _ = [_, _, _, _, Value.slice p ((List.range n).map f).length c]; rw [hl], ⟨?_, ⟨b0.1, b0.2⟩, ⟨b2.1, b2.2⟩, ⟨b3.1, b3.2⟩⟩⟩
  show Byts W _ p ((List.range n).map f).length c _
  rw [hl]
  refine ⟨fun h => ?_, hI.nc, hI.nn, hI.cc, fun j hj => ?_, hI.nil⟩
  · obtain ⟨b, o, e1, e2, e3, e4⟩ := hI.at_ h
    exact ⟨b, o, e1, e2, e3, fun j hj => by dsimp only; rw [range_zs n f j hj]; exact e4 j hj⟩
  · dsimp only
    rw [range_zs n f j hj]; exact hI.fit j hj
/-- WHAT A SCRIPT THAT CAME IN IS -/
theorem open_opsT {H : Type} {enc : TypeId × Value → H} {W : World} {base : Nat} {v : Value} {d : DataW H} {p : List MemPlace}
    (hv : Value.okWide Tryd.prog W .any base 22 v) (hd : DataW.Trod enc Tryd.prog W 0 (fun _ => true) true 22 v d p) (hw : ∀ n ∈ d.weights Tryd.prog 22, n ≤ reachBytes) :
    ∃ l : LT OpT, v = .slice l.p l.n l.c ∧ LT.In elOpT W (fun b => b < W.heap.size) l := by
  obtain ⟨a0, len0, cap0, rfl⟩ := okWide_slice Tryd.underlying22 hv
  obtain ⟨fuel, hf⟩ := hd
  obtain ⟨l, hc, hl⟩ := open_list ⟨0, false, 0, 0, ⟨none, 0, []⟩⟩ elOpT 22 55 Tryd.underlying22 cellsOp (by decide) bytesOp opens_opT fuel _ (d, p) hf hw
  exact ⟨l, by simpa [Value.cells] using hc, hl⟩
/-- WHAT A LIST OF NUMBERS THAT CAME IN IS -/
theorem open_intsT {H : Type} {enc : TypeId × Value → H} {W : World} {base : Nat} {v : Value} {d : DataW H} {p : List MemPlace}
    (hv : Value.okWide Tryd.prog W .any base 32 v) (hd : DataW.Trod enc Tryd.prog W 0 (fun _ => true) true 32 v d p) (hw : ∀ n ∈ d.weights Tryd.prog 32, n ≤ reachBytes) :
    ∃ l : LT Int, v = .slice l.p l.n l.c ∧ LT.In elInt W (fun b => b < W.heap.size) l := by
  obtain ⟨a0, len0, cap0, rfl⟩ := okWide_slice Tryd.underlying32 hv
  obtain ⟨fuel, hf⟩ := hd
  obtain ⟨l, hc, hl⟩ := open_list (0 : Int) elInt 32 7 Tryd.underlying32 cellsI3 (by decide) bytesI3 opens_int fuel _ (d, p) hf hw
  exact ⟨l, by simpa [Value.cells] using hc, hl⟩
end Go.Proofs.YtgnamngnmbaeeaaDoor

namespace Go.Proofs.YtgnamngnmbaeeaaDoor
open Go.RowKit
set_option maxRecDepth 8000
/-- the line behind some steps -/
structure PX (w : World) (C : Nat → Nat) (c lb : Nat) (S : LS) (k : Nat) (w' : World) (C' : Nat → Nat) (S' : LS) : Prop where
  inv : Inv S'
  grw : Grw S S' k
  li : LI w' C' c lb S'
  old : ∀ j, j < w.heap.size → C' j = C j
  new : ∀ j, w.heap.size ≤ j → In8 C' c j
  but : But (In7 C c) w w'
theorem PX.refl {w : World} {C : Nat → Nat} {c lb : Nat} {S : LS} (h : LI w C c lb S) (hn : ∀ k, w.heap.size ≤ k → In8 C c k) (hi : Inv S) : PX w C c lb S 0 w C S := ⟨hi, Grw.refl S, h, fun _ _ => rfl, hn, But.refl _ _⟩
theorem PX.newc {w w' : World} {C C' : Nat → Nat} {c lb k : Nat} {S S' : LS} (h : PX w C c lb S k w' C' S') : ∀ j, w'.heap.size ≤ j → In8 C' c j := fun j hj => h.new j (Nat.le_trans h.but.size hj)
theorem PX.on {w w1 w2 : World} {C C1 : Nat → Nat} {c lb k j : Nat} {S S1 S2 : LS} (h : PX w C c lb S k w1 C1 S1) (hq : LQ w1 C1 c lb S2 w2) (hi : Inv S2) (hg : Grw S1 S2 j) : ∃ C2, PX w C c lb S (k + j) w2 C2 S2 := by
  obtain ⟨C2, h1, h2, h3, h4⟩ := LQ.step h.old h.new h.but hq
  exact ⟨C2, hi, h.grw.trans hg, h1, h2, h3, h4⟩
theorem PX.tab {w w' : World} {C C' : Nat → Nat} {c lb k : Nat} {S S' : LS} (h : PX w C c lb S k w' C' S') (hT : Tab w) (hO : Out8 C c) : Tab w' := tab_line hT hO h.but
theorem PX.out {w w' : World} {C C' : Nat → Nat} {c lb k : Nat} {S S' : LS} (h : PX w C c lb S k w' C' S') (hT : Tab w) (hO : Out8 C c) : Out8 C' c := hO.line hT h.old
theorem PX.cell {w w' : World} {C C' : Nat → Nat} {c lb k : Nat} {S S' : LS} (h : PX w C c lb S k w' C' S') {b o : Nat} {v : Value} (hb : b < w.heap.size) (hn : ¬ In8 C c b) (hv : w.cell? ⟨b, o, none⟩ = some v) : w'.cell? ⟨b, o, none⟩ = some v :=
  (World.cell?_of_block (a := ⟨b, o, none⟩) (h.but.block b hb fun e => hn e.in8)).trans hv
theorem stSz {S S' : LS} {k n : Nat} (h : Grw S S' k) (hk : k ≤ n) (hp : S.P.length + n + 2 ≤ 1073741824) (hw : S.ws.length + n + 2 ≤ 1073741824) : S'.P.length + 2 ≤ 1073741824 - (n - k) ∧ S'.ws.length + 2 ≤ 1073741824 - (n - k) := by
  have := h.p
  have := h.w
  omega
set_option maxHeartbeats 16000000 in
theorem plays_any (w : World) (C : Nat → Nat) (c lb : Nat) (S : LS) (h : LI w C c lb S) (hn : ∀ k, w.heap.size ≤ k → In8 C c k) (hT : Tab w) (hO : Out8 C c) (hI : Inv S) (s : LT OpT) (hs : LT.In elOpT w (fun k => ¬ In8 C c k) s)
    (hp : S.P.length + s.n + 2 ≤ 1073741824) (hw : S.ws.length + s.n + 2 ≤ 1073741824) :
    Calls Tryd.prog 8 #[.pointer (some ⟨lb, 0, none⟩), .slice s.p s.n s.c] w fun e w' => e = .returned (.bool true) ∧ ∃ C' S', PX w C c lb S s.n w' C' S' ∧ S'.gv + 1 = S'.R.wt := by
  have H0 := hid (PX.refl h hn hI)
  have HT := hid hT
  have HO := hid hO
  have HS := hid hs
  have HPW := hid (And.intro hp hw)
  have hnn := hs.nn
  clear h hn hT hO hI hs hp hw
  go_enter Tryd.func8, Tryd.ntmps8
  go_wp2_with fail
  go_loopw [5] (fun x wr => ∃ i : Nat, i ≤ s.n ∧ x = .int .i64 (i : Int) ∧ ∃ C' S', PX w C c lb S i wr C' S') (fun x _ => s.n - (intOf x).toNat)
  case atStart => exact ⟨0, Nat.zero_le _, rfl, C, S, H0.out⟩
  case round =>
    obtain ⟨i, hi, rfl, C1, S1, hX⟩ := hrel
    have HX := hid hX
    have hsz := stSz hX.grw hi HPW.out.1 HPW.out.2
    by_cases hlt : i < s.n
    · as_aux_lemma =>
      have hlt' : (i : Int) < (s.n : Int) := by omega
      obtain ⟨bb, o, hpp, hbb, hSb, d0, d1, d2, d3, d4⟩ := HS.out.opc hlt
      rw [hpp]
      have c0 := hX.cell hbb hSb d0
      have c1 := hX.cell hbb hSb d1
      have c2 := hX.cell hbb hSb d2
      have c3 := hX.cell hbb hSb d3
      have c4 := hX.cell hbb hSb d4
      have hoi : OpT.In wr (fun k => ¬ In8 C1 c k) (s.item i) := (HS.out.line hX.but hX.old).each i hlt
      obtain ⟨op, hop⟩ : ∃ op, op = s.item i := ⟨_, rfl⟩
      rw [← hop] at c0 c1 c2 c3 c4 hoi d0
      have HSt := hid (step_any wr C1 c lb S1 hX.li hX.newc (hX.tab HT.out HO.out) (hX.out HT.out HO.out) hX.inv (by omega) (by omega) op hoi)
      have HOi := hid hoi.b.byte
      have HSz := hid hsz
      obtain ⟨kd, s2, oi, bit, ⟨bp, bc, bz⟩⟩ := op
      dsimp only [BS.val] at c0 c1 c2 c3 c4 d0
      unfold OpT.val at HSt
      dsimp only [BS.val] at HSt
      have HD0 := hid (And.intro hbb (And.intro hSb d0))
      clear hX hsz hoi hop hpp d0 d1 d2 d3 d4 hbb hSb
      go_wp2_with fail
      refine HSt.out.mono ?_
      rintro e w2 ⟨rfl, hq⟩
      obtain ⟨C2, hX2⟩ := HX.out.on hq (HX.out.inv.stS (by have := HSz.out; omega) _ HOi.out) (stS_grw _ _)
      obtain ⟨S2, hS2⟩ : ∃ S2, S2 = stS S1 ⟨kd, s2, oi, bit, ⟨bp, bc, bz⟩⟩ := ⟨_, rfl⟩
      rw [← hS2] at hX2
      have c0' := hX2.cell HD0.out.1 HD0.out.2.1 HD0.out.2.2
      have HX2 := hid hX2
      have hsz2 := stSz hX2.grw hlt HPW.out.1 HPW.out.2
      have HLk := hid (looks_any w2 C2 c lb S2 hX2.li hX2.newc (hX2.inv.lk (by omega) (by omega)))
      clear hX2 hq hS2 HSt c0 c1 c2 c3 c4 hsz2
      by_cases h4 : kd = 4
      · as_aux_lemma =>
        subst h4
        go_wp2_with fail
        refine HLk.out.mono ?_
        rintro e w3 ⟨rfl, hq⟩
        obtain ⟨C3, hX3⟩ := HX2.out.on hq HX2.out.inv.look (stLook_grw _)
        have HX3 := hid hX3
        clear hX3 hq c0'
        go_wp2_with fail
        go_roundw
        case rel => exact ⟨i + 1, by omega, by go_num, C3, _, HX3.out⟩
        case measure => simp [intOf]; omega
      · by_cases h3 : kd = 3
        · as_aux_lemma =>
          subst h3
          clear h4
          go_wp2_with fail
          refine HLk.out.mono ?_
          rintro e w3 ⟨rfl, hq⟩
          obtain ⟨C3, hX3⟩ := HX2.out.on hq HX2.out.inv.look (stLook_grw _)
          have HX3 := hid hX3
          clear hX3 hq c0'
          go_wp2_with fail
          go_roundw
          case rel => exact ⟨i + 1, by omega, by go_num, C3, _, HX3.out⟩
          case measure => simp [intOf]; omega
        · as_aux_lemma =>
          have hb4 : (kd == 4) = false := by simpa using h4
          have hb3 : (kd == 3) = false := by simpa using h3
          clear h4 h3 HLk
          go_wp2_with fail
          go_roundw
          case rel => exact ⟨i + 1, by omega, by go_num, C2, S2, HX2.out⟩
          case measure => simp [intOf]; omega
    · as_aux_lemma =>
      obtain rfl : i = s.n := by omega
      have HLk := hid (looks_any wr C1 c lb S1 hX.li hX.newc (hX.inv.lk (by omega) (by omega)))
      clear hX hsz hlt
      go_wp2_with fail
      refine HLk.out.mono ?_
      rintro e w3 ⟨rfl, hq⟩
      obtain ⟨C3, hX3⟩ := HX.out.on hq HX.out.inv.look (stLook_grw _)
      have HX3 := hid hX3
      clear hX3 hq HLk
      go_wp2
      refine bodyPost_ret (v := .bool true) (by simp [results, Tryd.results8, go_sem]) rfl ⟨rfl, C3, _, HX3.out, ?_⟩
      have h1 := HX3.out.inv.gv
      have h2 : (stLook S1).R.rd.length = 0 := by show (S1.R.rd.drop S1.R.rd.length).length = 0; rw [List.length_drop]; omega
      omega
end Go.Proofs.YtgnamngnmbaeeaaDoor
