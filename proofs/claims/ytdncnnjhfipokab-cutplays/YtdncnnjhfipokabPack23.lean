import Derived.Test.YtdncnnjhfipokabKrE
namespace Go.Proofs.Ytdncnnjhfipokab
open Go.RowKit
set_option maxRecDepth 8000
def Rb.recs (R : Rb) (p c : Int) : Nat → List RT
  | 0 => []
  | k + 1 => R.recs p c k ++ (if c < (k : Int) ∧ (R.ls.item k).mark = 0 ∧ (R.ls.item k).port = p then [(R.ls.item k).r] else [])
def LT.toL {α : Type} (l : LT α) : List α := (List.range l.n).map l.item
def Rb.logL (R : Rb) (p : Int) : List RT := R.recs p R.cp (R.cl p).toNat ++ (if R.mode = 3 then (R.ls.item (R.cl p).toNat).a.toL else [])
def rowsL (L : List RT) : List Value := L.flatMap elRec.cells
theorem Rb.recs_le {R : Rb} {p c : Int} : ∀ {k : Nat}, (k : Int) ≤ c + 1 → R.recs p c k = []
  | 0, _ => rfl
  | k + 1, h => by
    simp only [Rb.recs]
    rw [Rb.recs_le (k := k) (by omega), if_neg (by omega)]
    rfl
theorem Rb.recs_len {R : Rb} {p c : Int} : ∀ {k : Nat}, (R.recs p c k).length ≤ k
  | 0 => Nat.le_refl _
  | k + 1 => by
    have := Rb.recs_len (R := R) (p := p) (c := c) (k := k)
    simp only [Rb.recs, List.length_append]
    split <;> simp <;> omega
theorem Rb.cpg_lt {R : Rb} (h : 0 < R.ls.n) : ∀ k : Nat, R.cpg k < (R.ls.n : Int)
  | 0 => by simp only [Rb.cpg]; omega
  | k + 1 => by
    have h1 := Rb.cpg_lt h k
    simp only [Rb.cpg]
    rcases R.cl_range (k : Int) with h2 | h2
    · split
      · exact h1
      · split
        · omega
        · rw [if_pos (by omega)]; omega
    · split
      · exact h1
      · split
        · omega
        · split <;> omega
theorem Rb.cp_lt (R : Rb) (h : 0 < R.ls.n) : R.cp < (R.ls.n : Int) := by
  unfold Rb.cp
  split
  · omega
  · split
    · omega
    · exact Rb.cpg_lt h _
theorem rowsL_toL (l : LT RT) : rowsL l.toL = rowsR l := by
  unfold rowsL rowsR LT.toL
  rw [List.flatMap_map]
set_option maxHeartbeats 4000000 in
theorem rlog_any (p : Int) (w : World) (S : Nat → Prop) (rb : Nat) (R : Rb) (hI : RbI w rb R) (hn : R.ls.n ≤ 10000) (hp : 0 ≤ R.ports) (hp4 : R.ports ≤ 4) (hc : 0 ≤ R.cp) (hl : 0 ≤ R.cl p) (hin : ∀ j, j < R.ls.n → TD.In w S (R.ls.item j)) (ha : ∀ j, j < R.ls.n → (R.ls.item j).a.n ≤ 10000) :
    Calls Try.prog 48 #[.pointer (some ⟨rb, 0, none⟩), .int .i64 p] w fun e w' => ∃ v, e = .returned v ∧ w'.ownsRow w.heap.size 38 6 v (R.logL p).length (rowsL (R.logL p)) ∧ Below w.heap.size w w' := by
  obtain ⟨i0, Kd⟩ := kindRs
  have HKd := hid Kd
  have HI := hid hI
  have HL := hid (hI.list (by omega))
  obtain ⟨C, hC⟩ : ∃ C : Nat, R.cp = (C : Int) := ⟨R.cp.toNat, by omega⟩
  obtain ⟨T, hT⟩ : ∃ T : Nat, R.cl p = (T : Int) := ⟨(R.cl p).toNat, by omega⟩
  have hTn : T < R.ls.n := by rcases R.cl_range p with h | h <;> omega
  have hCr : C < 4611686018427387904 := by have := R.cp_lt (by omega); omega
  have HE : Hid (R.logL p = R.recs p (C : Int) T ++ (if R.mode = 3 then (R.ls.item T).a.toL else [])) := by
    unfold Hid Rb.logL
    rw [hC, hT]
    rfl
  have HC := hid (copied_any w rb R hI (by omega) hp hp4)
  have HIn := hid hin
  have HAn := hid ha
  clear hI Kd hin ha hc hl
  go_enter Try.func48, Try.ntmps48
  go_wp2_with (first | (go_at_call 41; refine HC.out.mono ?_; rintro e w1 ⟨rfl, hb1⟩; rw [hC]) | (go_at_call 40; refine (closed_any p _ rb R (HI.out.below hb1) (by omega)).mono ?_; rintro e w2 ⟨rfl, hb2⟩; rw [hT]))
  have HB2 := hid (hb1.trans (hb2.mono hb1.size))
  clear hb1 hb2 HC hC hT
  go_wp2_with fail
  go_loopw [5, 8] (fun v x wr => ∃ k : Nat, x = .int .i64 (k : Int) ∧ C + 1 ≤ k ∧ (k ≤ T ∨ k = C + 1) ∧ wr.ownsRow w.heap.size 38 6 v (R.recs p (C : Int) k).length (rowsL (R.recs p (C : Int) k)) ∧ Below w.heap.size w wr) (fun _ x _ => T - (intOf x).toNat)
  case atStart => exact ⟨C + 1, by go_num, Nat.le_refl _, .inr rfl, by rw [Rb.recs_le (by omega)]; exact World.ownsRow_nil _ _ _ _, HB2.out⟩
  case round =>
    obtain ⟨k, rfl, hk1, hk2, hO, hbel⟩ := hrel
    have HO := hid hO
    have HB := hid hbel
    have hI2 := HI.out.below hbel
    have c4 := hI2.box.cell 4
    have c0 := hI2.box.cell 0
    have hbl := hI2.box.lt
    simp [Rb.arr] at c4 c0
    clear hO hI2 HB2
    by_cases hlt : k < T
    · have hlt' : (k : Int) < (T : Int) := by omega
      have hkn : k < R.ls.n := by omega
      have hkn' : (k : Int) < (R.ls.n : Int) := by omega
      obtain ⟨gb, o, hgp, _, hgl, hat⟩ := (HL.out.below hbel).at_ (by omega)
      have t0 : wr.cell? ⟨gb, o + k * 12, none⟩ = some (.int .i64 (R.ls.item k).port) := hat k hkn 0 _ rfl
      have t1 : wr.cell? ⟨gb, o + k * 12 + 1, none⟩ = some (.int .i64 (R.ls.item k).mark) := hat k hkn 1 _ rfl
      have t2 : wr.cell? ⟨gb, o + k * 12 + 2, none⟩ = some (.string (R.ls.item k).r.key) := hat k hkn 2 _ rfl
      have t3 : wr.cell? ⟨gb, o + k * 12 + 3, none⟩ = some (.int .i64 (R.ls.item k).r.v.kind) := hat k hkn 3 _ rfl
      have t4 : wr.cell? ⟨gb, o + k * 12 + 4, none⟩ = some (.int .i64 (R.ls.item k).r.v.int) := hat k hkn 4 _ rfl
      have t5 : wr.cell? ⟨gb, o + k * 12 + 5, none⟩ = some (.string (R.ls.item k).r.v.text) := hat k hkn 5 _ rfl
      have t6 : wr.cell? ⟨gb, o + k * 12 + 6, none⟩ = some (.slice (R.ls.item k).r.v.p (R.ls.item k).r.v.n (R.ls.item k).r.v.c) := hat k hkn 6 _ rfl
      have t7 : wr.cell? ⟨gb, o + k * 12 + 7, none⟩ = some (.slice (R.ls.item k).r.p (R.ls.item k).r.n (R.ls.item k).r.c) := hat k hkn 7 _ rfl
      rw [hgp] at c4
      clear hat hgp hbel
      by_cases hm : (R.ls.item k).mark = 0
      rotate_left
      · have hm' : ((R.ls.item k).mark == 0) = false := by simp [hm]
        have HR : Hid (R.recs p (C : Int) (k + 1) = R.recs p (C : Int) k) := by unfold Hid; simp only [Rb.recs]; rw [if_neg (fun h => hm h.2.1)]; simp
        clear hm
        go_wp2
        go_roundw
        case rel => exact ⟨k + 1, by go_num, by omega, .inl (by omega), by rw [HR.out]; exact HO.out, HB.out⟩
        case measure => simp [intOf]; omega
      by_cases hq : (R.ls.item k).port = p
      rotate_left
      · have hq' : ((R.ls.item k).port == p) = false := by simp [hq]
        have HR : Hid (R.recs p (C : Int) (k + 1) = R.recs p (C : Int) k) := by unfold Hid; simp only [Rb.recs]; rw [if_neg (fun h => hq h.2.2)]; simp
        rw [hm] at t1
        clear hm hq
        go_wp2
        go_roundw
        case rel => exact ⟨k + 1, by go_num, by omega, .inl (by omega), by rw [HR.out]; exact HO.out, HB.out⟩
        case measure => simp [intOf]; omega
      have HR : Hid (R.recs p (C : Int) (k + 1) = R.recs p (C : Int) k ++ [(R.ls.item k).r]) := by unfold Hid; simp only [Rb.recs]; rw [if_pos ⟨by omega, hm, hq⟩]
      have hq' : ((R.ls.item k).port == p) = true := by simp [hq]
      rw [hm] at t1
      clear hm hq
      have hlen := Rb.recs_len (R := R) (p := p) (c := (C : Int)) (k := k)
      have HNw : Hid (∀ j u', (elRec.cells (R.ls.item k).r)[j]? = some u' → (wr.alloc (.cells #[.string (R.ls.item k).r.key, .int .i64 (R.ls.item k).r.v.kind, .int .i64 (R.ls.item k).r.v.int, .string (R.ls.item k).r.v.text, .slice (R.ls.item k).r.v.p (R.ls.item k).r.v.n (R.ls.item k).r.v.c, .slice (R.ls.item k).r.p (R.ls.item k).r.n (R.ls.item k).r.c] 38)).cell? ((⟨wr.heap.size, 0, none⟩ : Addr).add j) = some u') := fun j u' hu => by
        rw [Go.WideShapes.add_plain, (Box.new wr #[.string (R.ls.item k).r.key, .int .i64 (R.ls.item k).r.v.kind, .int .i64 (R.ls.item k).r.v.int, .string (R.ls.item k).r.v.text, .slice (R.ls.item k).r.v.p (R.ls.item k).r.v.n (R.ls.item k).r.v.c, .slice (R.ls.item k).r.p (R.ls.item k).r.n (R.ls.item k).r.c] 38).cell]
        rw [show 0 + j = j by omega]
        simpa [elRec, RT.cells] using hu
      have hsz : w.heap.size ≤ wr.heap.size := HB.out.size
      go_wp2_with (at_builtin; refine wpList_app rfl (.tmp 42) (.tmp 51) 39 38 i0 _ 6 96 HKd.out rfl w.heap.size u5 (R.recs p (C : Int) k).length _ rfl (HO.out.alloc _) ⟨wr.heap.size, 0, none⟩ 1 1 (elRec.cells (R.ls.item k).r) rfl rfl HNw.out (elRec.one _) (by omega) (by omega) (by simp; omega) ?_)
      intro v3 w3 ho3 hg3 hn3
      have HO3 : Hid (w3.ownsRow w.heap.size 38 6 v3 (R.recs p (C : Int) (k + 1)).length (rowsL (R.recs p (C : Int) (k + 1)))) := by
        unfold Hid
        rw [HR.out]
        simpa [rowsL] using ho3
      have HB3 : Hid (Below w.heap.size w w3) := (HB.out.trans (((Below.refl wr.heap.size wr).alloc (Nat.le_refl _) _).mono hsz)).grown hg3 (by simp; omega) (fun k hk => (HO.out.lt k hk).1)
      clear ho3 hg3 hn3 HNw
      go_wp2
      go_roundw
      case rel => exact ⟨k + 1, by go_num, by omega, .inl (by omega), HO3.out, HB3.out⟩
      case measure => simp [intOf]; omega
    · have hlt' : ¬ (k : Int) < (T : Int) := by omega
      have HR : Hid (R.recs p (C : Int) k = R.recs p (C : Int) T) := by
        unfold Hid
        rcases hk2 with h | h
        · rw [show k = T by omega]
        · rw [Rb.recs_le (k := k) (by omega), Rb.recs_le (k := T) (by omega)]
      rw [HR.out] at HO
      by_cases h3 : R.mode = 3
      rotate_left
      · have h3' : (R.mode == 3) = false := by simp [h3]
        have HE2 : Hid (R.logL p = R.recs p (C : Int) T) := by unfold Hid; rw [HE.out, if_neg h3]; simp
        clear h3 hbel
        go_wp2
        refine bodyPost_ret (v := u5) (by simp [results, Try.results48, go_sem]) rfl ⟨u5, rfl, by rw [HE2.out]; exact HO.out, HB.out⟩
      have HE2 : Hid (R.logL p = R.recs p (C : Int) T ++ (R.ls.item T).a.toL) := by unfold Hid; rw [HE.out, if_pos h3]
      rw [h3] at c0
      clear h3
      obtain ⟨gb, o, hgp, _, hgl, hat⟩ := (HL.out.below hbel).at_ (by omega)
      have t8 : wr.cell? ⟨gb, o + T * 12 + 8, none⟩ = some (.slice (R.ls.item T).a.p (R.ls.item T).a.n (R.ls.item T).a.c) := hat T hTn 8 _ rfl
      rw [hgp] at c4
      have HSr := hid ((LT.In.below (HIn.out T hTn).a hbel).src)
      have hlen := Rb.recs_len (R := R) (p := p) (c := (C : Int)) (k := T)
      have han := HAn.out T hTn
      have hsz : w.heap.size ≤ wr.heap.size := HB.out.size
      have hTn' : (T : Int) < (R.ls.n : Int) := by omega
      clear hat hgp hbel
      go_wp2_with (at_builtin; refine wpList_appS rfl (.tmp 58) (.tmp 66) 39 38 i0 _ 6 96 HKd.out rfl w.heap.size u5 (R.recs p (C : Int) T).length _ rfl HO.out (R.ls.item T).a.p (R.ls.item T).a.n (R.ls.item T).a.c (rowsR (R.ls.item T).a) rfl HSr.out (fun u hu => by obtain ⟨j, _, hj⟩ := List.mem_flatMap.1 hu; exact elRec.one _ u hj) (by omega) (by omega) (by omega) ?_)
      intro v3 w3 ho3 hg3 hn3
      have HO3 : Hid (w3.ownsRow w.heap.size 38 6 v3 (R.logL p).length (rowsL (R.logL p))) := by
        unfold Hid
        rw [HE2.out]
        have e : rowsL (R.recs p (C : Int) T ++ (R.ls.item T).a.toL) = rowsL (R.recs p (C : Int) T) ++ rowsR (R.ls.item T).a := by
          rw [← rowsL_toL]; unfold rowsL; rw [List.flatMap_append]
        rw [e, List.length_append, show (R.ls.item T).a.toL.length = (R.ls.item T).a.n by simp [LT.toL]]
        exact ho3
      have HB3 : Hid (Below w.heap.size w w3) := HB.out.grown hg3 hsz (fun k hk => (HO.out.lt k hk).1)
      clear ho3 hg3 hn3
      go_wp2
      refine bodyPost_ret (v := v3) (by simp [results, Try.results48, go_sem]) rfl ⟨v3, rfl, HO3.out, HB3.out⟩
end Go.Proofs.Ytdncnnjhfipokab

namespace Go.Proofs.Ytdncnnjhfipokab
open Go.RowKit
set_option maxRecDepth 8000
theorem VT.Alike.total : ∀ {t u : VT}, VT.Alike t u → u.total = t.total := by
  intro t
  induction t with
  | nil => intro u h; have h : u = .nil := h; rw [h]
  | mk k i s n p c f ih =>
    intro u h
    have hn : u.n = n := h.n
    rw [VT.total_eq u, hn]
    show n + _ = n + _
    congr 1
    congr 1
    apply List.map_congr_left
    intro j hj
    exact ih j (h.item (List.mem_range.1 hj))
theorem RT.Alike.size {r u : RT} (h : RT.Alike r u) : u.size = r.size := by
  unfold RT.size
  rw [h.n, h.v.total]
theorem SzR.alk {l u : LT RT} (h : SzR l) (k : LT.Alk RT.Alike l u) : SzR u :=
  ⟨by rw [k.n]; exact h.n, fun j hj => by rw [(k.item j (by rw [← k.n]; exact hj)).size]; exact h.item j (by rw [← k.n]; exact hj)⟩
theorem SzC.alk {l u : LT VT} (h : SzC l) (k : LT.Alk VT.Alike l u) : SzC u :=
  ⟨by rw [k.n]; exact h.n, fun j hj => by rw [(k.item j (by rw [← k.n]; exact hj)).total]; exact h.item j (by rw [← k.n]; exact hj)⟩
structure TdSz (t : TD) : Prop where
  r : t.mark = 0 → t.r.size ≤ 10000
  a : SzR t.a
  l : SzC t.l
  q : SzR t.q
theorem Rb.recs_mem {R : Rb} {p c : Int} {P : RT → Prop} : ∀ {k : Nat}, (∀ j, j < k → (R.ls.item j).mark = 0 → P (R.ls.item j).r) → ∀ u, u ∈ R.recs p c k → P u
  | 0, _, u, hu => by simp [Rb.recs] at hu
  | k + 1, h, u, hu => by
    simp only [Rb.recs, List.mem_append] at hu
    rcases hu with hu | hu
    · exact Rb.recs_mem (k := k) (fun j hj => h j (by omega)) u hu
    · split at hu
      · rename_i e
        simp only [List.mem_singleton] at hu
        rw [hu]; exact h k (by omega) e.2.1
      · simp at hu
theorem Rb.log_mem {R : Rb} {p : Int} {P : RT → Prop} (hl : 0 ≤ R.cl p) (h : ∀ j, j < R.ls.n → (R.ls.item j).mark = 0 → P (R.ls.item j).r) (ha : ∀ j, j < R.ls.n → ∀ i, i < (R.ls.item j).a.n → P ((R.ls.item j).a.item i)) : ∀ u, u ∈ R.logL p → P u := by
  intro u hu
  have ht : (R.cl p).toNat < R.ls.n := by rcases R.cl_range p with h | h <;> omega
  unfold Rb.logL at hu
  rw [List.mem_append] at hu
  rcases hu with hu | hu
  · exact Rb.recs_mem (fun j hj => h j (by omega)) u hu
  · split at hu
    · unfold LT.toL at hu
      obtain ⟨i, hi, rfl⟩ := List.mem_map.1 hu
      exact ha _ ht i (List.mem_range.1 hi)
    · simp at hu
theorem Rb.log_len {R : Rb} {p : Int} (hl : 0 ≤ R.cl p) (hn : R.ls.n ≤ 10000) (ha : ∀ j, j < R.ls.n → (R.ls.item j).a.n ≤ 10000) : (R.logL p).length ≤ 20000 := by
  have ht : (R.cl p).toNat < R.ls.n := by rcases R.cl_range p with h | h <;> omega
  have h1 := Rb.recs_len (R := R) (p := p) (c := R.cp) (k := (R.cl p).toNat)
  have h2 := ha _ ht
  unfold Rb.logL
  rw [List.length_append]
  split
  · simp only [LT.toL, List.length_map, List.length_range]; omega
  · simp; omega
/-- a list as it stands in memory -/
def ofL (L : List RT) (p : Option Addr) (c : Nat) : LT RT := ⟨p, L.length, c, fun j => L.getD j rt0⟩
theorem ofL_rows (L : List RT) (p : Option Addr) (c : Nat) : rowsL L = (List.range (ofL L p c).n).flatMap fun j => elRec.cells ((ofL L p c).item j) := by
  unfold rowsL ofL
  simp only
  conv => lhs; rw [show L = (List.range L.length).map (fun j => L.getD j rt0) from by
    apply List.ext_getElem
    · simp
    · intro i h1 h2
      simp [List.getD_eq_getElem?_getD, List.getElem?_eq_getElem h1]]
  rw [List.flatMap_map]
theorem ofL_in {w : World} {base : Nat} {L : List RT} {p : Option Addr} {c : Nat} {S : Nat → Prop} (ho : w.ownsRow base 38 6 (.slice p L.length c) L.length (rowsL L)) (hS : ∀ k, base ≤ k → S k) (each : ∀ u, u ∈ L → RT.In w S u) (hn : L.length ≤ 20000) : LT.In elRec w S (ofL L p c) := by
  rw [ofL_rows L p c] at ho
  refine own_in' (E := elRec) (l := ofL L p c) ho (fun k hk => hS k (ho.lt k hk).1) (fun j hj => ?_) (by show L.length ≤ _; omega)
  have hj' : j < L.length := hj
  refine each _ ?_
  show L.getD j rt0 ∈ L
  rw [List.getD_eq_getElem?_getD, List.getElem?_eq_getElem hj']
  exact List.getElem_mem hj'
theorem ofL_size {L : List RT} {p : Option Addr} {c : Nat} (h : ∀ u, u ∈ L → u.size ≤ 10000) : ∀ j, j < (ofL L p c).n → ((ofL L p c).item j).size ≤ 10000 := fun j hj => by
  have hj' : j < L.length := hj
  refine h _ ?_
  show L.getD j rt0 ∈ L
  rw [List.getD_eq_getElem?_getD, List.getElem?_eq_getElem hj']
  exact List.getElem_mem hj'
set_option maxHeartbeats 4000000 in
theorem r_copyRw (l : LT RT) (w : World) (S : Nat → Prop) (hin : LT.In elRec w S l) (hn1 : l.n ≤ 1000000) (hs : ∀ j, j < l.n → (l.item j).size ≤ 10000) :
    Calls Try.prog 42 #[.slice l.p l.n l.c] w fun e w' => ∃ u : LT RT, e = .returned (.slice u.p u.n u.c) ∧ LT.Alk RT.Alike l u ∧ LT.In elRec w' (fun b => w.heap.size ≤ b) u ∧ Below w.heap.size w w' := by
  obtain ⟨i0, Kd⟩ := kindRs
  have HKd := hid Kd
  have HI := hid hin
  have HS := hid hs
  clear hin hs Kd
  go_enter Try.func42, Try.ntmps42
  go_wp2_with fail
  go_loopw [3, 4] (fun v x wr => ∃ (k : Nat) (g : Nat → RT), k ≤ l.n ∧ x = .int .i64 (k : Int) ∧ OwnL elRec w.heap.size wr v k g ∧ (∀ q, q < k → RT.Alike (l.item q) (g q)) ∧ Below w.heap.size w wr) (fun _ x _ => l.n - (intOf x).toNat)
  case atStart => exact ⟨0, l.item, Nat.zero_le _, rfl, ⟨World.ownsRow_nil _ _ _ _, fun j hj => absurd hj (by omega)⟩, fun q hq => absurd hq (by omega), Below.refl _ _⟩
  case round =>
    obtain ⟨k, g, hk, rfl, hO, hal, hbel⟩ := hrel
    have HO := hid hO
    have HA := hid hal
    have HB := hid hbel
    clear hO hal hbel
    by_cases hlt : k < l.n
    · have hlt' : (k : Int) < (l.n : Int) := by omega
      obtain ⟨bb, o, hp, hSb, hbb, hat⟩ := HI.out.at_ (by omega)
      rw [hp]
      have hcell : ∀ r u, (elRec.cells (l.item k))[r]? = some u → wr.cell? ⟨bb, o + k * 6 + r, none⟩ = some u := fun r u hu => (World.cell?_of_block (a := ⟨bb, o + k * 6 + r, none⟩) (HB.out.block bb hbb)).trans (hat k hlt r u hu)
      have c0 : wr.cell? ⟨bb, o + k * 6, none⟩ = some (.string (l.item k).key) := hcell 0 _ rfl
      have c1 : wr.cell? ⟨bb, o + k * 6 + 1, none⟩ = some (.int .i64 (l.item k).v.kind) := hcell 1 _ rfl
      have c2 : wr.cell? ⟨bb, o + k * 6 + 2, none⟩ = some (.int .i64 (l.item k).v.int) := hcell 2 _ rfl
      have c3 : wr.cell? ⟨bb, o + k * 6 + 3, none⟩ = some (.string (l.item k).v.text) := hcell 3 _ rfl
      have c4 : wr.cell? ⟨bb, o + k * 6 + 4, none⟩ = some (.slice (l.item k).v.p (l.item k).v.n (l.item k).v.c) := hcell 4 _ rfl
      have c5 : wr.cell? ⟨bb, o + k * 6 + 5, none⟩ = some (.slice (l.item k).p (l.item k).n (l.item k).c) := hcell 5 _ rfl
      have HC := hid (r_copyR (l.item k) wr (fun b => S b ∧ b < w.heap.size) ((RT.In.mono (HI.out.each k hlt) fun b hb hl => ⟨hb, hl⟩).kept HB.out.size (fun b hb _ => HB.out.block b hb.2)) (HS.out k hlt))
      clear hcell hat
      go_wp2_with fail
      refine HC.out.mono ?_
      rintro e w2 ⟨u, rfl, hal2, hin2, hb2⟩
      have hO2 := HO.out.keep hb2.size (fun k _ hl => hb2.block k hl)
      have hu2 : RT.In w2 (fun b => w.heap.size ≤ b ∧ u3.ownBlock ≠ some b) u := hin2.mono fun b hb _ => ⟨Nat.le_trans HB.out.size hb, fun e => by have := (HO.out.own.lt b e).2; omega⟩
      have hsz : w.heap.size ≤ w2.heap.size := Nat.le_trans HB.out.size hb2.size
      have H2 := hid (And.intro hO2 (And.intro hu2 (And.intro hal2 (HB.out.trans (hb2.mono HB.out.size)))))
      have ha : Below w2.heap.size w2 (w2.alloc (.cells #[.string u.key, .int .i64 u.v.kind, .int .i64 u.v.int, .string u.v.text, .slice u.v.p u.v.n u.v.c, .slice u.p u.n u.c] 38)) := (Below.refl _ _).alloc (Nat.le_refl _) _
      have HAl := hid ha
      have HNw : Hid (∀ j u', (elRec.cells u)[j]? = some u' → (w2.alloc (.cells #[.string u.key, .int .i64 u.v.kind, .int .i64 u.v.int, .string u.v.text, .slice u.v.p u.v.n u.v.c, .slice u.p u.n u.c] 38)).cell? ((⟨w2.heap.size, 0, none⟩ : Addr).add j) = some u') := fun j u' hu => by
        rw [Go.WideShapes.add_plain, (Box.new w2 #[.string u.key, .int .i64 u.v.kind, .int .i64 u.v.int, .string u.v.text, .slice u.v.p u.v.n u.v.c, .slice u.p u.n u.c] 38).cell]
        rw [show 0 + j = j by omega]
        simpa [elRec, RT.cells] using hu
      clear hO2 hu2 hal2 hin2 hb2 ha HC c0 c1 c2 c3 c4 c5
      go_wp2_with (at_builtin; refine wpList_app rfl (.tmp 11) (.tmp 17) 39 38 i0 _ 6 96 HKd.out rfl w.heap.size u3 k _ rfl (H2.out.1.own.alloc _) ⟨w2.heap.size, 0, none⟩ 1 1 (elRec.cells u) rfl rfl HNw.out (elRec.one u) (by omega) (by omega) (by simp; omega) ?_)
      intro v3 w3 ho3 hg3 hn3
      obtain ⟨hO2, hu2, hal2, hbel2⟩ := H2.out
      have HO3 := hid ((hO2.keep HAl.out.size (fun k _ hl => HAl.out.block k hl)).push (hu2.below HAl.out) ho3 hg3 hn3)
      have HB3 : Hid (Below w.heap.size w w3) := (hbel2.trans (HAl.out.mono hsz)).grown hg3 (by simp; omega) (fun k hk => (hO2.own.lt k hk).1)
      have HA3 : Hid (∀ q, q < k + 1 → RT.Alike (l.item q) (if q < k then g q else u)) := by
        intro q hq
        by_cases hqk : q < k
        · rw [if_pos hqk]; exact HA.out q hqk
        · rw [if_neg hqk]
          obtain rfl : q = k := by omega
          exact hal2
      clear ho3 hg3 hn3 hO2 hu2 hal2 hbel2 H2 HAl HNw
      go_wp2
      go_roundw
      case rel => exact ⟨k + 1, _, by omega, by go_num, HO3.out, HA3.out, HB3.out⟩
      case measure => simp [intOf]; omega
    · obtain rfl : k = l.n := by omega
      have hlt' : ¬ (l.n : Int) < (l.n : Int) := by omega
      obtain ⟨p3, c3, hv, hin3⟩ := HO.out.in_ (by omega)
      subst hv
      have HIn := hid hin3
      clear hin3
      go_wp2
      exact bodyPost_ret (v := .slice p3 l.n c3) (by simp [results, Try.results42, go_sem]) rfl ⟨⟨p3, l.n, c3, g⟩, rfl, ⟨rfl, HA.out⟩, HIn.out, HB.out⟩
end Go.Proofs.Ytdncnnjhfipokab
