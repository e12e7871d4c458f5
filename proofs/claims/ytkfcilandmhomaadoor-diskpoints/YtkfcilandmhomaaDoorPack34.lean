import Derived.Test.YtkfcilandmhomaaDoorPack16
import Derived.Test.YtkfcilandmhomaaDoorPack17
import Derived.Test.YtkfcilandmhomaaDoorPack33
namespace Go.Proofs.YtkfcilandmhomaaDoor
open Go.RowKit
set_option maxRecDepth 8000
/-- a call of a script -/
structure OpD where
  kind : Int
  which : Int
  name : ByteArray
  n : Int
  after : Int
  bp : Option Addr
  bc : Nat
  zs : List Int
  K : LT Int
def OpD.cs (o : OpD) : Array Value := #[.int .i64 o.kind, .int .i64 o.which, .string o.name, .int .i64 o.n, .int .i64 o.after, .slice o.bp o.zs.length o.bc, .slice o.K.p o.K.n o.K.c]
structure OpD.In (w : World) (Z : Nat → Prop) (o : OpD) : Prop where
  nm : o.name.size ≤ 140737488355328
  ki : -9223372036854775808 ≤ o.kind ∧ o.kind ≤ 9223372036854775807
  n1 : -9223372036854775808 ≤ o.n ∧ o.n ≤ 9223372036854775807
  a1 : -9223372036854775808 ≤ o.after ∧ o.after ≤ 9223372036854775807
  by_ : Byts w Z o.bp o.zs.length o.bc (fun j => o.zs.getD j 0)
  kp : LT.In elInt w Z o.K
  zl : o.zs.length ≤ 524288
  kl : o.K.n ≤ 524288
theorem OpD.In.bel {w w' : World} {Z : Nat → Prop} {o : OpD} (h : o.In w Z) (hb : Fr Z w w') : o.In w' Z :=
  ⟨h.nm, h.ki, h.n1, h.a1, h.by_.kept hb.size fun b hz hl => hb.block b hl fun e => e hz, h.kp.kept hb.size fun b hz hl => hb.block b hl fun e => e hz, h.zl, h.kl⟩
theorem OpD.In.src {w : World} {Z : Nat → Prop} {o : OpD} (h : o.In w Z) : Src w o.bp o.zs.length o.bc 1 (o.zs.map (.int .u8)) := by
  have h1 := h.by_.src
  have h2 : ((List.range o.zs.length).map fun j => Value.int .u8 (o.zs.getD j 0)) = o.zs.map (Value.int .u8) := by
    have h3 := range_getD o.zs 0 o.zs.length (by omega)
    simp only [Nat.zero_add, List.drop_zero, List.take_length] at h3
    conv => rhs; rw [← h3, List.map_map]
    rfl
  rw [h2] at h1
  exact h1
theorem ApD.isI {D : DK} {s : ByteArray} {zs : List Int} {C : Nat → Prop} {db : Nat} {w w' : World} {e : Ending} (h : ApD D s zs C db w e w') : ∃ x : Int, e = .returned (.int .i64 x) ∧ ApD D s zs C db w e w' := by
  have hx : ∃ x : Int, e = .returned (.int .i64 x) := by
    rcases h with ⟨_, h, _⟩ | ⟨_, _, _, h, _⟩ | ⟨_, _, h, _⟩ | ⟨_, _, _, _, h, _⟩ | ⟨_, _, _, _, h, _⟩ <;> exact ⟨_, h⟩
  obtain ⟨x, hx⟩ := hx
  exact ⟨x, hx, h⟩
end Go.Proofs.YtkfcilandmhomaaDoor

namespace Go.Proofs.YtkfcilandmhomaaDoor
open Go.RowKit
set_option maxRecDepth 8000
/-- Read of both -/
theorem reach_eq {D : DK} {R : RK} (h : Rel D R.ak) (s : ByteArray) : reachE D s = ahE R s false := by
  have hdn : D.down = R.down := h.dn
  unfold reachE ahE
  rw [hdn]
  simp
def RbQ (D : DK) (s : ByteArray) (w : World) (e : Ending) (w' : World) : Prop :=
  ∃ (p : Option Addr) (c : Nat) (zs : List Int) (x : Int), e = .returned (.tuple #[.slice p zs.length c, .int .i64 x]) ∧ zs = readZ D s ∧ x = readE D s ∧ OwnBy w.heap.size w' (.slice p zs.length c) zs ∧ Below w.heap.size w w'
theorem read_eq {D : DK} {R : RK} {s : ByteArray} {w w' : World} {e : Ending} (h : Rel D R.ak) (hnd : (D.fs.map FT.name).Nodup) (hq : RdQ R s w e w') : RbQ D s w e w' := by
  have hre := reach_eq h s
  obtain ⟨hb, ⟨h0, rfl⟩ | ⟨h0, hno, rfl⟩ | ⟨h0, i, g, p, c, hi, rfl, ho⟩⟩ := hq
  · refine ⟨none, 0, [], ahE R s false, rfl, ?_, ?_, World.ownsRow_nil _ _ _ _, hb⟩
    · rw [readZ, if_neg (by rw [hre]; exact h0)]
    · rw [readE, if_neg (by rw [hre]; exact h0), hre]
  · have hf : fnd D s = none := by
      cases hf : fnd D s with
      | none => rfl
      | some f =>
        obtain ⟨i, g, hi⟩ := h.some hf
        exact absurd hi.2 (hno g (List.mem_of_getElem? hi.1))
    refine ⟨none, 0, [], 103, rfl, ?_, ?_, World.ownsRow_nil _ _ _ _, hb⟩
    · rw [readZ, if_pos (by rw [hre]; exact h0), hf]; rfl
    · rw [readE, if_pos (by rw [hre]; exact h0), hf]; rfl
  · cases hf : fnd D s with
    | none => exact absurd hi.2 (h.none hf g (List.mem_of_getElem? hi.1))
    | some f =>
      obtain ⟨k1, k2, k3⟩ := key_eqs (h.key hnd hf hi)
      refine ⟨p, c, g.su ++ g.lo, 0, rfl, ?_, ?_, ho, hb⟩
      · rw [readZ, if_pos (by rw [hre]; exact h0), hf]; exact k2.symm
      · rw [readE, if_pos (by rw [hre]; exact h0), hf]; rfl
theorem read_eq0 {D : DK} {s : ByteArray} {w w' : World} {e : Ending} (hq : ReadQ D s w e w') : RbQ D s w e w' := by
  obtain ⟨p, c, rfl, ho, hb⟩ := hq
  exact ⟨p, c, _, _, rfl, rfl, rfl, ho, hb⟩
/-- List of both -/
def lsE (A : AK) : Int := if A.down = true then 100 else 0
def lsL (A : AK) : List ByteArray := if A.down = true then [] else A.ks.map Prod.fst
def LsQ (A : AK) (w : World) (e : Ending) (w' : World) : Prop :=
  ∃ (u : LT ByteArray) (x : Int), e = .returned (.tuple #[.slice u.p u.n u.c, .int .i64 x]) ∧ x = lsE A ∧ LT.In elStr w' (fun k => w.heap.size ≤ k) u ∧ u.n = (lsL A).length ∧ (∀ j, j < u.n → (lsL A)[j]? = some (u.item j)) ∧ Below w.heap.size w w'
theorem list_eq0 {D : DK} {A : AK} {w w' : World} {e : Ending} (h : Rel D A) (hnm : ∀ f ∈ D.fs, Nm f.name) (hnd : (D.fs.map FT.name).Nodup) (hq : ListQ D w e w') : LsQ A w e w' := by
  obtain ⟨hb, h1, h2⟩ := hq
  have hdn := h.dn
  cases hd : A.down with
  | true =>
    rw [hd] at hdn
    refine ⟨⟨none, 0, 0, fun _ => ⟨#[]⟩⟩, 100, h1 hdn, by simp [lsE, hd], LT.In.none_ _ _ _ none 0 _ (Nat.zero_le _) (fun _ => rfl), by simp [lsL, hd], fun j hj => absurd hj (Nat.not_lt_zero _), hb⟩
  | false =>
    rw [hd] at hdn
    obtain ⟨u, YS, rfl, hu, hp, hs, hn, hk⟩ := h2 hdn
    have ho := h.order hnm hnd hp hs
    have hl : lsL A = YS.map FT.name := by
      rw [lsL, if_neg (by rw [hd]; simp), ← ho, List.map_map]
      rfl
    refine ⟨u, 0, rfl, by simp [lsE, hd], hu, by rw [hl, List.length_map, hn], fun j hj => ?_, hb⟩
    obtain ⟨f, hf, he⟩ := hk j hj
    rw [hl, List.getElem?_map, hf, he]
    rfl
theorem list_eq1 {R : RK} {w w' : World} {e : Ending} (hq : RlQ R w e w') : LsQ R.ak w e w' := by
  obtain ⟨hb, ⟨hd, rfl⟩ | ⟨hd, u, rfl, hu, hn, hk⟩⟩ := hq
  · have hd' : R.ak.down = true := hd
    exact ⟨⟨none, 0, 0, fun _ => ⟨#[]⟩⟩, 100, rfl, by simp [lsE, hd'], LT.In.none_ _ _ _ none 0 _ (Nat.zero_le _) (fun _ => rfl), by simp [lsL, hd'], fun j hj => absurd hj (Nat.not_lt_zero _), hb⟩
  · have hd' : R.ak.down = false := hd
    have hl : lsL R.ak = R.fs.map RF.name := by
      rw [lsL, if_neg (by rw [hd']; simp), ak_ks, List.map_map]
      rfl
    refine ⟨u, 0, rfl, by simp [lsE, hd'], hu, by rw [hl, List.length_map, hn], fun j hj => ?_, hb⟩
    have hjl : j < R.fs.length := by omega
    rw [hl, List.getElem?_map, List.getElem?_eq_getElem hjl, hk j _ (List.getElem?_eq_getElem hjl)]
    rfl
/-- Files of both -/
theorem files_same {D : DK} {R : RK} (h : Rel D R.ak) (hnm : ∀ f ∈ D.fs, Nm f.name) (hnd : (D.fs.map FT.name).Nodup) {u v : LT FA} {YS : List FT} (hp : YS.Perm D.fs) (hs : YS.Pairwise fun a b => ¬ cmpN b.name a.name < 0) (hun : u.n = YS.length) (huk : ∀ j, j < u.n → ∃ f, YS[j]? = some f ∧ (u.item j).key = f.key) (hvn : v.n = R.lt.n) (hvk : ∀ j, j < R.lt.n → (v.item j).key = (R.lt.item j).key) : v.n = u.n ∧ ∀ j, j < u.n → (v.item j).key = (u.item j).key := by
  have ho : YS.map FT.key = R.fs.map RF.key := h.order hnm hnd hp hs
  have hlen : YS.length = R.fs.length := by have := congrArg List.length ho; simpa using this
  have hltn := R.lt_n
  refine ⟨by omega, fun j hj => ?_⟩
  obtain ⟨f, hf, hk⟩ := huk j hj
  rw [hvk j (by omega), hk]
  have hjl : j < R.fs.length := by omega
  have h1 : R.lt.item j = (R.fs[j]).ro := by
    show (R.fs.map RF.ro).getD j z0R = _
    rw [List.getD_eq_getElem?_getD, List.getElem?_map, List.getElem?_eq_getElem hjl]
    rfl
  rw [h1, ro_key]
  have h2 := congrArg (fun L => L[j]?) ho
  simp only [List.getElem?_map, hf, List.getElem?_eq_getElem hjl, Option.map_some] at h2
  exact (Option.some.inj h2).symm
end Go.Proofs.YtkfcilandmhomaaDoor

namespace Go.Proofs.YtkfcilandmhomaaDoor
open Go.RowKit
set_option maxRecDepth 8000
theorem kindInts : ∃ i, Kind 31 3 i (.int .i64 0) 1 8 := by
  obtain ⟨i0, hi, hz0, hz1, hz2⟩ := info_parts (show (Tryd.prog.info? 3).map (fun i => (i.zero, i.size, i.bytes)) = some (some (.int .i64 0), 1, 8) by kernel_rfl)
  exact ⟨i0, Tryd.underlying31, hi, hz0, hz1, hz2, rfl, by decide⟩
theorem intSrc {w : World} {S : Nat → Prop} {K : LT Int} (h : LT.In elInt w S K) : Src w K.p K.n K.c 1 ((List.range K.n).map fun j => .int .i64 (K.item j)) := by
  cases hp : K.p with
  | none =>
    obtain ⟨h1, h2⟩ := h.nil hp
    exact .inl ⟨rfl, h1, h2, by rw [h1]; rfl⟩
  | some ad =>
    refine .inr ⟨ad, rfl, by simp, fun j u hu => ?_⟩
    have hj : j < K.n := by
      rcases Nat.lt_or_ge j K.n with h1 | h1
      · exact h1
      · rw [List.getElem?_eq_none (by simpa using h1)] at hu; cases hu
    obtain ⟨b, o, hp2, _, _, hat⟩ := h.at_ (by omega)
    rw [hp] at hp2
    have hp3 := Option.some.inj hp2
    subst hp3
    rw [List.getElem?_map, List.getElem?_range hj] at hu
    have hu2 : Value.int .i64 (K.item j) = u := by simpa using hu
    have h1 := hat j hj 0 _ rfl
    rw [Go.WideShapes.add_plain, ← hu2]
    have e : o + j * elInt.size + 0 = o + j := by show o + j * 1 + 0 = _; omega
    rw [e] at h1
    exact h1
theorem intRow {w : World} {b n c : Nat} {p : Option Addr} {g : Nat → Int} (h : w.ownsRow b 3 1 (.slice p n c) n ((List.range n).map fun j => .int .i64 (g j))) (hb : ∀ j, j < n → -9223372036854775808 ≤ g j ∧ g j ≤ 9223372036854775807) (hn : n ≤ 140737488355328) : LT.In elInt w (fun k => b ≤ k) ⟨p, n, c, g⟩ := by
  have hL : OwnL elInt b w (.slice p n c) n g := by
    refine ⟨?_, fun j hj => hb j hj⟩
    have e : ((List.range n).flatMap fun j => elInt.cells (g j)) = (List.range n).map fun j => Value.int .i64 (g j) := by
      rw [List.flatMap_def]
      show ((List.range n).map fun j => [Value.int .i64 (g j)]).flatten = _
      induction (List.range n) with
      | nil => rfl
      | cons x l ih => simp only [List.map_cons, List.flatten_cons, ih]; rfl
    rw [e]
    exact h
  obtain ⟨p2, c2, hv, hI⟩ := hL.in_ hn
  simp only [Value.slice.injEq, true_and] at hv
  obtain ⟨rfl, rfl⟩ := hv
  exact hI
theorem spq_chg {D : DK} {s : ByteArray} {bit : Int} {C : Nat → Prop} {db : Nat} {w w' : World} {e : Ending} (h : SpQ D s bit C db w e w') : ∃ D', Chg D' C db w w' := by
  cases hb : spB D s bit with
  | false => exact ⟨_, h.2.1 hb⟩
  | true =>
    obtain ⟨f, _, hc⟩ := h.2.2 hb
    exact ⟨_, hc⟩
theorem spq_but {D : DK} {s : ByteArray} {bit : Int} {C : Nat → Prop} {db : Nat} {w w' : World} {e : Ending} (h : SpQ D s bit C db w e w') : But C w w' := by
  obtain ⟨_, hc⟩ := spq_chg h
  exact hc.2
end Go.Proofs.YtkfcilandmhomaaDoor
