import Derived.Test.YtehmifdgfgngdacDoorBase
import Derived.Laws.AppendOwnNone
namespace Go.Proofs.YtehmifdgfgngdacDoor
open Go.RowKit

theorem cell_lt {w : World} {a : Addr} {v : Value} (h : w.cell? a = some v) : a.block < w.heap.size := by
  rcases Nat.lt_or_ge a.block w.heap.size with h1 | h1
  · exact h1
  · simp [World.cell?, Array.getElem?_eq_none h1] at h

theorem info5 : (Tryd.prog.info? 5).map (fun i => (i.zero, i.size, i.bytes)) = some (some (.int .u8 0), 1, 1) := by kernel_rfl

/-- bytes in a row of the call's own -/
structure OwnB (base : Nat) (w : World) (p : Option Addr) (c : Nat) (zs : List Int) : Prop where
  own : w.ownsRow base 5 1 (.slice p zs.length c) zs.length (zs.map (Value.int .u8))
  byte : ∀ z ∈ zs, 0 ≤ z ∧ z < 256

theorem OwnB.bytes {base : Nat} {w : World} {p : Option Addr} {c : Nat} {zs : List Int} (h : OwnB base w p c zs) : Bytes w p zs := by
  refine ⟨fun hp => ?_, h.byte⟩
  obtain ⟨_, ⟨hv, h0⟩ | ⟨g, cap, cur, hv, hb, hh, hn, hm, hs, ht⟩⟩ := h.own
  · omega
  · simp only [Value.slice.injEq] at hv
    obtain ⟨rfl, _, rfl⟩ := hv
    refine ⟨g, 0, rfl, ?_, fun i hi => ?_⟩
    · rcases Nat.lt_or_ge g w.heap.size with h1 | h1
      · exact h1
      · rw [Array.getElem?_eq_none h1] at hh; cases hh
    · have e := World.ownsRow.cellAt (w := w) h.own i (by omega)
      rw [Nat.zero_add, e]
      simp [List.getElem?_eq_getElem hi]

theorem OwnB.nil {base : Nat} {w : World} {p : Option Addr} {c : Nat} {zs : List Int} (h : OwnB base w p c zs) (hp : p = none) : zs = [] ∧ c = 0 := by
  subst hp
  obtain ⟨_, ⟨hv, h0⟩ | ⟨g, cap, cur, hv, _⟩⟩ := h.own
  · simp only [Value.slice.injEq] at hv
    exact ⟨List.eq_nil_of_length_eq_zero h0, hv.2.2⟩
  · cases hv

theorem OwnB.cap {base : Nat} {w : World} {p : Option Addr} {c : Nat} {zs : List Int} (h : OwnB base w p c zs) : zs.length ≤ c ∧ c ≤ maxLen := by
  obtain ⟨_, ⟨hv, h0⟩ | ⟨g, cap, cur, hv, hb, hh, hn, hm, hs, ht⟩⟩ := h.own
  · simp only [Value.slice.injEq] at hv
    obtain ⟨_, _, rfl⟩ := hv
    exact ⟨by omega, Nat.zero_le _⟩
  · simp only [Value.slice.injEq] at hv
    obtain ⟨_, _, rfl⟩ := hv
    exact ⟨hn, hm⟩

theorem Bytes.below {B : Nat} {w w' : World} {p : Option Addr} {zs : List Int} (h : Bytes w p zs) (hb : Below B w w') (hB : ∀ a, p = some a → 0 < zs.length → a.block < B) : Bytes w' p zs := by
  refine ⟨fun hp => ?_, h.byte⟩
  obtain ⟨b, o, rfl, hlt, hc⟩ := h.at_ hp
  exact ⟨b, o, rfl, Nat.lt_of_lt_of_le hlt hb.size, fun i hi => (hb.cell (p := ⟨b, o + i, none⟩) (hB ⟨b, o, none⟩ rfl hp)).trans (hc i hi)⟩
/-- old bytes stay while the call makes memory -/
theorem Bytes.later {w w' : World} {p : Option Addr} {zs : List Int} (h : Bytes w p zs) (hb : Below w.heap.size w w') : Bytes w' p zs := by
  refine ⟨fun hp => ?_, h.byte⟩
  obtain ⟨b, o, rfl, hlt, hc⟩ := h.at_ hp
  exact ⟨b, o, rfl, Nat.lt_of_lt_of_le hlt hb.size, fun i hi => (hb.cell (p := ⟨b, o + i, none⟩) hlt).trans (hc i hi)⟩
theorem Tab.later {w w' : World} (h : Tab w) (hb : Below w.heap.size w w') : Tab w' :=
  ⟨Nat.lt_of_lt_of_le h.1 hb.size, fun i hi => (hb.cell (p := ⟨0, i, none⟩) h.1).trans (h.2 i hi)⟩

theorem Bytes.src {w : World} {p : Option Addr} {zs : List Int} (h : Bytes w p zs) (hp : 0 < zs.length) : ∃ ad, p = some ad ∧ ∀ j u, (zs.map (Value.int .u8))[j]? = some u → w.cell? (ad.add j) = some u := by
  obtain ⟨b, o, rfl, _, hc⟩ := h.at_ hp
  refine ⟨_, rfl, fun j u hj => ?_⟩
  have hjl : j < zs.length := by
    rcases Nat.lt_or_ge j zs.length with h1 | h1
    · exact h1
    · rw [List.getElem?_eq_none (by simpa using h1)] at hj; cases hj
  rw [Go.WideShapes.add_plain, hc j hjl, ← hj]
  simp [List.getElem?_eq_getElem hjl]

/-- 'append(l, x...)' of bytes, l the call's own, x whatever -/
theorem wpList_append_bytes {w : World} {ops : Array Oper} {rest : List Oper} {o : Oper} {a : Act} {Q : Exit → Act → World → Prop} (hgd : o.guard = none) (s x : Operand)
    (ho : o.op = .call { callee := .builtin .append, args := #[s, x], argTypes := #[24, 24] })
    (base : Nat) (v : Value) (n : Nat) (xs : List Value) (hs : a.eval s = v) (hown : w.ownsRow base 5 1 v n xs)
    (p : Option Addr) (m c : Nat) (zs : List Int) (hx : a.eval x = .slice p m c) (hm : zs.length = m) (hB : Bytes w p zs) (hp : p = none → m = 0 ∧ c = 0)
    (hbytes : n + m ≤ 140737488355328) (hbase : base ≤ w.heap.size)
    (h : ∀ v' w', w'.ownsRow base 5 1 v' (n + m) (xs ++ zs.map (Value.int .u8)) → w.grownBy w' v.ownBlock → wpList Tryd.prog ops Q rest (a.put o.dst v') w') :
    wpList Tryd.prog ops Q (o :: rest) a w := by
  obtain ⟨i0, hi, hz0, hz1, hz2⟩ := info_parts info5
  cases p with
  | none =>
    obtain ⟨rfl, rfl⟩ := hp rfl
    obtain rfl : zs = [] := List.eq_nil_of_length_eq_zero hm
    refine wpList_append_own_none hgd s x 24 ho base 5 i0 1 Tryd.underlying24 hi v n xs hs hown hx ?_
    exact h v w (by simpa using hown) (World.grownBy.refl w _)
  | some ad =>
    refine wpList_append_own _ hgd s x 24 ho base 5 i0 (.int .u8 0) 1 1 Tryd.underlying24 hi hz0 hz1 hz2 rfl (by decide) v n xs hs hown ad m c (zs.map (Value.int .u8)) hx (by simp [hm]) ?_ (ints_oneCell _ _) (by unfold maxLen; omega) (by omega) hbase ?_
    · intro j u hj
      have hjl : j < zs.length := by
        rcases Nat.lt_or_ge j zs.length with h1 | h1
        · exact h1
        · rw [List.getElem?_eq_none (by simpa using h1)] at hj; cases hj
      obtain ⟨b, o', he, _, hc⟩ := hB.at_ (by omega)
      cases he
      rw [Go.WideShapes.add_plain, hc j hjl]
      rw [← hj]
      simp [List.getElem?_eq_getElem hjl]
    · intro v' w' h1 h2 _
      exact h v' w' h1 h2

theorem own_of_row {base : Nat} {w : World} {v : Value} {n : Nat} {zs : List Int} (h : w.ownsRow base 5 1 v n (zs.map (Value.int .u8))) (hb : ∀ z ∈ zs, 0 ≤ z ∧ z < 256) :
    ∃ p c, v = .slice p zs.length c ∧ OwnB base w p c zs := by
  have hl : zs.length = n := by simpa using h.1
  subst hl
  obtain ⟨_, ⟨rfl, h0⟩ | ⟨g, cap, cur, rfl, _⟩⟩ := id h
  · exact ⟨none, 0, by rw [h0], ⟨by rw [h0] at h ⊢; exact h, hb⟩⟩
  · exact ⟨_, cap, rfl, ⟨h, hb⟩⟩

set_option maxHeartbeats 400000 in
theorem joined_any (pa pb : Option Addr) (na ca nb cb : Nat) (za zb : List Int) (w : World) (hna : za.length = na) (hnb : zb.length = nb) (hA : Bytes w pa za) (hB : Bytes w pb zb)
    (hpa : pa = none → na = 0 ∧ ca = 0) (hpb : pb = none → nb = 0 ∧ cb = 0) (hlen : na + nb ≤ 140737488355328) :
    Calls Tryd.prog 8 #[.slice pa na ca, .slice pb nb cb] w fun e w' => ∃ p c, e = .returned (.slice p (na + nb) c) ∧ OwnB w.heap.size w' p c (za ++ zb) ∧ Below w.heap.size w w' := by
  go_enter Tryd.func8, Tryd.ntmps8
  go_wp2_with (at_builtin; refine wpList_append_bytes rfl (.tmp 6) (.tmp 7) rfl w.heap.size _ 0 [] rfl (World.ownsRow_nil _ _ _ _) pa na ca za rfl hna hA hpa (by omega) (Nat.le_refl _) ?_)
  intro v1 w1 ho1 hg1
  have hb1 : Below w.heap.size w w1 := (Below.refl _ _).grown hg1 (Nat.le_refl _) (fun k hk => by cases hk)
  have hB1 : Bytes w1 pb zb := hB.later hb1
  have hs1 := hb1.size
  have hr1 := ho1.lt
  have hby : ∀ z ∈ za ++ zb, 0 ≤ z ∧ z < 256 := by
    intro z hz
    rcases List.mem_append.1 hz with h | h
    · exact hA.byte z h
    · exact hB.byte z h
  clear hA hB hg1
  go_wp2_with (at_builtin; refine wpList_append_bytes rfl (.tmp 9) (.tmp 10) rfl w.heap.size v1 na _ rfl ho1 pb nb cb zb rfl hnb hB1 hpb (by omega) (by omega) ?_)
  intro v2 w2 ho2 hg2
  have hb2 : Below w.heap.size w w2 := hb1.grown hg2 hs1 (fun k hk => (hr1 k hk).1)
  obtain ⟨p, c, rfl, hO⟩ := own_of_row (zs := za ++ zb) (by simpa using ho2) hby
  have hl : (za ++ zb).length = na + nb := by simp [hna, hnb]
  have HO : Hid (OwnB w.heap.size w2 p c (za ++ zb)) := hO
  rw [hl]
  clear ho2 hg2 hO ho1 hb1 hB1
  go_wp2
  go_ret
  exact ⟨p, c, rfl, HO.out, hb2⟩
end Go.Proofs.YtehmifdgfgngdacDoor
