import Derived.Test.YtldkepokcbjlpaaPpB
import Derived.Conc.LoneCalls
import Derived.Conc.LoneSelectN
import Derived.Test.YtldkepokcbjlpaaPack6
import Derived.Test.YtldkepokcbjlpaaPack1
namespace Go.Proofs.Ytldkepokcbjlpaa
open Go.RowKit Go.Conc
set_option maxRecDepth 8000
theorem PsI.c4 {w : World} {b : Nat} {P : Ps} (h : PsI w b P) : w.cell? ⟨b, 4, none⟩ = some (.chan (some P.ch)) := by rw [h.box.cell]; rfl
set_option maxRecDepth 100000 in
set_option maxHeartbeats 4000000 in
theorem pick_none (w : World) (b : Nat) (P : Ps) (hI : PsI w b P) (cap s r : Nat) (hc : w.heap[P.ch]? = some (.chan cap #[] false s r false)) : Calls Try.prog 14 #[.pointer (some ⟨b, 0, none⟩)] w fun e w' => e = .returned (.tuple #[.int .i64 0, .agg #[.int .i64 0, .int .u32 0, .slice none 0 0]]) ∧ Below w.heap.size w w' := by
  obtain ⟨W, hW⟩ : ∃ W, W = w.alloc (.cells #[.int .i64 0, .int .u32 0, .slice none 0 0] 48) := ⟨_, rfl⟩
  have hB : Below w.heap.size w W := by rw [hW]; exact (Below.refl _ _).alloc (Nat.le_refl _) _
  have hX : Box W w.heap.size #[.int .i64 0, .int .u32 0, .slice none 0 0] 48 := by rw [hW]; exact Box.new _ _ _
  have c4 := (hI.below hB).c4
  have bl := (hI.below hB).box.lt
  have hcl : P.ch < w.heap.size := by
    rcases Nat.lt_or_ge P.ch w.heap.size with h | h
    · exact h
    · rw [Array.getElem?_eq_none h] at hc; cases hc
  have hcW : W.heap[P.ch]? = some (.chan cap #[] false s r false) := (hB.block _ hcl).trans hc
  have HX := hid hX
  have z0 := hX.cell 0
  have z1 := hX.cell 1
  have z2 := hX.cell 2
  have f0 := hX.frozen 0
  have f1 := hX.frozen 1
  have f2 := hX.frozen 2
  have xl := hX.lt
  simp at z0 z1 z2
  have HB := hid hB
  have HcW := hid hcW
  have HW := hid hW
  clear hX hI hB hc hcW hW
  refine calls_of_loneTo fun cs => ?_
  have e : Frame.enter Try.prog 14 #[.pointer (some ⟨b, 0, none⟩)] .normal = (base 14).at ⟨#[.pointer (some ⟨b, 0, none⟩), undef, undef, undef, undef, undef, undef, undef, undef, undef, undef, undef, undef, undef, undef, undef, undef, undef, undef], []⟩ [.code (Try.f14.body.getD .skip)] := by
    simp [Frame.enter, Frame.at, Try.func14, base, Try.f14]
    try rfl
  rw [e]
  clear e
  refine LoneTo.goes (n := 40) ?_
  simp only [Try.f14, Option.getD_some]
  s_c stepG_seq
  s_reg
  s_op
  s_op
  rw [← HW.out]
  s_c stepG_region_end
  s_c stepG_seq
  s_reg
  s_op
  s_op
  s_op
  s_op
  s_c stepG_region_end
  s_c stepG_seq
  s_reg
  s_stop
  refine LoneTo.step (step_lone_select_default (c := P.ch) (z := .agg #[.int .i64 0, .int .i64 0, .slice none 0 0, .slice none 0 0, .slice none 0 0]) (cap := cap) (s := s) (r := r) (tm := false) (stepG_comm (cases := #[rcase P.ch (.agg #[.int .i64 0, .int .i64 0, .slice none 0 0, .slice none 0 0, .slice none 0 0])]) (blocking := false) (shape := .select) (w' := W) rfl rfl (by decide) (by simp [go_sem, execOp, rcase, Act.eval])) HcW.out) ?_
  rw [Frame.finish_at]
  walk_nrm
  refine LoneTo.goes (n := 40) ?_
  s_op
  s_op
  s_c stepG_region_end
  s_c stepG_block
  s_cond false
  s_c stepG_seq
  s_reg
  s_op
  s_op
  s_op
  s_c stepG_region_end
  s_c stepG_ret'
  s_stop
  have hbt := (((But.one W w.heap.size).setAt 0 (.int .i64 0)).setAt 1 (.int .u32 0)).setAt 2 (.slice none 0 0)
  refine LoneTo.done ⟨.returned (.tuple #[.int .i64 0, .agg #[.int .i64 0, .int .u32 0, .slice none 0 0]]), _, rfl, ⟨rfl, HB.out.trans (hbt.below HB.out.size (fun k hk e => by omega))⟩, rfl, rfl, rfl, rfl, _, Try.func14, by simp [results, Try.f14, Frame.at, go_sem, z0, z1, z2]⟩
end Go.Proofs.Ytldkepokcbjlpaa

namespace Go.Proofs.Ytldkepokcbjlpaa
open Go.RowKit
set_option maxRecDepth 8000
theorem step_appS {ops : Array Oper} {o : Oper} {a : Act} {w : World} {K : Act → World → Prop} {Q : Exit → Act → World → Prop} {E : Prop}
    (hgd : o.guard = none) (s x : Operand) (t e : TypeId) (i : TypeInfo) (z : Value) (size bytes : Nat) (Kd : Kind t e i z size bytes) (hop : o.op = Op.call { callee := Callee.builtin Builtin.append, args := #[s, x], argTypes := #[t, t] })
    (base : Nat) (v : Value) (n : Nat) (xs : List Value) (hs : a.eval s = v) (hown : w.ownsRow base e size v n xs)
    (p : Option Addr) (m c : Nat) (news : List Value) (hx : a.eval x = .slice p m c) (hsrc : Src w p m c size news) (h1 : ∀ u ∈ news, u.oneCell' = true)
    (h63 : n + m ≤ 140737488355328) (hbytes : (n + m) * bytes ≤ 140737488355328) (hbase : base ≤ w.heap.size)
    (hK : ∀ v' w', w'.ownsRow base e size v' (n + m) (xs ++ news) → w.grownBy w' v.ownBlock → Near w v v' → K (a.put o.dst v') w') :
    if Region.wanted o (yielded ops a.tmps) = true then Oper.wp Try.prog o a w K Q else E := by
  rcases hsrc with ⟨rfl, rfl, rfl, rfl⟩ | ⟨ad, rfl, hl, hnews⟩
  · have hw : Region.wanted o (yielded ops a.tmps) = true := by simp [Region.wanted, hgd]
    rw [if_pos hw]
    have hrun := run_append_owned_none (P := Try.prog) (w := w) base t o.type e i size Kd.ht Kd.hi v n xs hown
    unfold Oper.wp
    simp [execOp, hop, resolve, invoke, builtin, hs, hx, hrun, Result.andThen]
    exact hK v w (by simpa using hown) ⟨rfl, rfl, rfl, Nat.le_refl _, fun _ _ _ => rfl⟩ (.inl rfl)
  · exact step_app hgd s x t e i z size bytes Kd hop base v n xs hs hown ad m c news hx hl hnews h1 h63 hbytes hbase hK
end Go.Proofs.Ytldkepokcbjlpaa
