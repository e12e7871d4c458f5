import Derived.Test.YtikfpoabaaiegaaPack32
import Derived.Test.YtikfpoabaaiegaaPack4
import Derived.Deep.WholeRow
import Derived.Test.YtikfpoabaaiegaaPack19
namespace Go.Proofs.Ytikfpoabaaiegaa
open Go.RowKit
set_option maxRecDepth 8000
set_option maxHeartbeats 1000000 in
theorem num_any (e : Int) (w : World) : Calls Try.prog 19 #[.int .i64 e] w fun x w' => x = .returned (.int .i64 e) ∧ w' = w := by
  go_enter Try.func19, Try.ntmps19
  go_wp2
  go_ret
  exact ⟨rfl, rfl⟩
theorem setRow_box {w : World} {b : Nat} {c c' : Array Value} {e : TypeId} (h : Box w b c e) : Box (w.setRow b c') b c' e := setRow_heap w b c c' e (0, 0) h
theorem setRow_but (w : World) (b : Nat) (c' : Array Value) : But (fun y => y = b) w (w.setRow b c') := by
  refine ⟨rfl, rfl, rfl, ?_, fun k _ hk => setRow_other w b k c' hk⟩
  simp [World.setRow]
theorem info45 : (Try.prog.info? 45).map (·.size) = some 30 := by kernel_rfl
theorem wpList_store_any {ops : Array Oper} {rest : List Oper} {o : Oper} {a : Act} {w : World} {Q : Exit → Act → World → Prop} (hgd : o.guard = none) (ty : TypeId) (x y : Operand) (ho : o.op = .store ty x y)
    (g : Nat) (cells : Array Value) (hx : a.eval x = .pointer (some ⟨g, 0, none⟩)) (hy : a.eval y = .agg cells)
    (t : TypeId) (old : Array Value) (hg : Box w g old t) (hi : (Try.prog.info? ty).map (·.size) = some cells.size)
    (hold : old.size = cells.size) (h1 : cells.all (·.oneCell') = true)
    (h : ∀ w', Box w' g cells t → But (fun y => y = g) w w' → wpList Try.prog ops Q rest (a.put o.dst undef) w') : wpList Try.prog ops Q (o :: rest) a w :=
  wpList_store_row hgd ty x y ho g cells hx hy t old hg hi hold h1 (h _ (setRow_box hg) (setRow_but _ _ _))
def zC : Array Value := #[.int .i64 0, .string ⟨#[]⟩, .int .i64 0, .int .i64 0, .string ⟨#[]⟩, .slice none 0 0, .slice none 0 0, .int .i64 0, .slice none 0 0, .int .i64 0, .int .i64 0, .int .i64 0, .int .u32 0, .int .i64 0, .slice none 0 0, .int .i64 0, .slice none 0 0, .slice none 0 0, .slice none 0 0, .slice none 0 0, .int .i64 0, .int .u32 0, .slice none 0 0, .int .i64 0, .string ⟨#[]⟩, .int .i64 0, .int .i64 0, .string ⟨#[]⟩, .slice none 0 0, .slice none 0 0]
def kC (k : Int) : Array Value := #[.int .i64 k, .string ⟨#[]⟩, .int .i64 0, .int .i64 0, .string ⟨#[]⟩, .slice none 0 0, .slice none 0 0, .int .i64 0, .slice none 0 0, .int .i64 0, .int .i64 0, .int .i64 0, .int .u32 0, .int .i64 0, .slice none 0 0, .int .i64 0, .slice none 0 0, .slice none 0 0, .slice none 0 0, .slice none 0 0, .int .i64 0, .int .u32 0, .slice none 0 0, .int .i64 0, .string ⟨#[]⟩, .int .i64 0, .int .i64 0, .string ⟨#[]⟩, .slice none 0 0, .slice none 0 0]
theorem kC_one (k : Int) : (kC k).all (·.oneCell') = true := by simp [kC, Value.oneCell']
theorem start_thing (w : World) (k : Int) : Box (((w.alloc (.cells zC 45)).alloc (.cells zC 45)).setRow (w.heap.size + 1) (kC k)) w.heap.size zC 45 ∧ Box (((w.alloc (.cells zC 45)).alloc (.cells zC 45)).setRow (w.heap.size + 1) (kC k)) (w.heap.size + 1) (kC k) 45 ∧ Below w.heap.size w (((w.alloc (.cells zC 45)).alloc (.cells zC 45)).setRow (w.heap.size + 1) (kC k)) ∧ (((w.alloc (.cells zC 45)).alloc (.cells zC 45)).setRow (w.heap.size + 1) (kC k)).heap.size = w.heap.size + 2 := by
  have h1 : Box ((w.alloc (.cells zC 45)).alloc (.cells zC 45)) (w.heap.size + 1) zC 45 := heap_alloc2_new w _ _
  have h0 : Box ((w.alloc (.cells zC 45)).alloc (.cells zC 45)) w.heap.size zC 45 := (Box.new w _ _).below ((Below.refl _ _).alloc (Nat.le_refl _) _)
  have hb : Below w.heap.size w ((w.alloc (.cells zC 45)).alloc (.cells zC 45)) := ((Below.refl _ _).alloc (Nat.le_refl _) _).alloc (by simp) _
  have hk := setRow_but ((w.alloc (.cells zC 45)).alloc (.cells zC 45)) (w.heap.size + 1) (kC k)
  refine ⟨h0.but hk (by omega), setRow_box h1, hb.trans (hk.below hb.size (fun j hj e => by omega)), ?_⟩
  have : ((w.alloc (.cells zC 45)).alloc (.cells zC 45)).heap.size = w.heap.size + 2 := by simp
  simp [World.setRow]
end Go.Proofs.Ytikfpoabaaiegaa

namespace Go.Proofs.Ytikfpoabaaiegaa
open Go.RowKit
set_option maxRecDepth 8000
theorem wpOp_wp {P : Program} {ops : Array Oper} {Q : Exit → Act → World → Prop} {i : Nat} {K : Act → World → Prop} {a : Act} {w : World} {o : Oper} (h : ops[i]? = some o) (hg : o.guard = none) (hw : o.wp P a w K Q) : wpOp P ops Q i K a w := by
  unfold wpOp
  simp only [h]
  rw [if_pos (by simp [Region.wanted, hg])]
  exact Or.inl hw
structure Tl (W : World) (tb rb : Nat) (cT : Array Value) (k : Int) (D : Nat → Prop) (w : World) (t5 t49 t50 t51 : Value) : Prop where
  kp : But (fun y => y = rb) W w
  bx : Box w tb cT 45
  f0 : D 0 → t49 = .agg cT
  f1 : D 1 → t50 = .int .i64 k
  f2 : D 2 → t51 = .int .i64 k
  f3 : D 3 → Box w rb cT 45
  f3n : ¬ D 3 → Box w rb zC 45
  f4 : D 4 → t5 = .int .i64 k
def TlI (T : Value → Value → Value → Value → Array Value) (W : World) (tb rb : Nat) (cT : Array Value) (k : Int) (D : Nat → Prop) (c : Act) (w : World) : Prop :=
  ∃ t5 t49 t50 t51, c = { tmps := T t5 t49 t50 t51, defers := [] } ∧ Tl W tb rb cT k D w t5 t49 t50 t51
theorem or_of {D : Nat → Prop} {i j : Nat} (h : D i ∨ i = j) (hne : i ≠ j) : D i := h.resolve_right hne
set_option maxHeartbeats 4000000 in
theorem get_tail (x0 x1 x2 x3 x8 x9 x10 x11 x12 x13 x14 x15 x16 x17 x18 x19 x20 x21 x22 x23 x24 x25 x26 x27 x28 x29 x30 x31 x32 x33 x34 x35 x36 x37 x38 x39 x40 x41 x42 x43 x44 x45 x46 x47 x48 : Value) (W : World) (tb rb : Nat) (hne : tb ≠ rb) (cT : Array Value) (hs : cT.size = 30) (ho : cT.all (·.oneCell') = true) (k : Int) (y5 y49 y50 y51 : Value) (hT : Box W tb cT 45) (hR : Box W rb zC 45) (Q : Exit → Act → World → Prop)
    (hQ : ∀ w', Box w' rb cT 45 → But (fun y => y = rb) W w' → Q .normal { tmps := #[x0, x1, x2, x3, .pointer (some ⟨rb, 0, none⟩), .int .i64 k, .pointer (some ⟨tb, 0, none⟩), .int .i64 k, x8, x9, x10, x11, x12, x13, x14, x15, x16, x17, x18, x19, x20, x21, x22, x23, x24, x25, x26, x27, x28, x29, x30, x31, x32, x33, x34, x35, x36, x37, x38, x39, x40, x41, x42, x43, x44, x45, x46, x47, x48, .agg cT, .int .i64 k, .int .i64 k], defers := [] } w') :
    (Code.region 13 #[{ dst := some 49, op := Op.load 45 (Operand.tmp 6), type := 45, pos := "exact.go:101", after := #[], guard := none },
        { dst := some 50, op := Op.move (Operand.tmp 7), type := 60, pos := "exact.go:101", after := #[], guard := none },
        { dst := some 51, op := Op.call { callee := Callee.value (Operand.func 19), args := #[Operand.tmp 50], argTypes := #[60] }, type := 3, pos := "exact.go:101", after := #[{ on := 1, ground := Ground.data }], guard := none },
        { dst := none, op := Op.store 45 (Operand.tmp 4) (Operand.tmp 49), type := 0, pos := "exact.go:101", after := #[{ on := 0, ground := Ground.data }, { on := 2, ground := Ground.chain }, { on := 0, ground := Ground.phase }, { on := 1, ground := Ground.textOnly Departure.lateStores }, { on := 2, ground := Ground.textOnly Departure.lateStoresUnsure }], guard := none },
        { dst := some 5, op := Op.assign (Operand.tmp 51), type := 3, pos := "exact.go:101", after := #[{ on := 2, ground := Ground.data }, { on := 3, ground := Ground.chain }, { on := 0, ground := Ground.phase }, { on := 1, ground := Ground.phase }, { on := 2, ground := Ground.phase }, { on := 3, ground := Ground.phase }], guard := none }] true).wp Try.prog Q { tmps := #[x0, x1, x2, x3, .pointer (some ⟨rb, 0, none⟩), y5, .pointer (some ⟨tb, 0, none⟩), .int .i64 k, x8, x9, x10, x11, x12, x13, x14, x15, x16, x17, x18, x19, x20, x21, x22, x23, x24, x25, x26, x27, x28, x29, x30, x31, x32, x33, x34, x35, x36, x37, x38, x39, x40, x41, x42, x43, x44, x45, x46, x47, x48, y49, y50, y51], defers := [] } W := by
  refine wp_region_inv (by kernel_rfl) (TlI (fun t5 t49 t50 t51 => #[x0, x1, x2, x3, .pointer (some ⟨rb, 0, none⟩), t5, .pointer (some ⟨tb, 0, none⟩), .int .i64 k, x8, x9, x10, x11, x12, x13, x14, x15, x16, x17, x18, x19, x20, x21, x22, x23, x24, x25, x26, x27, x28, x29, x30, x31, x32, x33, x34, x35, x36, x37, x38, x39, x40, x41, x42, x43, x44, x45, x46, x47, x48, t49, t50, t51]) W tb rb cT k) ?_ (by kernel_rfl) ?_ ?_ ?_
  · rintro D D' c w1 hD ⟨t5, t49, t50, t51, h, hK⟩
    have e : D = D' := funext fun j => propext (hD j)
    subst e
    exact ⟨t5, t49, t50, t51, h, hK⟩
  · intro D hD
    exact ⟨_, _, _, _, rfl, (But.refl _ _).drew, hT.below (Below.refl _ _).drew, fun h => absurd h (hD _), fun h => absurd h (hD _), fun h => absurd h (hD _), fun h => absurd h (hD _), fun _ => hR.below (Below.refl _ _).drew, fun h => absurd h (hD _)⟩
  · intro D c w1 hI j o hi hnd hdep
    obtain ⟨t5, t49, t50, t51, rfl, hK⟩ := hI
    have hlt : j < 5 := (Array.getElem?_eq_some_iff.1 hi).1
    match j, hlt with
    | 0, _ =>
      cases hi
      refine wpOp_wp rfl rfl (wp_load_row 45 (.tmp 6) rfl tb rfl 45 cT (0, 0) _ hK.bx Try.underlying45 rfl (by rw [hs]; exact info45) ?_)
      exact ⟨_, _, _, _, rfl, hK.kp, hK.bx, fun _ => rfl, fun h => hK.f1 (or_of h (by decide)), fun h => hK.f2 (or_of h (by decide)), fun h => hK.f3 (or_of h (by decide)), fun h => hK.f3n (fun h2 => h (Or.inl h2)), fun h => hK.f4 (or_of h (by decide))⟩
    | 1, _ =>
      cases hi
      refine wpOp_wp rfl rfl ?_
      simp [Oper.wp, execOp, go_sem, Oper.upon, Act.eval, Act.put]
      exact ⟨_, _, _, _, rfl, hK.kp, hK.bx, fun h => hK.f0 (or_of h (by decide)), fun _ => rfl, fun h => hK.f2 (or_of h (by decide)), fun h => hK.f3 (or_of h (by decide)), fun h => hK.f3n (fun h2 => h (Or.inl h2)), fun h => hK.f4 (or_of h (by decide))⟩
    | 2, _ =>
      cases hi
      simp [Region.binds] at hdep
      obtain rfl := hK.f1 hdep
      have hst := step_call (Q := Q) (E := False) (ops := #[{ dst := some 49, op := Op.load 45 (Operand.tmp 6), type := 45, pos := "exact.go:101", after := #[], guard := none },
        { dst := some 50, op := Op.move (Operand.tmp 7), type := 60, pos := "exact.go:101", after := #[], guard := none },
        { dst := some 51, op := Op.call { callee := Callee.value (Operand.func 19), args := #[Operand.tmp 50], argTypes := #[60] }, type := 3, pos := "exact.go:101", after := #[{ on := 1, ground := Ground.data }], guard := none },
        { dst := none, op := Op.store 45 (Operand.tmp 4) (Operand.tmp 49), type := 0, pos := "exact.go:101", after := #[{ on := 0, ground := Ground.data }, { on := 2, ground := Ground.chain }, { on := 0, ground := Ground.phase }, { on := 1, ground := Ground.textOnly Departure.lateStores }, { on := 2, ground := Ground.textOnly Departure.lateStoresUnsure }], guard := none },
        { dst := some 5, op := Op.assign (Operand.tmp 51), type := 3, pos := "exact.go:101", after := #[{ on := 2, ground := Ground.data }, { on := 3, ground := Ground.chain }, { on := 0, ground := Ground.phase }, { on := 1, ground := Ground.phase }, { on := 2, ground := Ground.phase }, { on := 3, ground := Ground.phase }], guard := none }]) (a := { tmps := #[x0, x1, x2, x3, .pointer (some ⟨rb, 0, none⟩), t5, .pointer (some ⟨tb, 0, none⟩), .int .i64 k, x8, x9, x10, x11, x12, x13, x14, x15, x16, x17, x18, x19, x20, x21, x22, x23, x24, x25, x26, x27, x28, x29, x30, x31, x32, x33, x34, x35, x36, x37, x38, x39, x40, x41, x42, x43, x44, x45, x46, x47, x48, t49, (.int .i64 k), t51], defers := [] }) (w := w1) (K := TlI (fun t5 t49 t50 t51 => #[x0, x1, x2, x3, .pointer (some ⟨rb, 0, none⟩), t5, .pointer (some ⟨tb, 0, none⟩), .int .i64 k, x8, x9, x10, x11, x12, x13, x14, x15, x16, x17, x18, x19, x20, x21, x22, x23, x24, x25, x26, x27, x28, x29, x30, x31, x32, x33, x34, x35, x36, x37, x38, x39, x40, x41, x42, x43, x44, x45, x46, x47, x48, t49, t50, t51]) W tb rb cT k fun j => D j ∨ j = 2) (o := { dst := some 51, op := Op.call { callee := Callee.value (Operand.func 19), args := #[Operand.tmp 50], argTypes := #[60] }, type := 3, pos := "exact.go:101", after := #[{ on := 1, ground := Ground.data }], guard := none }) rfl 19 #[.tmp 50] _ rfl Try.f19 Try.func19 (by kernel_rfl) rfl #[.int .i64 k] rfl _ (num_any k w1) (fun e w' h => by
        obtain ⟨rfl, hw⟩ := h
        subst hw
        exact ⟨_, rfl, _, _, _, _, rfl, hK.kp, hK.bx, fun h => hK.f0 (or_of h (by decide)), fun _ => rfl, fun _ => rfl, fun h => hK.f3 (or_of h (by decide)), fun h => hK.f3n (fun h2 => h (Or.inl h2)), fun h => hK.f4 (or_of h (by decide))⟩)
      rw [if_pos (by simp [Region.wanted])] at hst
      exact wpOp_wp rfl rfl hst
    | 3, _ =>
      cases hi
      simp [Region.binds] at hdep
      obtain rfl := hK.f0 (by first | exact hdep | exact hdep.1 | exact hdep.2 | exact hdep.2.1)
      have hzb := hK.f3n hnd
      refine wpOp_wp rfl rfl (wp_store_row 45 (.tmp 4) (.tmp 49) rfl rb cT rfl rfl 45 zC hzb (by rw [hs]; exact info45) (by rw [hs]; rfl) ho ?_)
      refine ⟨_, _, _, _, rfl, hK.kp.trans (setRow_but _ _ _), hK.bx.but (setRow_but _ _ _) hne, fun _ => rfl, fun h => hK.f1 (or_of h (by decide)), fun h => hK.f2 (or_of h (by decide)), fun _ => setRow_box hzb, fun h => absurd (Or.inr rfl) h, fun h => hK.f4 (or_of h (by decide))⟩
    | 4, _ =>
      cases hi
      simp [Region.binds] at hdep
      obtain rfl := hK.f2 (by first | exact hdep | exact hdep.1 | exact hdep.2 | exact hdep.2.1)
      refine wpOp_wp rfl rfl ?_
      simp [Oper.wp, execOp, go_sem, Oper.upon, Act.eval, Act.put]
      exact ⟨_, _, _, _, rfl, hK.kp, hK.bx, fun h => hK.f0 (or_of h (by decide)), fun h => hK.f1 (or_of h (by decide)), fun _ => rfl, fun h => hK.f3 (or_of h (by decide)), fun h => hK.f3n (fun h2 => h (Or.inl h2)), fun _ => rfl⟩
  · rintro D c w1 ⟨t5, t49, t50, t51, rfl, hK⟩ hall
    obtain rfl := hK.f0 (hall 0 (by decide))
    obtain rfl := hK.f1 (hall 1 (by decide))
    obtain rfl := hK.f2 (hall 2 (by decide))
    obtain rfl := hK.f4 (hall 4 (by decide))
    exact hQ w1 (hK.f3 (hall 3 (by decide))) hK.kp
end Go.Proofs.Ytikfpoabaaiegaa
