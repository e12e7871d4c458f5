import Derived.Test.YtfonicphdejdlaaGreatPack39
namespace Go.Proofs.YtfonicphdejdlaaGreat
open Go.RowKit
set_option maxRecDepth 8000
/-- what is done of the statement that cuts and reads -/
structure Cl (RC : Array Value → Prop) (RE : Int → Prop) (hb : Nat) (k : Int) (p : Option Addr) (n c m : Nat) (W : World) (D : Nat → Prop) (w : World) (t10 t11 t46 t47 t48 t49 t50 t51 t52 t53 t54 : Value) : Prop where
  kp : Below W.heap.size W w
  f0 : D 0 → t47 = .pointer (some ⟨hb, 0, none⟩)
  f1 : D 1 → t48 = .int .i64 k
  f2 : D 2 → t49 = .slice p n c
  f3 : D 3 → t50 = .int .i64 (m : Int)
  f4 : D 4 → t51 = .slice p m c
  f5 : D 5 → ∃ cV e, t52 = .tuple #[.agg cV, .int .i64 e] ∧ RC cV ∧ RE e
  f6 : D 6 → ∃ cV e, t46 = .tuple #[.agg cV, .int .i64 e] ∧ RC cV ∧ RE e
  f7 : D 7 → ∃ cV, t53 = .agg cV ∧ RC cV
  f8 : D 8 → ∃ e, t54 = .int .i64 e ∧ RE e
  f9 : D 9 → ∃ b, t10 = .pointer (some ⟨b, 0, none⟩) ∧ W.heap.size ≤ b ∧ (¬ D 10 → Box w b zC 45) ∧ (D 10 → ∃ cV, Box w b cV 45 ∧ RC cV)
  f11 : D 11 → ∃ e, t11 = .int .i64 e ∧ RE e
  g : D 10 → D 9
def ClI (T : Value → Value → Value → Value → Value → Value → Value → Value → Value → Value → Value → Array Value) (RC : Array Value → Prop) (RE : Int → Prop) (hb : Nat) (k : Int) (p : Option Addr) (n c m : Nat) (W : World) (D : Nat → Prop) (a : Act) (w : World) : Prop :=
  ∃ t10 t11 t46 t47 t48 t49 t50 t51 t52 t53 t54, a = { tmps := T t10 t11 t46 t47 t48 t49 t50 t51 t52 t53 t54, defers := [] } ∧ Cl RC RE hb k p n c m W D w t10 t11 t46 t47 t48 t49 t50 t51 t52 t53 t54
set_option maxHeartbeats 8000000 in
theorem cut_tail (x0 x1 x2 x4 x5 x6 x8 x12 x13 x14 x15 x16 x17 x18 x19 x20 x21 x22 x23 x24 x25 x26 x27 x28 x29 x30 x31 x32 x33 x34 x35 x36 x37 x38 x39 x40 x41 x42 x43 x44 x45 x55 x56 x57 x58 x59 x60 x61 x62 x63 x64 x65 x66 x67 x68 x69 x70 x71 x72 x73 x74 x75 x76 x77 x78 x79 x80 x81 x82 x83 x84 x85 x86 x87 x88 x89 x90 x91 x92 x93 x94 x95 x96 x97 x98 x99 x100 x101 : Value) (W : World) (RC : Array Value → Prop) (RE : Int → Prop) (hb : Nat) (k : Int) (p : Option Addr) (n c m : Nat) (cU : Array Value) (y10 y11 y46 y47 y48 y49 y50 y51 y52 y53 y54 : Value) (hU : Box W hb cU 45) (hU0 : cU[0]? = some (.int .i64 k)) (hm : m ≤ n) (hn : n ≤ c) (hRC : ∀ cV, RC cV → cV.size = 30 ∧ cV.all (·.oneCell') = true)
    (hG : ∀ w, Below W.heap.size W w → Calls Tryz.prog 12 #[.int .i64 k, .slice p m c] w fun x w' => ∃ cV e, x = .returned (.tuple #[.agg cV, .int .i64 e]) ∧ RC cV ∧ RE e ∧ Below w.heap.size w w') (Q : Exit → Act → World → Prop)
    (hQ : ∀ w' b e cV t46 t47 t48 t49 t50 t51 t52 t53 t54, Below W.heap.size W w' → W.heap.size ≤ b → Box w' b cV 45 → RC cV → RE e → Q .normal { tmps := #[x0, x1, x2, .pointer (some ⟨hb, 0, none⟩), x4, x5, x6, .slice p n c, x8, .int .i64 (m : Int), .pointer (some ⟨b, 0, none⟩), .int .i64 e, x12, x13, x14, x15, x16, x17, x18, x19, x20, x21, x22, x23, x24, x25, x26, x27, x28, x29, x30, x31, x32, x33, x34, x35, x36, x37, x38, x39, x40, x41, x42, x43, x44, x45, t46, t47, t48, t49, t50, t51, t52, t53, t54, x55, x56, x57, x58, x59, x60, x61, x62, x63, x64, x65, x66, x67, x68, x69, x70, x71, x72, x73, x74, x75, x76, x77, x78, x79, x80, x81, x82, x83, x84, x85, x86, x87, x88, x89, x90, x91, x92, x93, x94, x95, x96, x97, x98, x99, x100, x101], defers := [] } w') :
    (Code.region 12 #[{ dst := some 47, op := Op.fieldAddr 45 (Operand.tmp 3) 0, type := 0, pos := "whatfor.go:88", after := #[], guard := none },
        { dst := some 48, op := Op.load 3 (Operand.tmp 47), type := 3, pos := "whatfor.go:88", after := #[{ on := 0, ground := Ground.data }], guard := none },
        { dst := some 49, op := Op.move (Operand.tmp 7), type := 49, pos := "whatfor.go:88", after := #[], guard := none },
        { dst := some 50, op := Op.move (Operand.tmp 9), type := 3, pos := "whatfor.go:88", after := #[], guard := none },
        { dst := some 51, op := Op.slice 49 (Operand.tmp 49) none (some (Operand.tmp 50)) none, type := 49, pos := "whatfor.go:88", after := #[{ on := 2, ground := Ground.data }, { on := 3, ground := Ground.data }], guard := none },
        { dst := some 52, op := Op.call { callee := Callee.value (Operand.func 12), args := #[Operand.tmp 48, Operand.tmp 51], argTypes := #[3, 49] }, type := 52, pos := "whatfor.go:88", after := #[{ on := 1, ground := Ground.data }, { on := 4, ground := Ground.data }], guard := none },
        { dst := some 46, op := Op.move (Operand.tmp 52), type := 52, pos := "whatfor.go:88", after := #[{ on := 5, ground := Ground.data }], guard := none },
        { dst := some 53, op := Op.extract (Operand.tmp 46) 0, type := 45, pos := "whatfor.go:88", after := #[{ on := 6, ground := Ground.data }], guard := none },
        { dst := some 54, op := Op.extract (Operand.tmp 46) 1, type := 3, pos := "whatfor.go:88", after := #[{ on := 6, ground := Ground.data }, { on := 10, ground := Ground.gcOnly Departure.lateStores }], guard := none },
        { dst := some 10, op := Op.alloc 45, type := 0, pos := "whatfor.go:88", after := #[], guard := none },
        { dst := none, op := Op.store 45 (Operand.tmp 10) (Operand.tmp 53), type := 0, pos := "whatfor.go:88", after := #[{ on := 9, ground := Ground.data }, { on := 7, ground := Ground.data }, { on := 5, ground := Ground.chain }, { on := 0, ground := Ground.phase }, { on := 1, ground := Ground.phase }, { on := 2, ground := Ground.phase }, { on := 3, ground := Ground.phase }, { on := 4, ground := Ground.phase }, { on := 5, ground := Ground.phase }, { on := 6, ground := Ground.phase }, { on := 7, ground := Ground.phase }, { on := 8, ground := Ground.textOnly Departure.lateStores }, { on := 9, ground := Ground.phase }], guard := none },
        { dst := some 11, op := Op.assign (Operand.tmp 54), type := 3, pos := "whatfor.go:88", after := #[{ on := 8, ground := Ground.data }, { on := 10, ground := Ground.chain }, { on := 0, ground := Ground.phase }, { on := 1, ground := Ground.phase }, { on := 2, ground := Ground.phase }, { on := 3, ground := Ground.phase }, { on := 4, ground := Ground.phase }, { on := 5, ground := Ground.phase }, { on := 6, ground := Ground.phase }, { on := 7, ground := Ground.phase }, { on := 8, ground := Ground.phase }, { on := 9, ground := Ground.phase }, { on := 10, ground := Ground.phase }], guard := none }] true).wp Tryz.prog Q { tmps := #[x0, x1, x2, .pointer (some ⟨hb, 0, none⟩), x4, x5, x6, .slice p n c, x8, .int .i64 (m : Int), y10, y11, x12, x13, x14, x15, x16, x17, x18, x19, x20, x21, x22, x23, x24, x25, x26, x27, x28, x29, x30, x31, x32, x33, x34, x35, x36, x37, x38, x39, x40, x41, x42, x43, x44, x45, y46, y47, y48, y49, y50, y51, y52, y53, y54, x55, x56, x57, x58, x59, x60, x61, x62, x63, x64, x65, x66, x67, x68, x69, x70, x71, x72, x73, x74, x75, x76, x77, x78, x79, x80, x81, x82, x83, x84, x85, x86, x87, x88, x89, x90, x91, x92, x93, x94, x95, x96, x97, x98, x99, x100, x101], defers := [] } W := by
  refine wp_region_inv (by kernel_rfl) (ClI (fun t10 t11 t46 t47 t48 t49 t50 t51 t52 t53 t54 => #[x0, x1, x2, .pointer (some ⟨hb, 0, none⟩), x4, x5, x6, .slice p n c, x8, .int .i64 (m : Int), t10, t11, x12, x13, x14, x15, x16, x17, x18, x19, x20, x21, x22, x23, x24, x25, x26, x27, x28, x29, x30, x31, x32, x33, x34, x35, x36, x37, x38, x39, x40, x41, x42, x43, x44, x45, t46, t47, t48, t49, t50, t51, t52, t53, t54, x55, x56, x57, x58, x59, x60, x61, x62, x63, x64, x65, x66, x67, x68, x69, x70, x71, x72, x73, x74, x75, x76, x77, x78, x79, x80, x81, x82, x83, x84, x85, x86, x87, x88, x89, x90, x91, x92, x93, x94, x95, x96, x97, x98, x99, x100, x101]) RC RE hb k p n c m W) ?_ (by kernel_rfl) ?_ ?_ ?_
  · rintro D D' a w1 hD ⟨t10, t11, t46, t47, t48, t49, t50, t51, t52, t53, t54, h, hK⟩
    have e : D = D' := funext fun j => propext (hD j)
    subst e
    exact ⟨t10, t11, t46, t47, t48, t49, t50, t51, t52, t53, t54, h, hK⟩
  · intro D hD
    exact ⟨_, _, _, _, _, _, _, _, _, _, _, rfl, (Below.refl _ _).drew, fun h => absurd h (hD _), fun h => absurd h (hD _), fun h => absurd h (hD _), fun h => absurd h (hD _), fun h => absurd h (hD _), fun h => absurd h (hD _), fun h => absurd h (hD _), fun h => absurd h (hD _), fun h => absurd h (hD _), fun h => absurd h (hD _), fun h => absurd h (hD _), fun h => absurd h (hD _)⟩
  · intro D a w1 hI j o hi hnd hdep
    obtain ⟨t10, t11, t46, t47, t48, t49, t50, t51, t52, t53, t54, rfl, hK⟩ := hI
    have hlt : j < 12 := (Array.getElem?_eq_some_iff.1 hi).1
    match j, hlt with
    | 0, _ =>
      cases hi
      refine wpOp_wp rfl rfl ?_
      simp [Oper.wp, execOp, go_sem, Oper.upon, Act.eval, Act.put]
      exact ⟨_, _, _, _, _, _, _, _, _, _, _, rfl, hK.kp, fun _ => rfl, fun h => hK.f1 (or_of h (by decide)), fun h => hK.f2 (or_of h (by decide)), fun h => hK.f3 (or_of h (by decide)), fun h => hK.f4 (or_of h (by decide)), fun h => hK.f5 (or_of h (by decide)), fun h => hK.f6 (or_of h (by decide)), fun h => hK.f7 (or_of h (by decide)), fun h => hK.f8 (or_of h (by decide)), fun h => (hK.f9 (or_of h (by decide))).imp fun b hq => ⟨hq.1, hq.2.1, fun h2 => hq.2.2.1 (fun h3 => h2 (Or.inl h3)), fun h2 => hq.2.2.2 (or_of h2 (by decide))⟩, fun h => hK.f11 (or_of h (by decide)), fun h => Or.inl (hK.g (or_of h (by decide)))⟩
    | 1, _ =>
      cases hi
      simp [Region.binds] at hdep
      obtain rfl := hK.f0 hdep
      have c0 := ((hU.below hK.kp).cell 0).trans hU0
      refine wpOp_wp rfl rfl ?_
      simp [Oper.wp, execOp, go_sem, Oper.upon, Act.eval, Act.put, c0]
      exact ⟨_, _, _, _, _, _, _, _, _, _, _, rfl, hK.kp, fun h => hK.f0 (or_of h (by decide)), fun _ => rfl, fun h => hK.f2 (or_of h (by decide)), fun h => hK.f3 (or_of h (by decide)), fun h => hK.f4 (or_of h (by decide)), fun h => hK.f5 (or_of h (by decide)), fun h => hK.f6 (or_of h (by decide)), fun h => hK.f7 (or_of h (by decide)), fun h => hK.f8 (or_of h (by decide)), fun h => (hK.f9 (or_of h (by decide))).imp fun b hq => ⟨hq.1, hq.2.1, fun h2 => hq.2.2.1 (fun h3 => h2 (Or.inl h3)), fun h2 => hq.2.2.2 (or_of h2 (by decide))⟩, fun h => hK.f11 (or_of h (by decide)), fun h => Or.inl (hK.g (or_of h (by decide)))⟩
    | 2, _ =>
      cases hi
      refine wpOp_wp rfl rfl ?_
      simp [Oper.wp, execOp, go_sem, Oper.upon, Act.eval, Act.put]
      exact ⟨_, _, _, _, _, _, _, _, _, _, _, rfl, hK.kp, fun h => hK.f0 (or_of h (by decide)), fun h => hK.f1 (or_of h (by decide)), fun _ => rfl, fun h => hK.f3 (or_of h (by decide)), fun h => hK.f4 (or_of h (by decide)), fun h => hK.f5 (or_of h (by decide)), fun h => hK.f6 (or_of h (by decide)), fun h => hK.f7 (or_of h (by decide)), fun h => hK.f8 (or_of h (by decide)), fun h => (hK.f9 (or_of h (by decide))).imp fun b hq => ⟨hq.1, hq.2.1, fun h2 => hq.2.2.1 (fun h3 => h2 (Or.inl h3)), fun h2 => hq.2.2.2 (or_of h2 (by decide))⟩, fun h => hK.f11 (or_of h (by decide)), fun h => Or.inl (hK.g (or_of h (by decide)))⟩
    | 3, _ =>
      cases hi
      refine wpOp_wp rfl rfl ?_
      simp [Oper.wp, execOp, go_sem, Oper.upon, Act.eval, Act.put]
      exact ⟨_, _, _, _, _, _, _, _, _, _, _, rfl, hK.kp, fun h => hK.f0 (or_of h (by decide)), fun h => hK.f1 (or_of h (by decide)), fun h => hK.f2 (or_of h (by decide)), fun _ => rfl, fun h => hK.f4 (or_of h (by decide)), fun h => hK.f5 (or_of h (by decide)), fun h => hK.f6 (or_of h (by decide)), fun h => hK.f7 (or_of h (by decide)), fun h => hK.f8 (or_of h (by decide)), fun h => (hK.f9 (or_of h (by decide))).imp fun b hq => ⟨hq.1, hq.2.1, fun h2 => hq.2.2.1 (fun h3 => h2 (Or.inl h3)), fun h2 => hq.2.2.2 (or_of h2 (by decide))⟩, fun h => hK.f11 (or_of h (by decide)), fun h => Or.inl (hK.g (or_of h (by decide)))⟩
    | 4, _ =>
      cases hi
      simp [Region.binds] at hdep
      obtain rfl := hK.f2 hdep.1
      obtain rfl := hK.f3 hdep.2
      refine wpOp_wp rfl rfl ?_
      have hmc : m ≤ c := by omega
      simp [Oper.wp, execOp, go_sem, Oper.upon, Act.eval, Act.put, hmc]
      exact ⟨_, _, _, _, _, _, _, _, _, _, _, rfl, hK.kp, fun h => hK.f0 (or_of h (by decide)), fun h => hK.f1 (or_of h (by decide)), fun h => hK.f2 (or_of h (by decide)), fun h => hK.f3 (or_of h (by decide)), fun _ => rfl, fun h => hK.f5 (or_of h (by decide)), fun h => hK.f6 (or_of h (by decide)), fun h => hK.f7 (or_of h (by decide)), fun h => hK.f8 (or_of h (by decide)), fun h => (hK.f9 (or_of h (by decide))).imp fun b hq => ⟨hq.1, hq.2.1, fun h2 => hq.2.2.1 (fun h3 => h2 (Or.inl h3)), fun h2 => hq.2.2.2 (or_of h2 (by decide))⟩, fun h => hK.f11 (or_of h (by decide)), fun h => Or.inl (hK.g (or_of h (by decide)))⟩
    | 5, _ =>
      cases hi
      simp [Region.binds] at hdep
      obtain rfl := hK.f1 hdep.1
      obtain rfl := hK.f4 hdep.2
      have hst := step_call (Q := Q) (E := False) (ops := #[{ dst := some 47, op := Op.fieldAddr 45 (Operand.tmp 3) 0, type := 0, pos := "whatfor.go:88", after := #[], guard := none },
        { dst := some 48, op := Op.load 3 (Operand.tmp 47), type := 3, pos := "whatfor.go:88", after := #[{ on := 0, ground := Ground.data }], guard := none },
        { dst := some 49, op := Op.move (Operand.tmp 7), type := 49, pos := "whatfor.go:88", after := #[], guard := none },
        { dst := some 50, op := Op.move (Operand.tmp 9), type := 3, pos := "whatfor.go:88", after := #[], guard := none },
        { dst := some 51, op := Op.slice 49 (Operand.tmp 49) none (some (Operand.tmp 50)) none, type := 49, pos := "whatfor.go:88", after := #[{ on := 2, ground := Ground.data }, { on := 3, ground := Ground.data }], guard := none },
        { dst := some 52, op := Op.call { callee := Callee.value (Operand.func 12), args := #[Operand.tmp 48, Operand.tmp 51], argTypes := #[3, 49] }, type := 52, pos := "whatfor.go:88", after := #[{ on := 1, ground := Ground.data }, { on := 4, ground := Ground.data }], guard := none },
        { dst := some 46, op := Op.move (Operand.tmp 52), type := 52, pos := "whatfor.go:88", after := #[{ on := 5, ground := Ground.data }], guard := none },
        { dst := some 53, op := Op.extract (Operand.tmp 46) 0, type := 45, pos := "whatfor.go:88", after := #[{ on := 6, ground := Ground.data }], guard := none },
        { dst := some 54, op := Op.extract (Operand.tmp 46) 1, type := 3, pos := "whatfor.go:88", after := #[{ on := 6, ground := Ground.data }, { on := 10, ground := Ground.gcOnly Departure.lateStores }], guard := none },
        { dst := some 10, op := Op.alloc 45, type := 0, pos := "whatfor.go:88", after := #[], guard := none },
        { dst := none, op := Op.store 45 (Operand.tmp 10) (Operand.tmp 53), type := 0, pos := "whatfor.go:88", after := #[{ on := 9, ground := Ground.data }, { on := 7, ground := Ground.data }, { on := 5, ground := Ground.chain }, { on := 0, ground := Ground.phase }, { on := 1, ground := Ground.phase }, { on := 2, ground := Ground.phase }, { on := 3, ground := Ground.phase }, { on := 4, ground := Ground.phase }, { on := 5, ground := Ground.phase }, { on := 6, ground := Ground.phase }, { on := 7, ground := Ground.phase }, { on := 8, ground := Ground.textOnly Departure.lateStores }, { on := 9, ground := Ground.phase }], guard := none },
        { dst := some 11, op := Op.assign (Operand.tmp 54), type := 3, pos := "whatfor.go:88", after := #[{ on := 8, ground := Ground.data }, { on := 10, ground := Ground.chain }, { on := 0, ground := Ground.phase }, { on := 1, ground := Ground.phase }, { on := 2, ground := Ground.phase }, { on := 3, ground := Ground.phase }, { on := 4, ground := Ground.phase }, { on := 5, ground := Ground.phase }, { on := 6, ground := Ground.phase }, { on := 7, ground := Ground.phase }, { on := 8, ground := Ground.phase }, { on := 9, ground := Ground.phase }, { on := 10, ground := Ground.phase }], guard := none }]) (a := { tmps := #[x0, x1, x2, .pointer (some ⟨hb, 0, none⟩), x4, x5, x6, .slice p n c, x8, .int .i64 (m : Int), t10, t11, x12, x13, x14, x15, x16, x17, x18, x19, x20, x21, x22, x23, x24, x25, x26, x27, x28, x29, x30, x31, x32, x33, x34, x35, x36, x37, x38, x39, x40, x41, x42, x43, x44, x45, t46, t47, (.int .i64 k), t49, t50, (.slice p m c), t52, t53, t54, x55, x56, x57, x58, x59, x60, x61, x62, x63, x64, x65, x66, x67, x68, x69, x70, x71, x72, x73, x74, x75, x76, x77, x78, x79, x80, x81, x82, x83, x84, x85, x86, x87, x88, x89, x90, x91, x92, x93, x94, x95, x96, x97, x98, x99, x100, x101], defers := [] }) (w := w1) (K := ClI (fun t10 t11 t46 t47 t48 t49 t50 t51 t52 t53 t54 => #[x0, x1, x2, .pointer (some ⟨hb, 0, none⟩), x4, x5, x6, .slice p n c, x8, .int .i64 (m : Int), t10, t11, x12, x13, x14, x15, x16, x17, x18, x19, x20, x21, x22, x23, x24, x25, x26, x27, x28, x29, x30, x31, x32, x33, x34, x35, x36, x37, x38, x39, x40, x41, x42, x43, x44, x45, t46, t47, t48, t49, t50, t51, t52, t53, t54, x55, x56, x57, x58, x59, x60, x61, x62, x63, x64, x65, x66, x67, x68, x69, x70, x71, x72, x73, x74, x75, x76, x77, x78, x79, x80, x81, x82, x83, x84, x85, x86, x87, x88, x89, x90, x91, x92, x93, x94, x95, x96, x97, x98, x99, x100, x101]) RC RE hb k p n c m W fun j => D j ∨ j = 5) (o := { dst := some 52, op := Op.call { callee := Callee.value (Operand.func 12), args := #[Operand.tmp 48, Operand.tmp 51], argTypes := #[3, 49] }, type := 52, pos := "whatfor.go:88", after := #[{ on := 1, ground := Ground.data }, { on := 4, ground := Ground.data }], guard := none }) rfl 12 #[.tmp 48, .tmp 51] _ rfl Tryz.f12 Tryz.func12 (by kernel_rfl) rfl #[.int .i64 k, .slice p m c] rfl _ (hG w1 hK.kp) (fun e w' h => by
        obtain ⟨cV, e, rfl, hc1, he1, hbx⟩ := h
        exact ⟨_, rfl, _, _, _, _, _, _, _, _, _, _, _, rfl, hK.kp.trans (hbx.mono hK.kp.size), fun h => hK.f0 (or_of h (by decide)), fun h => hK.f1 (or_of h (by decide)), fun h => hK.f2 (or_of h (by decide)), fun h => hK.f3 (or_of h (by decide)), fun h => hK.f4 (or_of h (by decide)), fun _ => ⟨cV, e, rfl, hc1, he1⟩, fun h => hK.f6 (or_of h (by decide)), fun h => hK.f7 (or_of h (by decide)), fun h => hK.f8 (or_of h (by decide)), fun h => (hK.f9 (or_of h (by decide))).imp fun b hq => ⟨hq.1, hq.2.1, fun h2 => (hq.2.2.1 (fun h3 => h2 (Or.inl h3))).below hbx, fun h2 => (hq.2.2.2 (or_of h2 (by decide))).imp fun cV hv => ⟨hv.1.below hbx, hv.2⟩⟩, fun h => hK.f11 (or_of h (by decide)), fun h => Or.inl (hK.g (or_of h (by decide)))⟩)
      rw [if_pos (by simp [Region.wanted])] at hst
      exact wpOp_wp rfl rfl hst
    | 6, _ =>
      cases hi
      simp [Region.binds] at hdep
      obtain ⟨cV, e, rfl, hc1, he1⟩ := hK.f5 hdep
      refine wpOp_wp rfl rfl ?_
      simp [Oper.wp, execOp, go_sem, Oper.upon, Act.eval, Act.put]
      exact ⟨_, _, _, _, _, _, _, _, _, _, _, rfl, hK.kp, fun h => hK.f0 (or_of h (by decide)), fun h => hK.f1 (or_of h (by decide)), fun h => hK.f2 (or_of h (by decide)), fun h => hK.f3 (or_of h (by decide)), fun h => hK.f4 (or_of h (by decide)), fun _ => ⟨cV, e, rfl, hc1, he1⟩, fun _ => ⟨cV, e, rfl, hc1, he1⟩, fun h => hK.f7 (or_of h (by decide)), fun h => hK.f8 (or_of h (by decide)), fun h => (hK.f9 (or_of h (by decide))).imp fun b hq => ⟨hq.1, hq.2.1, fun h2 => hq.2.2.1 (fun h3 => h2 (Or.inl h3)), fun h2 => hq.2.2.2 (or_of h2 (by decide))⟩, fun h => hK.f11 (or_of h (by decide)), fun h => Or.inl (hK.g (or_of h (by decide)))⟩
    | 7, _ =>
      cases hi
      simp [Region.binds] at hdep
      obtain ⟨cV, e, rfl, hc1, he1⟩ := hK.f6 hdep
      refine wpOp_wp rfl rfl ?_
      simp [Oper.wp, execOp, go_sem, Oper.upon, Act.eval, Act.put]
      exact ⟨_, _, _, _, _, _, _, _, _, _, _, rfl, hK.kp, fun h => hK.f0 (or_of h (by decide)), fun h => hK.f1 (or_of h (by decide)), fun h => hK.f2 (or_of h (by decide)), fun h => hK.f3 (or_of h (by decide)), fun h => hK.f4 (or_of h (by decide)), fun h => hK.f5 (or_of h (by decide)), fun _ => ⟨cV, e, rfl, hc1, he1⟩, fun _ => ⟨cV, rfl, hc1⟩, fun h => hK.f8 (or_of h (by decide)), fun h => (hK.f9 (or_of h (by decide))).imp fun b hq => ⟨hq.1, hq.2.1, fun h2 => hq.2.2.1 (fun h3 => h2 (Or.inl h3)), fun h2 => hq.2.2.2 (or_of h2 (by decide))⟩, fun h => hK.f11 (or_of h (by decide)), fun h => Or.inl (hK.g (or_of h (by decide)))⟩
    | 8, _ =>
      cases hi
      simp [Region.binds] at hdep
      obtain ⟨cV, e, rfl, hc1, he1⟩ := hK.f6 (by first | exact hdep | exact hdep.1)
      refine wpOp_wp rfl rfl ?_
      simp [Oper.wp, execOp, go_sem, Oper.upon, Act.eval, Act.put]
      exact ⟨_, _, _, _, _, _, _, _, _, _, _, rfl, hK.kp, fun h => hK.f0 (or_of h (by decide)), fun h => hK.f1 (or_of h (by decide)), fun h => hK.f2 (or_of h (by decide)), fun h => hK.f3 (or_of h (by decide)), fun h => hK.f4 (or_of h (by decide)), fun h => hK.f5 (or_of h (by decide)), fun _ => ⟨cV, e, rfl, hc1, he1⟩, fun h => hK.f7 (or_of h (by decide)), fun _ => ⟨e, rfl, he1⟩, fun h => (hK.f9 (or_of h (by decide))).imp fun b hq => ⟨hq.1, hq.2.1, fun h2 => hq.2.2.1 (fun h3 => h2 (Or.inl h3)), fun h2 => hq.2.2.2 (or_of h2 (by decide))⟩, fun h => hK.f11 (or_of h (by decide)), fun h => Or.inl (hK.g (or_of h (by decide)))⟩
    | 9, _ =>
      cases hi
      refine wpOp_wp rfl rfl ?_
      simp [Oper.wp, execOp, go_sem, Oper.upon, Act.put]
      exact ⟨_, _, _, _, _, _, _, _, _, _, _, rfl, hK.kp.alloc hK.kp.size _, fun h => hK.f0 (or_of h (by decide)), fun h => hK.f1 (or_of h (by decide)), fun h => hK.f2 (or_of h (by decide)), fun h => hK.f3 (or_of h (by decide)), fun h => hK.f4 (or_of h (by decide)), fun h => hK.f5 (or_of h (by decide)), fun h => hK.f6 (or_of h (by decide)), fun h => hK.f7 (or_of h (by decide)), fun h => hK.f8 (or_of h (by decide)), fun _ => ⟨w1.heap.size, rfl, hK.kp.size, fun _ => Box.new w1 zC 45, fun h => absurd (or_of h (by decide)) (fun h10 => hnd (hK.g h10))⟩, fun h => hK.f11 (or_of h (by decide)), fun h => Or.inl (hK.g (or_of h (by decide)))⟩
    | 10, _ =>
      cases hi
      simp [Region.binds] at hdep
      obtain ⟨b, rfl, hb1, hz, _⟩ := hK.f9 hdep.1
      obtain ⟨cV, rfl, hc1⟩ := hK.f7 hdep.2.1
      have hzb := hz hnd
      have hs := hRC cV hc1
      refine wpOp_wp rfl rfl (wp_store_row 45 (.tmp 10) (.tmp 53) rfl b cV rfl rfl 45 zC hzb (by rw [hs.1]; exact info45) (by rw [hs.1]; rfl) hs.2 ?_)
      refine ⟨_, _, _, _, _, _, _, _, _, _, _, rfl, hK.kp.trans ((setRow_but _ _ _).below hK.kp.size (fun x hx h => by omega)), fun h => hK.f0 (or_of h (by decide)), fun h => hK.f1 (or_of h (by decide)), fun h => hK.f2 (or_of h (by decide)), fun h => hK.f3 (or_of h (by decide)), fun h => hK.f4 (or_of h (by decide)), fun h => hK.f5 (or_of h (by decide)), fun h => hK.f6 (or_of h (by decide)), fun _ => ⟨cV, rfl, hc1⟩, fun h => hK.f8 (or_of h (by decide)), fun _ => ⟨b, rfl, hb1, fun h => absurd (Or.inr rfl) h, fun _ => ⟨cV, setRow_box hzb, hc1⟩⟩, fun h => hK.f11 (or_of h (by decide)), fun _ => Or.inl hdep.1⟩
    | 11, _ =>
      cases hi
      simp [Region.binds] at hdep
      obtain ⟨e, rfl, he1⟩ := hK.f8 hdep.1
      refine wpOp_wp rfl rfl ?_
      simp [Oper.wp, execOp, go_sem, Oper.upon, Act.eval, Act.put]
      exact ⟨_, _, _, _, _, _, _, _, _, _, _, rfl, hK.kp, fun h => hK.f0 (or_of h (by decide)), fun h => hK.f1 (or_of h (by decide)), fun h => hK.f2 (or_of h (by decide)), fun h => hK.f3 (or_of h (by decide)), fun h => hK.f4 (or_of h (by decide)), fun h => hK.f5 (or_of h (by decide)), fun h => hK.f6 (or_of h (by decide)), fun h => hK.f7 (or_of h (by decide)), fun _ => ⟨e, rfl, he1⟩, fun h => (hK.f9 (or_of h (by decide))).imp fun b hq => ⟨hq.1, hq.2.1, fun h2 => hq.2.2.1 (fun h3 => h2 (Or.inl h3)), fun h2 => hq.2.2.2 (or_of h2 (by decide))⟩, fun _ => ⟨e, rfl, he1⟩, fun h => Or.inl (hK.g (or_of h (by decide)))⟩
  · rintro D a w1 ⟨t10, t11, t46, t47, t48, t49, t50, t51, t52, t53, t54, rfl, hK⟩ hall
    obtain ⟨e, rfl, he1⟩ := hK.f11 (hall 11 (by decide))
    obtain ⟨b, rfl, hb1, _, hv⟩ := hK.f9 (hall 9 (by decide))
    obtain ⟨cV, hx, hc1⟩ := hv (hall 10 (by decide))
    exact hQ w1 b e cV _ _ _ _ _ _ _ _ _ hK.kp hb1 hx hc1 he1
end Go.Proofs.YtfonicphdejdlaaGreat

namespace Go.Proofs.YtfonicphdejdlaaGreat
open Go.RowKit
set_option maxRecDepth 8000
theorem own_join {base : Nat} {w : World} {v : Value} {E M : List Int} {nM : Nat} (hn : nM = M.length) (h : w.ownsRow base 5 1 v (E.length + nM) (E.map (Value.int .u8) ++ (List.range nM).map fun j => .int .u8 (M.getD j 0))) : OwnBy base w v (E ++ M) := by
  subst hn
  unfold OwnBy
  have e : M.map (Value.int .u8) = (List.range M.length).map fun j => .int .u8 (M.getD j 0) := by
    apply List.ext_getElem
    · simp
    · intro j h1 h2
      have hj : j < M.length := by simpa using h1
      simp [List.getD_eq_getElem?_getD, List.getElem?_eq_getElem hj]
  rw [List.length_append, List.map_append, e]
  exact h
theorem cut_get {u : HI} {E : List Int} {w5 : World} {p5 : Option Addr} {c5 nE m : Nat} {base : Nat}
    (hG : ∀ (w1 : World) (S1 : Nat → Prop) (p : Option Addr) (c : Nat) (B : List Int), Byts w1 S1 p B.length c (fun j => B.getD j 0) → (∀ b, S1 b → b < w1.heap.size) → Byt B → ∀ W, Below w1.heap.size w1 W → Calls Tryz.prog 12 #[.int .i64 u.kind, .slice p B.length c] W fun x w' => GetH u u.kind E B W x w')
    (hEb : Byt E) (hy : Byts w5 (fun b => base ≤ b) p5 nE c5 (fun j => E.getD j 0)) (hnE : nE = E.length) (hm : m ≤ nE) :
    ∀ W, Below w5.heap.size w5 W → Calls Tryz.prog 12 #[.int .i64 u.kind, .slice p5 m c5] W fun x w' => ∃ cV e, x = .returned (.tuple #[.agg cV, .int .i64 e]) ∧ (cV.size = 30 ∧ cV.all (·.oneCell') = true ∧ (m < nE → cV = kC u.kind)) ∧ (m < nE → e ≠ 0 ∧ e ≠ 44) ∧ Below W.heap.size W w' := by
  intro W hW
  subst hnE
  have hl : (E.take m).length = m := by rw [List.length_take]; omega
  have h1 := hG w5 (fun b => b < w5.heap.size) p5 c5 (E.take m) ((hy.mono fun b _ hl => hl).first m hm) (fun b hb => hb) (fun x hx => hEb x (List.mem_of_mem_take hx)) W hW
  rw [hl] at h1
  refine h1.mono ?_
  rintro x w' ⟨v, e, rfl, _, hb, _, hs, _⟩
  have hd : m < E.length → e ≠ 0 ∧ e ≠ 44 ∧ v.cells = kC u.kind := fun h => hs (E.drop m) (List.take_append_drop m E).symm (fun he => by have := congrArg List.length he; simp at this; omega)
  exact ⟨v.cells, e, rfl, ⟨HI.size v, HI.one v, fun h => (hd h).2.2⟩, fun h => ⟨(hd h).1, (hd h).2.1⟩, hb⟩
set_option maxHeartbeats 8000000 in
theorem cut_walk (t : HI) (w : World) (S : Nat → Prop) (hin : HI.In w S t) (hS : ∀ b, S b → b < w.heap.size) (cut : Int) (_hc0 : -9223372036854775808 ≤ cut) (_hc1 : cut ≤ 9223372036854775807) (pm : Option Addr) (cm : Nat) (M : List Int) (hM : Byts w S pm M.length cm (fun j => M.getD j 0)) (hMb : Byt M) :
    Calls Tryz.prog 7 #[.agg t.cells, .int .i64 cut, .slice pm M.length cm] w fun x w' => x = .returned (.bool true) ∧ Below w.heap.size w w' := by
  have HMy := hid hM
  have HMb := hid hMb
  have HSb := hid hS
  have hMnn := hM.nn
  obtain ⟨nM, hnM⟩ : ∃ nM, nM = M.length := ⟨_, rfl⟩
  have HnM := hid hnM
  rw [← hnM] at HMy hMnn ⊢
  clear hM hMb hnM
  have ha : Below w.heap.size w (w.alloc (.cells t.cells 45)) := (Below.refl _ _).alloc (Nat.le_refl _) _
  have H := fun W => known_any W
  have HBx := hid (Box.new w t.cells 45)
  have HA := hid ha
  have HSz := hid (HI.size t)
  have HM : Hid (∀ W, Below w.heap.size w W → Calls Tryz.prog 9 #[.agg t.cells] W fun x w' => ∃ b, x = .returned (.bool b) ∧ Below W.heap.size W w') := fun W hW => small_any t W S (hin.below hW) (fun b hb => Nat.lt_of_lt_of_le (hS b hb) hW.size)
  have HO := hid (fun W => only_any t W)
  have HP := hid (only_round t w S hin hS)
  have HIn := hid (HI.only_in hin)
  obtain ⟨u, hu⟩ : ∃ u, u = t.only := ⟨_, rfl⟩
  rw [← hu] at HO HP HIn
  clear ha hin hS
  obtain ⟨cT, hcT⟩ : ∃ cT, cT = t.cells := ⟨_, rfl⟩
  rw [← hcT] at HBx HA HSz HM HO ⊢
  clear hcT hu
  go_enter Tryz.func7, Tryz.ntmps7
  go_wp2_with fail
  refine (H _).mono ?_
  rintro x w1 ⟨rfl, hb1⟩
  have hx1 := HBx.out.below hb1
  have HX1 := hid hx1
  have HB1 := hid (HA.out.trans (hb1.mono HA.out.size))
  clear H hb1 hx1
  go_wp2_with (refine wpList_load_row rfl 45 (.tmp 3) rfl w.heap.size rfl 45 cT (0, 0) _ HX1.out Tryz.underlying45 rfl (by rw [info45, HSz.out]) ?_)
  refine (HM.out _ HB1.out).mono ?_
  rintro x w2 ⟨bv, rfl, hb2⟩
  have HX2 := hid (HX1.out.below hb2)
  have HB2 := hid (HB1.out.trans (hb2.mono HB1.out.size))
  clear hb2 HM
  cases bv
  · go_wp2
    go_ret
    exact ⟨rfl, HB2.out⟩
  by_cases hbig : (262144 : Int) < (nM : Int)
  · go_wp2
    go_ret
    exact ⟨rfl, HB2.out⟩
  go_wp2_with (refine wpList_load_row rfl 45 (.tmp 3) rfl w.heap.size rfl 45 cT (0, 0) _ HX2.out Tryz.underlying45 rfl (by rw [info45, HSz.out]) ?_)
  refine (HO.out _).mono ?_
  rintro x w3 ⟨rfl, hb3⟩
  have HX3 := hid (HX2.out.below hb3)
  have HB3 := hid (HB2.out.trans (hb3.mono HB2.out.size))
  clear hb3 HO
  have HU0 : Hid (u.cells[0]? = some (.int .i64 u.kind)) := rfl
  have HUs := hid (HI.size u)
  have HU1 := hid (HI.one u)
  obtain ⟨k5, E, hput, hget⟩ := HP.out
  have HPut := hid hput
  have HGet := hid hget
  have HSm : Hid (∀ (v : HI) (W : World) (R : Nat → Prop), Below w.heap.size w W → HI.In W R v → Calls Tryz.prog 13 #[.agg v.cells, .agg u.cells] W fun e w' => YesNo (ThAlike v u) e W w') := fun v W R hW hv => yThing v u W R S hv (HIn.out.below hW)
  clear hput hget HP
  obtain ⟨cU, hcU⟩ : ∃ cU, cU = u.cells := ⟨_, rfl⟩
  rw [← hcU] at HUs HU1 HPut HU0 HSm ⊢
  clear hcU
  go_wp2_with (refine wpList_store_any rfl 45 (.tmp 3) (.tmp 26) rfl w.heap.size cU rfl rfl 45 cT HX3.out (by rw [info45, HUs.out]) (by rw [HSz.out, HUs.out]) HU1.out ?_)
  intro w4 ht4 hk4
  have HT4 := hid ht4
  have HB4 := hid (HB3.out.trans (hk4.below HB3.out.size (fun b hb h => by omega)))
  clear ht4 hk4
  go_wp2_with (refine wpList_load_row rfl 45 (.tmp 3) rfl w.heap.size rfl 45 cU (0, 0) _ HT4.out Tryz.underlying45 rfl (by rw [info45, HUs.out]) ?_)
  refine (HPut.out _ HB4.out).mono ?_
  rintro x w5 hput
  by_cases hk0 : k5 = 0
  case neg =>
    obtain ⟨rfl, hb5⟩ := hput.2 hk0
    have HB5 := hid (HB4.out.trans (hb5.mono HB4.out.size))
    have hne : ((k5 : Int) != 0) = true := by rw [bne_iff_ne]; omega
    clear hput hb5 HGet HPut HSm
    go_wp2
    go_ret
    exact ⟨rfl, HB5.out⟩
  obtain ⟨v5, rfl, ho5, hb5⟩ := hput.1 hk0
  obtain ⟨hEb, hEl, hG⟩ := HGet.out hk0
  obtain ⟨p5, c5, rfl, hy5⟩ := ho5.byts hEb (by omega)
  have HY := hid hy5
  have HT5 := hid (HT4.out.below hb5)
  have HB5 := hid (HB4.out.trans (hb5.mono HB4.out.size))
  have HG := hid hG
  have HEb := hid hEb
  have hEl2 : E.length ≤ 5000000 := hEl
  have hcc5 := hy5.nc
  have c0 := (HT5.out.cell 0).trans HU0.out
  clear hput HGet HPut hG hEb hEl ho5 hb5 hk0 hy5
  obtain ⟨nE, hnE⟩ : ∃ nE, nE = E.length := ⟨_, rfl⟩
  have HnE := hid hnE
  rw [← hnE] at HY hEl2 hcc5 ⊢
  clear hnE
  have hlo : -((nE : Int) + 1) < cut.tmod ((nE : Int) + 1) := Int.lt_tmod_of_pos _ (by omega)
  have hhi : cut.tmod ((nE : Int) + 1) < (nE : Int) + 1 := Int.tmod_lt_of_pos _ (by omega)
  by_cases hneg : cut.tmod ((nE : Int) + 1) < 0
  · obtain ⟨m, hm⟩ : ∃ m : Nat, cut.tmod ((nE : Int) + 1) + (nE : Int) + 1 = (m : Int) := ⟨(cut.tmod ((nE : Int) + 1) + (nE : Int) + 1).toNat, by omega⟩
    have hmn : m ≤ nE := by omega
    have Hm := hid hm
    clear hm
    have HGm : Hid (∀ W, Below w5.heap.size w5 W → Calls Tryz.prog 12 #[.int .i64 u.kind, .slice p5 m c5] W fun x w' => ∃ cV e, x = .returned (.tuple #[.agg cV, .int .i64 e]) ∧ (cV.size = 30 ∧ cV.all (·.oneCell') = true ∧ (m < nE → cV = kC u.kind)) ∧ (m < nE → e ≠ 0 ∧ e ≠ 44) ∧ Below W.heap.size W w') := cut_get HG.out HEb.out HY.out HnE.out hmn
    go_wp2_with fail
    rw [Hm.out]
    refine cut_tail _ _ _ _ _ _ _ _ _ _ _ _ _ _ _ _ _ _ _ _ _ _ _ _ _ _ _ _ _ _ _ _ _ _ _ _ _ _ _ _ _ _ _ _ _ _ _ _ _ _ _ _ _ _ _ _ _ _ _ _ _ _ _ _ _ _ _ _ _ _ _ _ _ _ _ _ _ _ _ _ _ _ _ _ _ _ _ _ w5 (fun cV => cV.size = 30 ∧ cV.all (·.oneCell') = true ∧ (m < nE → cV = kC u.kind)) (fun e => m < nE → e ≠ 0 ∧ e ≠ 44) w.heap.size u.kind p5 nE c5 m cU _ _ _ _ _ _ _ _ _ _ _ HT5.out HU0.out hmn hcc5 (fun cV h => ⟨h.1, h.2.1⟩) HGm.out _ ?_
    intro w6 b6 e6 cV t46 t47 t48 t49 t50 t51 t52 t53 t54 hb6 hbb hbox hrc hre
    have HT6 := hid (HT5.out.below hb6)
    have HB6 := hid (HB5.out.trans (hb6.mono HB5.out.size))
    have HV6 := hid hbox
    have HY6 := hid (HY.out.kept hb6.size fun b _ hl => hb6.block b hl)
    have HRc := hid hrc
    clear hb6 hbox hrc HGm HY HT5 HB5 hlo hhi c0
    by_cases hlt : m < nE
    · obtain ⟨e0, e44⟩ := hre hlt
      have hlt' : (m : Int) < (nE : Int) := by omega
      have hz0 : (e6 == 0) = false := by simpa using e0
      have hz44 : (e6 == 44) = false := by simpa using e44
      have hcv := HRc.out.2.2 hlt
      subst hcv
      have HZ := hid (sameThing_zero u.kind w6)
      clear hre hlt e0 e44 HRc
      go_wp2_with (refine wpList_load_row_g 45 (.tmp 10) rfl b6 rfl 45 (kC u.kind) (0, 0) _ rfl HV6.out Tryz.underlying45 (by rw [info45]; rfl) (by simp [Region.wanted, yielded, go_sem]) ?_)
      refine HZ.out.mono ?_
      rintro x w7 ⟨rfl, hb7⟩
      have HT7 := hid (HT6.out.below hb7)
      have HB7 := hid (HB6.out.trans (hb7.mono HB6.out.size))
      have HY7 := hid (HY6.out.kept hb7.size fun b _ hl => hb7.block b hl)
      clear hb7 HZ HT6 HB6 HY6 HV6 hz0 hz44 hlt'
      obtain ⟨i0, Kd⟩ := kindB
      have hl7 := HT7.out.lt
      have hw7s := HB7.out.size
      have c0 := (HT7.out.cell 0).trans HU0.out
      have HCp := hid (copyBytes_any w7 (fun b => w4.heap.size ≤ b) p5 c5 E (HnE.out ▸ HY7.out))
      rw [← HnE.out] at HCp
      clear c0
      go_wp2_with fail
      refine HCp.out.mono ?_
      rintro x w8 ⟨v8, rfl, ho8, hb8⟩
      have HT8 := hid (HT7.out.below hb8)
      have HB8 := hid (HB7.out.trans (hb8.mono HB7.out.size))
      have hs8 := hb8.size
      have hEn : E.length ≤ 5000000 := by rw [← HnE.out]; exact hEl2
      have HSrc := hid (HMy.out.kept HB8.out.size fun b _ hl => HB8.out.block b hl).src
      have HO8 := hid ho8
      have hO8 : w8.ownsRow w7.heap.size 5 1 v8 E.length (E.map (Value.int .u8)) := ho8
      clear hb8 ho8 HCp HT7 HB7 HY7
      go_wp2_with (at_builtin; refine wpList_appS rfl (.tmp 75) (.tmp 76) 49 5 i0 _ 1 1 Kd rfl w7.heap.size v8 E.length _ rfl hO8 pm nM cm ((List.range nM).map fun j => .int .u8 (M.getD j 0)) rfl HSrc.out (oneCell_byts nM _) (by omega) (by omega) hs8 ?_)
      intro v9 w9 ho9 hg9 hn9
      have hO9 : OwnBy w7.heap.size w9 v9 (E ++ M) := own_join HnM.out ho9
      have hb9 : Below w7.heap.size w8 w9 := ⟨hg9.os, hg9.tape, hg9.output, hg9.size, fun k hk => hg9.block k (by omega) (fun e => by have := (World.ownsRow.lt hO8 k e.symm).1; omega)⟩
      have HT9 := hid (HT8.out.kept (hb9.block _ hl7))
      have HB9 := hid (HB8.out.trans (hb9.mono hw7s))
      have hBM : Byt (E ++ M) := fun x hx => (List.mem_append.1 hx).elim (HEb.out x) (HMb.out x)
      obtain ⟨p9, c9, rfl, hy9⟩ := hO9.byts hBM (by rw [List.length_append, ← HnM.out]; omega)
      have c0 := (HT9.out.cell 0).trans HU0.out
      have HGa := hid (HG.out w9 (fun b => b < w9.heap.size) p9 c9 (E ++ M) (hy9.mono fun b _ hl => hl) (fun b hb => hb) hBM w9 (Below.refl _ _))
      obtain ⟨nA, hnA⟩ : ∃ n, n = (E ++ M).length := ⟨_, rfl⟩
      rw [← hnA] at HGa ⊢
      clear hnA hBM hy9 hO9 ho9 hg9 hn9 hb9 HO8 hO8 HSrc HT8 HB8 hs8
      go_wp2_with fail
      refine HGa.out.mono ?_
      rintro x wa ⟨v, ea, rfl, hvi, hba, hwh, _, hmo⟩
      have HTa := hid (HT9.out.below hba)
      have HBa := hid (HB9.out.trans (hba.mono HB9.out.size))
      have HZa := hid (Box.new wa zC 45)
      have HVs := hid (HI.size v)
      have HV1 := hid (HI.one v)
      have HVi := hid hvi
      have HSv := hid (fun W R hW hv => HSm.out v W R hW hv)
      have HEnd : Hid ((nM = 0 → ea = 0 ∧ ThAlike v u) ∧ (nM ≠ 0 → ea = 44 ∧ v.cells = kC u.kind)) := by
        refine ⟨fun h => ?_, fun h => hmo M rfl (fun he => h (by rw [HnM.out, he]; rfl))⟩
        have hM0 : M = [] := List.eq_nil_of_length_eq_zero (HnM.out ▸ h)
        obtain ⟨h1, h2, _⟩ := hwh (by rw [hM0, List.append_nil])
        exact ⟨h1, th_symm h2 hvi⟩
      clear hba hvi hwh hmo HGa HT9 HB9 HSm c0
      obtain ⟨cW, hcW⟩ : ∃ c, c = v.cells := ⟨_, rfl⟩
      rw [← hcW] at HVs HV1 HSv HEnd ⊢
      clear hcW
      go_wp2_with (refine wpList_store_any rfl 45 (.tmp 13) (.tmp 83) rfl wa.heap.size cW rfl rfl 45 zC HZa.out (by rw [info45, HVs.out]) (by rw [HVs.out]; rfl) HV1.out ?_)
      intro wb htb hkb
      have hbb' : Below wa.heap.size wa wb := ((Below.refl _ _).alloc (Nat.le_refl _) _).trans (hkb.below (by simp) (fun k hk h => by omega))
      have HTb := hid (HTa.out.below hbb')
      have HBb := hid (HBa.out.trans (hbb'.mono HBa.out.size))
      have HWb := hid htb
      have HSb2 := hid (HSv.out wb _ HBb.out (HVi.out.below hbb'))
      clear htb hkb hbb' HZa HTa HBa HSv
      by_cases hz : nM = 0
      · obtain ⟨hea, hal⟩ := HEnd.out.1 hz
        subst hea
        have HAl := hid hal
        have hz' : ((nM : Int) == 0) = true := by rw [hz]; rfl
        clear HEnd hal hz
        go_wp2_with (first | (refine wpList_load_row_g 45 (.tmp 13) rfl wa.heap.size rfl 45 cW (0, 0) _ rfl HWb.out Tryz.underlying45 (by rw [info45, HVs.out]) (by simp [Region.wanted, yielded, go_sem]) ?_) | (refine wpList_load_row_g 45 (.tmp 3) rfl w.heap.size rfl 45 cU (0, 0) _ rfl HTb.out Tryz.underlying45 (by rw [info45, HUs.out]) (by simp [Region.wanted, yielded, go_sem]) ?_))
        refine HSb2.out.mono ?_
        rintro x wc ⟨r, rfl, hr, hbc⟩
        obtain rfl : r = true := hr.2 HAl.out
        have HBc := hid (HBb.out.trans (hbc.mono HBb.out.size))
        clear hr hbc HSb2
        go_wp2
        go_ret
        exact ⟨rfl, HBc.out⟩
      · obtain ⟨hea, hkc⟩ := HEnd.out.2 hz
        subst hea hkc
        have hz' : ((nM : Int) == 0) = false := by rw [beq_eq_false_iff_ne]; omega
        have HZ := hid (sameThing_zero u.kind wb)
        clear HEnd hz HSb2
        go_wp2_with (refine wpList_load_row_g 45 (.tmp 13) rfl wa.heap.size rfl 45 (kC u.kind) (0, 0) _ rfl HWb.out Tryz.underlying45 (by rw [info45]; rfl) (by simp [Region.wanted, yielded, go_sem]) ?_)
        refine HZ.out.mono ?_
        rintro x wc ⟨rfl, hbc⟩
        have HBc := hid (HBb.out.trans (hbc.mono HBb.out.size))
        clear hbc HZ
        go_wp2
        go_ret
        exact ⟨rfl, HBc.out⟩
    · have hlt' : ¬ (m : Int) < (nE : Int) := by omega
      clear hre hlt HRc HV6
      have HT7 := HT6
      have HB7 := HB6
      have HY7 := HY6
      obtain ⟨w7, hw7⟩ : ∃ w7, w7 = w6 := ⟨_, rfl⟩
      rw [← hw7] at HT7 HB7 HY7 ⊢
      clear HT6 HB6 HY6 hw7
      obtain ⟨i0, Kd⟩ := kindB
      have hl7 := HT7.out.lt
      have hw7s := HB7.out.size
      have c0 := (HT7.out.cell 0).trans HU0.out
      have HCp := hid (copyBytes_any w7 (fun b => w4.heap.size ≤ b) p5 c5 E (HnE.out ▸ HY7.out))
      rw [← HnE.out] at HCp
      clear c0
      go_wp2_with fail
      refine HCp.out.mono ?_
      rintro x w8 ⟨v8, rfl, ho8, hb8⟩
      have HT8 := hid (HT7.out.below hb8)
      have HB8 := hid (HB7.out.trans (hb8.mono HB7.out.size))
      have hs8 := hb8.size
      have hEn : E.length ≤ 5000000 := by rw [← HnE.out]; exact hEl2
      have HSrc := hid (HMy.out.kept HB8.out.size fun b _ hl => HB8.out.block b hl).src
      have HO8 := hid ho8
      have hO8 : w8.ownsRow w7.heap.size 5 1 v8 E.length (E.map (Value.int .u8)) := ho8
      clear hb8 ho8 HCp HT7 HB7 HY7
      go_wp2_with (at_builtin; refine wpList_appS rfl (.tmp 75) (.tmp 76) 49 5 i0 _ 1 1 Kd rfl w7.heap.size v8 E.length _ rfl hO8 pm nM cm ((List.range nM).map fun j => .int .u8 (M.getD j 0)) rfl HSrc.out (oneCell_byts nM _) (by omega) (by omega) hs8 ?_)
      intro v9 w9 ho9 hg9 hn9
      have hO9 : OwnBy w7.heap.size w9 v9 (E ++ M) := own_join HnM.out ho9
      have hb9 : Below w7.heap.size w8 w9 := ⟨hg9.os, hg9.tape, hg9.output, hg9.size, fun k hk => hg9.block k (by omega) (fun e => by have := (World.ownsRow.lt hO8 k e.symm).1; omega)⟩
      have HT9 := hid (HT8.out.kept (hb9.block _ hl7))
      have HB9 := hid (HB8.out.trans (hb9.mono hw7s))
      have hBM : Byt (E ++ M) := fun x hx => (List.mem_append.1 hx).elim (HEb.out x) (HMb.out x)
      obtain ⟨p9, c9, rfl, hy9⟩ := hO9.byts hBM (by rw [List.length_append, ← HnM.out]; omega)
      have c0 := (HT9.out.cell 0).trans HU0.out
      have HGa := hid (HG.out w9 (fun b => b < w9.heap.size) p9 c9 (E ++ M) (hy9.mono fun b _ hl => hl) (fun b hb => hb) hBM w9 (Below.refl _ _))
      obtain ⟨nA, hnA⟩ : ∃ n, n = (E ++ M).length := ⟨_, rfl⟩
      rw [← hnA] at HGa ⊢
      clear hnA hBM hy9 hO9 ho9 hg9 hn9 hb9 HO8 hO8 HSrc HT8 HB8 hs8
      go_wp2_with fail
      refine HGa.out.mono ?_
      rintro x wa ⟨v, ea, rfl, hvi, hba, hwh, _, hmo⟩
      have HTa := hid (HT9.out.below hba)
      have HBa := hid (HB9.out.trans (hba.mono HB9.out.size))
      have HZa := hid (Box.new wa zC 45)
      have HVs := hid (HI.size v)
      have HV1 := hid (HI.one v)
      have HVi := hid hvi
      have HSv := hid (fun W R hW hv => HSm.out v W R hW hv)
      have HEnd : Hid ((nM = 0 → ea = 0 ∧ ThAlike v u) ∧ (nM ≠ 0 → ea = 44 ∧ v.cells = kC u.kind)) := by
        refine ⟨fun h => ?_, fun h => hmo M rfl (fun he => h (by rw [HnM.out, he]; rfl))⟩
        have hM0 : M = [] := List.eq_nil_of_length_eq_zero (HnM.out ▸ h)
        obtain ⟨h1, h2, _⟩ := hwh (by rw [hM0, List.append_nil])
        exact ⟨h1, th_symm h2 hvi⟩
      clear hba hvi hwh hmo HGa HT9 HB9 HSm c0
      obtain ⟨cW, hcW⟩ : ∃ c, c = v.cells := ⟨_, rfl⟩
      rw [← hcW] at HVs HV1 HSv HEnd ⊢
      clear hcW
      go_wp2_with (refine wpList_store_any rfl 45 (.tmp 13) (.tmp 83) rfl wa.heap.size cW rfl rfl 45 zC HZa.out (by rw [info45, HVs.out]) (by rw [HVs.out]; rfl) HV1.out ?_)
      intro wb htb hkb
      have hbb' : Below wa.heap.size wa wb := ((Below.refl _ _).alloc (Nat.le_refl _) _).trans (hkb.below (by simp) (fun k hk h => by omega))
      have HTb := hid (HTa.out.below hbb')
      have HBb := hid (HBa.out.trans (hbb'.mono HBa.out.size))
      have HWb := hid htb
      have HSb2 := hid (HSv.out wb _ HBb.out (HVi.out.below hbb'))
      clear htb hkb hbb' HZa HTa HBa HSv
      by_cases hz : nM = 0
      · obtain ⟨hea, hal⟩ := HEnd.out.1 hz
        subst hea
        have HAl := hid hal
        have hz' : ((nM : Int) == 0) = true := by rw [hz]; rfl
        clear HEnd hal hz
        go_wp2_with (first | (refine wpList_load_row_g 45 (.tmp 13) rfl wa.heap.size rfl 45 cW (0, 0) _ rfl HWb.out Tryz.underlying45 (by rw [info45, HVs.out]) (by simp [Region.wanted, yielded, go_sem]) ?_) | (refine wpList_load_row_g 45 (.tmp 3) rfl w.heap.size rfl 45 cU (0, 0) _ rfl HTb.out Tryz.underlying45 (by rw [info45, HUs.out]) (by simp [Region.wanted, yielded, go_sem]) ?_))
        refine HSb2.out.mono ?_
        rintro x wc ⟨r, rfl, hr, hbc⟩
        obtain rfl : r = true := hr.2 HAl.out
        have HBc := hid (HBb.out.trans (hbc.mono HBb.out.size))
        clear hr hbc HSb2
        go_wp2
        go_ret
        exact ⟨rfl, HBc.out⟩
      · obtain ⟨hea, hkc⟩ := HEnd.out.2 hz
        subst hea hkc
        have hz' : ((nM : Int) == 0) = false := by rw [beq_eq_false_iff_ne]; omega
        have HZ := hid (sameThing_zero u.kind wb)
        clear HEnd hz HSb2
        go_wp2_with (refine wpList_load_row_g 45 (.tmp 13) rfl wa.heap.size rfl 45 (kC u.kind) (0, 0) _ rfl HWb.out Tryz.underlying45 (by rw [info45]; rfl) (by simp [Region.wanted, yielded, go_sem]) ?_)
        refine HZ.out.mono ?_
        rintro x wc ⟨rfl, hbc⟩
        have HBc := hid (HBb.out.trans (hbc.mono HBb.out.size))
        clear hbc HZ
        go_wp2
        go_ret
        exact ⟨rfl, HBc.out⟩
  · obtain ⟨m, hm⟩ : ∃ m : Nat, cut.tmod ((nE : Int) + 1) = (m : Int) := ⟨(cut.tmod ((nE : Int) + 1)).toNat, by omega⟩
    have hmn : m ≤ nE := by omega
    have Hm := hid hm
    clear hm
    have HGm : Hid (∀ W, Below w5.heap.size w5 W → Calls Tryz.prog 12 #[.int .i64 u.kind, .slice p5 m c5] W fun x w' => ∃ cV e, x = .returned (.tuple #[.agg cV, .int .i64 e]) ∧ (cV.size = 30 ∧ cV.all (·.oneCell') = true ∧ (m < nE → cV = kC u.kind)) ∧ (m < nE → e ≠ 0 ∧ e ≠ 44) ∧ Below W.heap.size W w') := cut_get HG.out HEb.out HY.out HnE.out hmn
    go_wp2_with fail
    rw [Hm.out]
    refine cut_tail _ _ _ _ _ _ _ _ _ _ _ _ _ _ _ _ _ _ _ _ _ _ _ _ _ _ _ _ _ _ _ _ _ _ _ _ _ _ _ _ _ _ _ _ _ _ _ _ _ _ _ _ _ _ _ _ _ _ _ _ _ _ _ _ _ _ _ _ _ _ _ _ _ _ _ _ _ _ _ _ _ _ _ _ _ _ _ _ w5 (fun cV => cV.size = 30 ∧ cV.all (·.oneCell') = true ∧ (m < nE → cV = kC u.kind)) (fun e => m < nE → e ≠ 0 ∧ e ≠ 44) w.heap.size u.kind p5 nE c5 m cU _ _ _ _ _ _ _ _ _ _ _ HT5.out HU0.out hmn hcc5 (fun cV h => ⟨h.1, h.2.1⟩) HGm.out _ ?_
    intro w6 b6 e6 cV t46 t47 t48 t49 t50 t51 t52 t53 t54 hb6 hbb hbox hrc hre
    have HT6 := hid (HT5.out.below hb6)
    have HB6 := hid (HB5.out.trans (hb6.mono HB5.out.size))
    have HV6 := hid hbox
    have HY6 := hid (HY.out.kept hb6.size fun b _ hl => hb6.block b hl)
    have HRc := hid hrc
    clear hb6 hbox hrc HGm HY HT5 HB5 hlo hhi c0
    by_cases hlt : m < nE
    · obtain ⟨e0, e44⟩ := hre hlt
      have hlt' : (m : Int) < (nE : Int) := by omega
      have hz0 : (e6 == 0) = false := by simpa using e0
      have hz44 : (e6 == 44) = false := by simpa using e44
      have hcv := HRc.out.2.2 hlt
      subst hcv
      have HZ := hid (sameThing_zero u.kind w6)
      clear hre hlt e0 e44 HRc
      go_wp2_with (refine wpList_load_row_g 45 (.tmp 10) rfl b6 rfl 45 (kC u.kind) (0, 0) _ rfl HV6.out Tryz.underlying45 (by rw [info45]; rfl) (by simp [Region.wanted, yielded, go_sem]) ?_)
      refine HZ.out.mono ?_
      rintro x w7 ⟨rfl, hb7⟩
      have HT7 := hid (HT6.out.below hb7)
      have HB7 := hid (HB6.out.trans (hb7.mono HB6.out.size))
      have HY7 := hid (HY6.out.kept hb7.size fun b _ hl => hb7.block b hl)
      clear hb7 HZ HT6 HB6 HY6 HV6 hz0 hz44 hlt'
      obtain ⟨i0, Kd⟩ := kindB
      have hl7 := HT7.out.lt
      have hw7s := HB7.out.size
      have c0 := (HT7.out.cell 0).trans HU0.out
      have HCp := hid (copyBytes_any w7 (fun b => w4.heap.size ≤ b) p5 c5 E (HnE.out ▸ HY7.out))
      rw [← HnE.out] at HCp
      clear c0
      go_wp2_with fail
      refine HCp.out.mono ?_
      rintro x w8 ⟨v8, rfl, ho8, hb8⟩
      have HT8 := hid (HT7.out.below hb8)
      have HB8 := hid (HB7.out.trans (hb8.mono HB7.out.size))
      have hs8 := hb8.size
      have hEn : E.length ≤ 5000000 := by rw [← HnE.out]; exact hEl2
      have HSrc := hid (HMy.out.kept HB8.out.size fun b _ hl => HB8.out.block b hl).src
      have HO8 := hid ho8
      have hO8 : w8.ownsRow w7.heap.size 5 1 v8 E.length (E.map (Value.int .u8)) := ho8
      clear hb8 ho8 HCp HT7 HB7 HY7
      go_wp2_with (at_builtin; refine wpList_appS rfl (.tmp 75) (.tmp 76) 49 5 i0 _ 1 1 Kd rfl w7.heap.size v8 E.length _ rfl hO8 pm nM cm ((List.range nM).map fun j => .int .u8 (M.getD j 0)) rfl HSrc.out (oneCell_byts nM _) (by omega) (by omega) hs8 ?_)
      intro v9 w9 ho9 hg9 hn9
      have hO9 : OwnBy w7.heap.size w9 v9 (E ++ M) := own_join HnM.out ho9
      have hb9 : Below w7.heap.size w8 w9 := ⟨hg9.os, hg9.tape, hg9.output, hg9.size, fun k hk => hg9.block k (by omega) (fun e => by have := (World.ownsRow.lt hO8 k e.symm).1; omega)⟩
      have HT9 := hid (HT8.out.kept (hb9.block _ hl7))
      have HB9 := hid (HB8.out.trans (hb9.mono hw7s))
      have hBM : Byt (E ++ M) := fun x hx => (List.mem_append.1 hx).elim (HEb.out x) (HMb.out x)
      obtain ⟨p9, c9, rfl, hy9⟩ := hO9.byts hBM (by rw [List.length_append, ← HnM.out]; omega)
      have c0 := (HT9.out.cell 0).trans HU0.out
      have HGa := hid (HG.out w9 (fun b => b < w9.heap.size) p9 c9 (E ++ M) (hy9.mono fun b _ hl => hl) (fun b hb => hb) hBM w9 (Below.refl _ _))
      obtain ⟨nA, hnA⟩ : ∃ n, n = (E ++ M).length := ⟨_, rfl⟩
      rw [← hnA] at HGa ⊢
      clear hnA hBM hy9 hO9 ho9 hg9 hn9 hb9 HO8 hO8 HSrc HT8 HB8 hs8
      go_wp2_with fail
      refine HGa.out.mono ?_
      rintro x wa ⟨v, ea, rfl, hvi, hba, hwh, _, hmo⟩
      have HTa := hid (HT9.out.below hba)
      have HBa := hid (HB9.out.trans (hba.mono HB9.out.size))
      have HZa := hid (Box.new wa zC 45)
      have HVs := hid (HI.size v)
      have HV1 := hid (HI.one v)
      have HVi := hid hvi
      have HSv := hid (fun W R hW hv => HSm.out v W R hW hv)
      have HEnd : Hid ((nM = 0 → ea = 0 ∧ ThAlike v u) ∧ (nM ≠ 0 → ea = 44 ∧ v.cells = kC u.kind)) := by
        refine ⟨fun h => ?_, fun h => hmo M rfl (fun he => h (by rw [HnM.out, he]; rfl))⟩
        have hM0 : M = [] := List.eq_nil_of_length_eq_zero (HnM.out ▸ h)
        obtain ⟨h1, h2, _⟩ := hwh (by rw [hM0, List.append_nil])
        exact ⟨h1, th_symm h2 hvi⟩
      clear hba hvi hwh hmo HGa HT9 HB9 HSm c0
      obtain ⟨cW, hcW⟩ : ∃ c, c = v.cells := ⟨_, rfl⟩
      rw [← hcW] at HVs HV1 HSv HEnd ⊢
      clear hcW
      go_wp2_with (refine wpList_store_any rfl 45 (.tmp 13) (.tmp 83) rfl wa.heap.size cW rfl rfl 45 zC HZa.out (by rw [info45, HVs.out]) (by rw [HVs.out]; rfl) HV1.out ?_)
      intro wb htb hkb
      have hbb' : Below wa.heap.size wa wb := ((Below.refl _ _).alloc (Nat.le_refl _) _).trans (hkb.below (by simp) (fun k hk h => by omega))
      have HTb := hid (HTa.out.below hbb')
      have HBb := hid (HBa.out.trans (hbb'.mono HBa.out.size))
      have HWb := hid htb
      have HSb2 := hid (HSv.out wb _ HBb.out (HVi.out.below hbb'))
      clear htb hkb hbb' HZa HTa HBa HSv
      by_cases hz : nM = 0
      · obtain ⟨hea, hal⟩ := HEnd.out.1 hz
        subst hea
        have HAl := hid hal
        have hz' : ((nM : Int) == 0) = true := by rw [hz]; rfl
        clear HEnd hal hz
        go_wp2_with (first | (refine wpList_load_row_g 45 (.tmp 13) rfl wa.heap.size rfl 45 cW (0, 0) _ rfl HWb.out Tryz.underlying45 (by rw [info45, HVs.out]) (by simp [Region.wanted, yielded, go_sem]) ?_) | (refine wpList_load_row_g 45 (.tmp 3) rfl w.heap.size rfl 45 cU (0, 0) _ rfl HTb.out Tryz.underlying45 (by rw [info45, HUs.out]) (by simp [Region.wanted, yielded, go_sem]) ?_))
        refine HSb2.out.mono ?_
        rintro x wc ⟨r, rfl, hr, hbc⟩
        obtain rfl : r = true := hr.2 HAl.out
        have HBc := hid (HBb.out.trans (hbc.mono HBb.out.size))
        clear hr hbc HSb2
        go_wp2
        go_ret
        exact ⟨rfl, HBc.out⟩
      · obtain ⟨hea, hkc⟩ := HEnd.out.2 hz
        subst hea hkc
        have hz' : ((nM : Int) == 0) = false := by rw [beq_eq_false_iff_ne]; omega
        have HZ := hid (sameThing_zero u.kind wb)
        clear HEnd hz HSb2
        go_wp2_with (refine wpList_load_row_g 45 (.tmp 13) rfl wa.heap.size rfl 45 (kC u.kind) (0, 0) _ rfl HWb.out Tryz.underlying45 (by rw [info45]; rfl) (by simp [Region.wanted, yielded, go_sem]) ?_)
        refine HZ.out.mono ?_
        rintro x wc ⟨rfl, hbc⟩
        have HBc := hid (HBb.out.trans (hbc.mono HBb.out.size))
        clear hbc HZ
        go_wp2
        go_ret
        exact ⟨rfl, HBc.out⟩
    · have hlt' : ¬ (m : Int) < (nE : Int) := by omega
      clear hre hlt HRc HV6
      have HT7 := HT6
      have HB7 := HB6
      have HY7 := HY6
      obtain ⟨w7, hw7⟩ : ∃ w7, w7 = w6 := ⟨_, rfl⟩
      rw [← hw7] at HT7 HB7 HY7 ⊢
      clear HT6 HB6 HY6 hw7
      obtain ⟨i0, Kd⟩ := kindB
      have hl7 := HT7.out.lt
      have hw7s := HB7.out.size
      have c0 := (HT7.out.cell 0).trans HU0.out
      have HCp := hid (copyBytes_any w7 (fun b => w4.heap.size ≤ b) p5 c5 E (HnE.out ▸ HY7.out))
      rw [← HnE.out] at HCp
      clear c0
      go_wp2_with fail
      refine HCp.out.mono ?_
      rintro x w8 ⟨v8, rfl, ho8, hb8⟩
      have HT8 := hid (HT7.out.below hb8)
      have HB8 := hid (HB7.out.trans (hb8.mono HB7.out.size))
      have hs8 := hb8.size
      have hEn : E.length ≤ 5000000 := by rw [← HnE.out]; exact hEl2
      have HSrc := hid (HMy.out.kept HB8.out.size fun b _ hl => HB8.out.block b hl).src
      have HO8 := hid ho8
      have hO8 : w8.ownsRow w7.heap.size 5 1 v8 E.length (E.map (Value.int .u8)) := ho8
      clear hb8 ho8 HCp HT7 HB7 HY7
      go_wp2_with (at_builtin; refine wpList_appS rfl (.tmp 75) (.tmp 76) 49 5 i0 _ 1 1 Kd rfl w7.heap.size v8 E.length _ rfl hO8 pm nM cm ((List.range nM).map fun j => .int .u8 (M.getD j 0)) rfl HSrc.out (oneCell_byts nM _) (by omega) (by omega) hs8 ?_)
      intro v9 w9 ho9 hg9 hn9
      have hO9 : OwnBy w7.heap.size w9 v9 (E ++ M) := own_join HnM.out ho9
      have hb9 : Below w7.heap.size w8 w9 := ⟨hg9.os, hg9.tape, hg9.output, hg9.size, fun k hk => hg9.block k (by omega) (fun e => by have := (World.ownsRow.lt hO8 k e.symm).1; omega)⟩
      have HT9 := hid (HT8.out.kept (hb9.block _ hl7))
      have HB9 := hid (HB8.out.trans (hb9.mono hw7s))
      have hBM : Byt (E ++ M) := fun x hx => (List.mem_append.1 hx).elim (HEb.out x) (HMb.out x)
      obtain ⟨p9, c9, rfl, hy9⟩ := hO9.byts hBM (by rw [List.length_append, ← HnM.out]; omega)
      have c0 := (HT9.out.cell 0).trans HU0.out
      have HGa := hid (HG.out w9 (fun b => b < w9.heap.size) p9 c9 (E ++ M) (hy9.mono fun b _ hl => hl) (fun b hb => hb) hBM w9 (Below.refl _ _))
      obtain ⟨nA, hnA⟩ : ∃ n, n = (E ++ M).length := ⟨_, rfl⟩
      rw [← hnA] at HGa ⊢
      clear hnA hBM hy9 hO9 ho9 hg9 hn9 hb9 HO8 hO8 HSrc HT8 HB8 hs8
      go_wp2_with fail
      refine HGa.out.mono ?_
      rintro x wa ⟨v, ea, rfl, hvi, hba, hwh, _, hmo⟩
      have HTa := hid (HT9.out.below hba)
      have HBa := hid (HB9.out.trans (hba.mono HB9.out.size))
      have HZa := hid (Box.new wa zC 45)
      have HVs := hid (HI.size v)
      have HV1 := hid (HI.one v)
      have HVi := hid hvi
      have HSv := hid (fun W R hW hv => HSm.out v W R hW hv)
      have HEnd : Hid ((nM = 0 → ea = 0 ∧ ThAlike v u) ∧ (nM ≠ 0 → ea = 44 ∧ v.cells = kC u.kind)) := by
        refine ⟨fun h => ?_, fun h => hmo M rfl (fun he => h (by rw [HnM.out, he]; rfl))⟩
        have hM0 : M = [] := List.eq_nil_of_length_eq_zero (HnM.out ▸ h)
        obtain ⟨h1, h2, _⟩ := hwh (by rw [hM0, List.append_nil])
        exact ⟨h1, th_symm h2 hvi⟩
      clear hba hvi hwh hmo HGa HT9 HB9 HSm c0
      obtain ⟨cW, hcW⟩ : ∃ c, c = v.cells := ⟨_, rfl⟩
      rw [← hcW] at HVs HV1 HSv HEnd ⊢
      clear hcW
      go_wp2_with (refine wpList_store_any rfl 45 (.tmp 13) (.tmp 83) rfl wa.heap.size cW rfl rfl 45 zC HZa.out (by rw [info45, HVs.out]) (by rw [HVs.out]; rfl) HV1.out ?_)
      intro wb htb hkb
      have hbb' : Below wa.heap.size wa wb := ((Below.refl _ _).alloc (Nat.le_refl _) _).trans (hkb.below (by simp) (fun k hk h => by omega))
      have HTb := hid (HTa.out.below hbb')
      have HBb := hid (HBa.out.trans (hbb'.mono HBa.out.size))
      have HWb := hid htb
      have HSb2 := hid (HSv.out wb _ HBb.out (HVi.out.below hbb'))
      clear htb hkb hbb' HZa HTa HBa HSv
      by_cases hz : nM = 0
      · obtain ⟨hea, hal⟩ := HEnd.out.1 hz
        subst hea
        have HAl := hid hal
        have hz' : ((nM : Int) == 0) = true := by rw [hz]; rfl
        clear HEnd hal hz
        go_wp2_with (first | (refine wpList_load_row_g 45 (.tmp 13) rfl wa.heap.size rfl 45 cW (0, 0) _ rfl HWb.out Tryz.underlying45 (by rw [info45, HVs.out]) (by simp [Region.wanted, yielded, go_sem]) ?_) | (refine wpList_load_row_g 45 (.tmp 3) rfl w.heap.size rfl 45 cU (0, 0) _ rfl HTb.out Tryz.underlying45 (by rw [info45, HUs.out]) (by simp [Region.wanted, yielded, go_sem]) ?_))
        refine HSb2.out.mono ?_
        rintro x wc ⟨r, rfl, hr, hbc⟩
        obtain rfl : r = true := hr.2 HAl.out
        have HBc := hid (HBb.out.trans (hbc.mono HBb.out.size))
        clear hr hbc HSb2
        go_wp2
        go_ret
        exact ⟨rfl, HBc.out⟩
      · obtain ⟨hea, hkc⟩ := HEnd.out.2 hz
        subst hea hkc
        have hz' : ((nM : Int) == 0) = false := by rw [beq_eq_false_iff_ne]; omega
        have HZ := hid (sameThing_zero u.kind wb)
        clear HEnd hz HSb2
        go_wp2_with (refine wpList_load_row_g 45 (.tmp 13) rfl wa.heap.size rfl 45 (kC u.kind) (0, 0) _ rfl HWb.out Tryz.underlying45 (by rw [info45]; rfl) (by simp [Region.wanted, yielded, go_sem]) ?_)
        refine HZ.out.mono ?_
        rintro x wc ⟨rfl, hbc⟩
        have HBc := hid (HBb.out.trans (hbc.mono HBb.out.size))
        clear hbc HZ
        go_wp2
        go_ret
        exact ⟨rfl, HBc.out⟩
end Go.Proofs.YtfonicphdejdlaaGreat
