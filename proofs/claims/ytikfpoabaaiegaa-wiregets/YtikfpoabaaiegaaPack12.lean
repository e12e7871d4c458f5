import Derived.Test.YtikfpoabaaiegaaWrM
import Derived.Test.YtikfpoabaaiegaaPack2
import Derived.Test.YtikfpoabaaiegaaPack1
namespace Go.Proofs.Ytikfpoabaaiegaa
open Go.RowKit
set_option maxRecDepth 8000
structure WholeP {α β : Type} (s : RS α) (val : β → Value) (zero : Value) (In : World → (Nat → Prop) → β → Prop) (Is : β → α → Prop) (w : World) (B : List Int) (x : Ending) (w' : World) : Prop where
  bel : Below w.heap.size w w'
  good : ∀ y, s B = .ok (y, []) → ∃ t, x = .returned (.tuple #[val t, .int .i64 0]) ∧ In w' (fun b => w.heap.size ≤ b) t ∧ Is t y
  more : ∀ y z R, s B = .ok (y, z :: R) → x = .returned (.tuple #[zero, .int .i64 44])
  bad : ∀ k : Nat, s B = .error k → x = .returned (.tuple #[zero, .int .i64 (k : Int)]) ∧ k ≠ 0
def MT.In (w : World) (S : Nat → Prop) (m : MT) : Prop := m.id ≤ 9999 ∧ m.sum < 4294967296 ∧ LT.In elRow w S m.rows
theorem MT.In.mono {w : World} {S S' : Nat → Prop} {m : MT} (h : MT.In w S m) (hb : ∀ b, S b → b < w.heap.size → S' b) : MT.In w S' m := ⟨h.1, h.2.1, h.2.2.mono hb⟩
theorem MT.In.but {w w' : World} {S X : Nat → Prop} {m : MT} (h : MT.In w S m) (hb : But X w w') (hx : ∀ b, S b → b < w.heap.size → ¬ X b) : MT.In w' S m := ⟨h.1, h.2.1, h.2.2.but hb hx⟩
theorem MT.In.below {w w' : World} {S : Nat → Prop} {m : MT} (h : MT.In w S m) (hb : Below w.heap.size w w') : MT.In w' S m := ⟨h.1, h.2.1, h.2.2.below hb⟩
def OT.In (w : World) (S : Nat → Prop) (o : OT) : Prop := o.num ≤ 1073741824 ∧ RT.In w S o.rec_
theorem OT.In.mono {w : World} {S S' : Nat → Prop} {o : OT} (h : OT.In w S o) (hb : ∀ b, S b → b < w.heap.size → S' b) : OT.In w S' o := ⟨h.1, h.2.mono hb⟩
theorem OT.In.but {w w' : World} {S X : Nat → Prop} {o : OT} (h : OT.In w S o) (hb : But X w w') (hx : ∀ b, S b → b < w.heap.size → ¬ X b) : OT.In w' S o := ⟨h.1, h.2.but hb hx⟩
theorem OT.In.below {w w' : World} {S : Nat → Prop} {o : OT} (h : OT.In w S o) (hb : Below w.heap.size w w') : OT.In w' S o := ⟨h.1, h.2.below hb⟩
theorem DT.In.below {w w' : World} {S : Nat → Prop} {d : DT} (h : DT.In w S d) (hb : Below w.heap.size w w') : DT.In w' S d := ⟨h.n, h.set.below hb, h.gone.below hb⟩
theorem GT.In.mono {w : World} {S S' : Nat → Prop} {g : GT} (h : GT.In w S g) (hb : ∀ b, S b → b < w.heap.size → S' b) : GT.In w S' g := ⟨h.id, h.task, h.base, h.sum, h.st.mono hb, h.d.mono hb, h.logs.mono hb, h.pend.mono hb⟩
theorem GT.In.but {w w' : World} {S X : Nat → Prop} {g : GT} (h : GT.In w S g) (hb : But X w w') (hx : ∀ b, S b → b < w.heap.size → ¬ X b) : GT.In w' S g := ⟨h.id, h.task, h.base, h.sum, h.st.but hb hx, h.d.but hb hx, h.logs.but hb hx, h.pend.but hb hx⟩
theorem GT.In.below {w w' : World} {S : Nat → Prop} {g : GT} (h : GT.In w S g) (hb : Below w.heap.size w w') : GT.In w' S g := ⟨h.id, h.task, h.base, h.sum, h.st.below hb, h.d.below hb, h.logs.below hb, h.pend.below hb⟩
theorem rdr_start {w : World} {S : Nat → Prop} {p : Option Addr} {c : Nat} {B : List Int} {A : Array Value} {t : TypeId} (hB : Byts w S p B.length c (fun j => B.getD j 0)) (hS : ∀ b, S b → b < w.heap.size) (hp : p = none → B.length = 0) :
    Rdr ((w.alloc (.cells A t)).alloc (.cells #[.slice p B.length B.length, .int .i64 0] 187)) S (w.heap.size + 1) B 0 ∧ Box ((w.alloc (.cells A t)).alloc (.cells #[.slice p B.length B.length, .int .i64 0] 187)) w.heap.size A t ∧ Below w.heap.size w ((w.alloc (.cells A t)).alloc (.cells #[.slice p B.length B.length, .int .i64 0] 187)) ∧ ((w.alloc (.cells A t)).alloc (.cells #[.slice p B.length B.length, .int .i64 0] 187)).heap.size = w.heap.size + 2 := by
  have hb1 : Below w.heap.size w (w.alloc (.cells A t)) := (Below.refl _ _).alloc (Nat.le_refl _) _
  have hb2 := (Below.refl (w.alloc (.cells A t)).heap.size (w.alloc (.cells A t))).alloc (Nat.le_refl _) (.cells #[.slice p B.length B.length, .int .i64 0] 187)
  have hbx := Box.new (w.alloc (.cells A t)) #[.slice p B.length B.length, .int .i64 0] 187
  rw [show (w.alloc (.cells A t)).heap.size = w.heap.size + 1 by simp] at hbx
  have hB2 : Byts w S p B.length B.length (fun j => B.getD j 0) := ⟨hB.at_, Nat.le_refl _, hB.nn, Nat.le_trans hB.nc hB.cc, hB.fit, fun h => ⟨hp h, hp h⟩⟩
  have hb : Below w.heap.size w ((w.alloc (.cells A t)).alloc (.cells #[.slice p B.length B.length, .int .i64 0] 187)) := hb1.trans (hb2.mono (by simp))
  refine ⟨⟨⟨p, hbx, hB2.kept hb.size fun b _ hl => hb.block b hl⟩, fun h => by have := hS _ h; omega⟩, (Box.new w A t).below hb2, hb, by simp⟩
end Go.Proofs.Ytikfpoabaaiegaa

namespace Go.Proofs.Ytikfpoabaaiegaa
open Go.RowKit
set_option maxRecDepth 8000

end Go.Proofs.Ytikfpoabaaiegaa

namespace Go.Proofs.Ytikfpoabaaiegaa
open Go.RowKit
set_option maxRecDepth 8000

end Go.Proofs.Ytikfpoabaaiegaa

namespace Go.Proofs.Ytikfpoabaaiegaa
open Go.RowKit
set_option maxRecDepth 8000

end Go.Proofs.Ytikfpoabaaiegaa

namespace Go.Proofs.Ytikfpoabaaiegaa
open Go.RowKit
set_option maxRecDepth 8000

end Go.Proofs.Ytikfpoabaaiegaa
