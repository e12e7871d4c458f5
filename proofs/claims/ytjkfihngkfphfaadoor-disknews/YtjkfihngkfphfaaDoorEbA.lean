import Derived.Test.YtjkfihngkfphfaaDoorEaD
import Derived.Test.YtjkfihngkfphfaaDoorDkY
import Derived.Test.YtjkfihngkfphfaaDoorByts
import Derived.Test.YtjkfihngkfphfaaDoorLstG
namespace Go.Proofs.YtjkfihngkfphfaaDoor
open Go.RowKit
set_option maxRecDepth 8000
/-- a file of a disk: its name, its block, its bytes' row, its bytes, how many are sure -/
structure FT where
  name : ByteArray
  fb : Nat
  p : Option Addr
  c : Nat
  zs : List Int
  sure : Nat
def FT.dv (f : FT) : Value := .slice f.p f.zs.length f.c
/-- the blocks of a file -/
def FT.blk (f : FT) (k : Nat) : Prop := k = f.fb ∨ f.dv.ownBlock = some k
structure FtI (w : World) (C : Nat → Prop) (f : FT) : Prop where
  nm : Nm f.name
  bx : Box w f.fb #[.slice f.p f.zs.length f.c, .int .i64 f.sure] 64
  row : OwnBy 0 w (.slice f.p f.zs.length f.c) f.zs
  rc : ∀ g, (Value.slice f.p f.zs.length f.c).ownBlock = some g → C g ∧ g ≠ f.fb
  fc : C f.fb
  le : f.zs.length ≤ 65536
  su : f.sure ≤ f.zs.length
  by_ : ∀ z ∈ f.zs, 0 ≤ z ∧ z ≤ 255
theorem FtI.blk {w : World} {C : Nat → Prop} {f : FT} (h : FtI w C f) {k : Nat} (hk : f.blk k) : C k ∧ k < w.heap.size := by
  rcases hk with rfl | hk
  · exact ⟨h.fc, h.bx.lt⟩
  · exact ⟨(h.rc k hk).1, (h.row.lt k hk).2⟩
theorem FtI.kept {w w' : World} {C C' : Nat → Prop} {f : FT} (h : FtI w C f) (hb : ∀ k, f.blk k → w'.heap[k]? = w.heap[k]?) (hc : ∀ k, f.blk k → C' k) : FtI w' C' f :=
  ⟨h.nm, h.bx.kept (hb _ (.inl rfl)), ownsRow_keep h.row fun g hg _ => hb g (.inr hg), fun g hg => ⟨hc g (.inr hg), (h.rc g hg).2⟩, hc _ (.inl rfl), h.le, h.su, h.by_⟩
/-- a disk -/
structure DK where
  mb : Nat
  fs : List FT
  set : Bool
  units : Int
  after : Int
  calls : Int
  down : Bool
def DK.ents (D : DK) : List (ByteArray × Value) := D.fs.map fun f => (f.name, .pointer (some ⟨f.fb, 0, none⟩))
/-- a disk in memory: its blocks are of C, apart from one another -/
structure DkI (w : World) (C : Nat → Prop) (db : Nat) (D : DK) : Prop where
  bx : Box w db #[.map (some D.mb), .bool D.set, .int .i64 D.units, .int .i64 D.after, .int .i64 D.calls, .bool D.down] 60
  mp : MpI w D.mb D.ents
  cb : C db
  cm : C D.mb
  ne : db ≠ D.mb
  each : ∀ f ∈ D.fs, FtI w C f
  low : ∀ f ∈ D.fs, ∀ k, f.blk k → k ≠ db ∧ k ≠ D.mb
  apart : D.fs.Pairwise (fun f g => ∀ k, f.blk k → ¬ g.blk k)
  n : D.fs.length ≤ 400
  bu : 0 ≤ D.units ∧ D.units ≤ 9223372036854775807
  ba : 0 ≤ D.after ∧ D.after ≤ 9223372036854775807
  bc : 0 ≤ D.calls ∧ D.calls ≤ 9223372036854775807
theorem DkI.kept {w w' : World} {C : Nat → Prop} {db : Nat} {D : DK} (h : DkI w C db D) (hb : ∀ k, C k → k < w.heap.size → w'.heap[k]? = w.heap[k]?) : DkI w' C db D :=
  ⟨h.bx.kept (hb _ h.cb h.bx.lt), h.mp.kept (hb _ h.cm h.mp.lt), h.cb, h.cm, h.ne, fun f hf => (h.each f hf).kept (fun k hk => hb k ((h.each f hf).blk hk).1 ((h.each f hf).blk hk).2) (fun _ hk => ((h.each f hf).blk hk).1), h.low, h.apart, h.n, h.bu, h.ba, h.bc⟩
theorem DkI.mono {w : World} {C C' : Nat → Prop} {db : Nat} {D : DK} (h : DkI w C db D) (hc : ∀ k, C k → k < w.heap.size → C' k) : DkI w C' db D :=
  ⟨h.bx, h.mp, hc _ h.cb h.bx.lt, hc _ h.cm h.mp.lt, h.ne, fun f hf => (h.each f hf).kept (fun _ _ => rfl) (fun k hk => hc k ((h.each f hf).blk hk).1 ((h.each f hf).blk hk).2), h.low, h.apart, h.n, h.bu, h.ba, h.bc⟩
/-- a file as it is handed in -/
structure FA where
  name : ByteArray
  p : Option Addr
  n : Nat
  c : Nat
  f : Nat → Int
  sy : Int
def FA.zs (a : FA) : List Int := (List.range a.n).map a.f
def elF : El FA where
  ty := 35
  size := 3
  cells := fun d => [.string d.name, .slice d.p d.n d.c, .int .i64 d.sy]
  len := fun _ => rfl
  one := fun x u hu => by
    simp only [List.mem_cons, List.not_mem_nil, or_false] at hu
    rcases hu with rfl | rfl | rfl <;> rfl
  In := fun w S d => d.name.size ≤ 140737488355328 ∧ Byts w S d.p d.n d.c d.f ∧ (-9223372036854775808 ≤ d.sy ∧ d.sy ≤ 9223372036854775807)
  kept := fun h hs hb => ⟨h.1, h.2.1.kept hs hb, h.2.2⟩
  mono := fun h hb => ⟨h.1, h.2.1.mono hb, h.2.2⟩
/-- may a disk that has files of these names have that one too? -/
def fOk (names : List ByteArray) (a : FA) : Bool := nmB a.name && !(names.any fun s => decide (s = a.name)) && (decide (a.n ≤ 65536) && (decide (0 ≤ a.sy) && decide (a.sy ≤ (a.n : Int))))
end Go.Proofs.YtjkfihngkfphfaaDoor
