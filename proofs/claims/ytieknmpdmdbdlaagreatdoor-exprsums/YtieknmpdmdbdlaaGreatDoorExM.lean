import Derived.Test.YtieknmpdmdbdlaaGreatDoorExL
namespace Go.Proofs.YtieknmpdmdbdlaaGreatDoor
open Go.RowKit
set_option maxRecDepth 8000

/-- where the parser stands: the place, and the token ahead -/
structure St where
  a : Nat
  k : Int
  ta : Int
  nm : ByteArray
def At (w : World) (pb : Nat) (s : ByteArray) (t : St) : Prop := Ps w pb s t.a t.k t.ta t.nm 0
/-- a call of the parser leads from t to u and gives the node n -/
def Gives (f pb : Nat) (s : ByteArray) (t u : St) (n : Value) : Prop :=
  ∀ w, At w pb s t → Calls Tryz.prog f #[.pointer (some ⟨pb, 0, none⟩)] w fun e w' => Only pb w w' ∧ At w' pb s u ∧ e = .returned n
/-- going past a token leads from t to u -/
def Goes (pb : Nat) (s : ByteArray) (t u : St) : Prop := Adv pb s t.a u.a u.k u.ta u.nm
theorem At.on {w w' : World} {pb : Nat} {s : ByteArray} {t : St} (h : At w pb s t) (hb : Below w.heap.size w w') : At w' pb s t := Ps.on h hb

/-- a word for something given -/
def givN (nm : ByteArray) : Value := .iface 194 (.agg #[.string nm])

theorem atom_val (pb : Nat) (s : ByteArray) (t u : St) (hk : t.k = 2) (hn : t.nm = valB) (hg : Goes pb s t u) : Gives 138 pb s t u (givN valB) := by
  intro w h
  obtain ⟨a, k, ta, n⟩ := t
  obtain ⟨a', k', ta', nm'⟩ := u
  simp only at hk hn
  subst hk hn
  unfold At at *
  simp only at h ⊢
  have c2 := h.c2
  have c4 := h.c4
  have HH := hid (fun w h => advance_any pb s a a' 2 ta k' ta' valB nm' 0 w h hg)
  have H := hid h
  clear h hg
  have hf : ∀ (ta : Int) (nm : ByteArray) (w : World), (Instr.field 53 (.agg #[.int .i64 2, .int .i64 ta, .string nm, .int .i64 0, .int .i64 0, .string ⟨#[]⟩, .slice none 0 0]) 2).run Tryz.prog w = .ok (.string nm) w := fun _ _ _ => by kernel_rfl
  unfold valB at *
  go_enter Tryz.func138, Tryz.ntmps138
  go_wp2_with fail
  refine (HH.out _ H.out).mono ?_
  rintro e w1 ⟨ho, hp, rfl⟩
  unfold tokV
  go_wp2_with fail
  go_ret
  exact ⟨ho, hp, rfl⟩

theorem atom_acc (pb : Nat) (s : ByteArray) (t u : St) (hk : t.k = 2) (hn : t.nm = accB) (hg : Goes pb s t u) : Gives 138 pb s t u (givN accB) := by
  intro w h
  obtain ⟨a, k, ta, n⟩ := t
  obtain ⟨a', k', ta', nm'⟩ := u
  simp only at hk hn
  subst hk hn
  unfold At at *
  simp only at h ⊢
  have c2 := h.c2
  have c4 := h.c4
  have HH := hid (fun w h => advance_any pb s a a' 2 ta k' ta' accB nm' 0 w h hg)
  have H := hid h
  clear h hg
  have hf : ∀ (ta : Int) (nm : ByteArray) (w : World), (Instr.field 53 (.agg #[.int .i64 2, .int .i64 ta, .string nm, .int .i64 0, .int .i64 0, .string ⟨#[]⟩, .slice none 0 0]) 2).run Tryz.prog w = .ok (.string nm) w := fun _ _ _ => by kernel_rfl
  unfold accB at *
  go_enter Tryz.func138, Tryz.ntmps138
  go_wp2_with fail
  refine (HH.out _ H.out).mono ?_
  rintro e w1 ⟨ho, hp, rfl⟩
  unfold tokV
  go_wp2_with fail
  go_ret
  exact ⟨ho, hp, rfl⟩

end Go.Proofs.YtieknmpdmdbdlaaGreatDoor
