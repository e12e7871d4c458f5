import Derived.Test.YtdmhemofhmfkoabGreatDoorPack5
import Derived.Test.YtdmhemofhmfkoabGreatDoorPack6
import Derived.Lib.ParseIntBTie
import Derived.Test.YtdmhemofhmfkoabGreatDoorParD
import Derived.Shelf.Small.Strs
import Derived.Shelf.LaysC
import Derived.Shelf.Strconv.ParseIntPublic10
import Derived.Shelf.Strconv.ErrVarParseInt
import Derived.Shelf.Strings.SlTrimAscii
import Derived.Test.YtdmhemofhmfkoabGreatDoorProg
import Derived.Test.YtdmhemofhmfkoabGreatDoorPack1
namespace Go.Proofs.YtdmhemofhmfkoabGreatDoor
open Go.RowKit
set_option maxRecDepth 8000

theorem pk_at {s : ByteArray} {a : Nat} (h : a < s.size) : pk s a = (s.data[a]'h).toNat := by
  unfold pk
  rw [Array.getElem?_eq_getElem (show a < s.data.size from h)]
  rfl
theorem dropB_at {s : ByteArray} {a : Nat} (h : a < s.size) : s.data.toList.drop a = (s.data[a]'h) :: s.data.toList.drop (a + 1) := by
  rw [List.drop_eq_getElem_cons (show a < s.data.toList.length by rw [← Go.Lib.size_eq]; exact h)]
  rfl
theorem dropB_end {s : ByteArray} {a : Nat} (h : s.size ≤ a) : s.data.toList.drop a = [] := List.drop_eq_nil_of_le (by rw [← Go.Lib.size_eq]; exact h)
/-- how many digits a list of bytes begins with -/
def dgL : List UInt8 → Nat
  | [] => 0
  | c :: r => if 48 ≤ c.toNat ∧ c.toNat ≤ 57 then dgL r + 1 else 0
theorem dgL_le : ∀ l : List UInt8, dgL l ≤ l.length
  | [] => Nat.le_refl _
  | c :: r => by
    have := dgL_le r
    unfold dgL
    split
    · simp; omega
    · exact Nat.zero_le _
/-- the place behind the digits -/
def dgE (s : ByteArray) (a : Nat) : Nat := a + dgL (s.data.toList.drop a)
theorem dgE_le {s : ByteArray} {a : Nat} (h : a ≤ s.size) : dgE s a ≤ s.size := by
  have h1 := dgL_le (s.data.toList.drop a)
  rw [List.length_drop, ← Go.Lib.size_eq] at h1
  unfold dgE
  omega
theorem dgE_ge (s : ByteArray) (a : Nat) : a ≤ dgE s a := Nat.le_add_right _ _
theorem dgE_step {s : ByteArray} {a : Nat} (h : 48 ≤ pk s a ∧ pk s a ≤ 57) : dgE s (a + 1) = dgE s a := by
  have hl : a < s.size := pk_pos (by omega)
  rw [pk_at hl] at h
  unfold dgE
  rw [dropB_at hl, dgL, if_pos h]
  omega
theorem dgE_stop {s : ByteArray} {a : Nat} (h : ¬ (48 ≤ pk s a ∧ pk s a ≤ 57)) : dgE s a = a := by
  unfold dgE
  by_cases hl : a < s.size
  · rw [pk_at hl] at h
    rw [dropB_at hl, dgL, if_neg h]
    rfl
  · rw [dropB_end (by omega)]
    rfl
theorem dgL_take : ∀ (l : List UInt8), ∀ c ∈ l.take (dgL l), 48 ≤ c.toNat ∧ c.toNat ≤ 57
  | [] => by intro c h; simp at h
  | x :: r => by
    intro c h
    have ih := dgL_take r
    unfold dgL at h
    split at h
    · rename_i hx
      simp only [List.take_succ_cons, List.mem_cons] at h
      rcases h with rfl | h
      · exact hx
      · exact ih c h
    · simp at h
theorem uint_digits (M : Nat) : ∀ (l : List UInt8) (acc : Nat), (∀ c ∈ l, 48 ≤ c.toNat ∧ c.toNat ≤ 57) → Lib.parseUintM M acc l ≠ .«syntax»
  | [], acc, _ => by unfold Lib.parseUintM; intro h; cases h
  | c :: r, acc, h => by
    unfold Lib.parseUintM
    rw [if_pos (h c (by simp))]
    split
    · intro h; cases h
    · split
      · intro h; cases h
      · exact uint_digits M r _ (fun x hx => h x (by simp [hx]))
theorem int_digits {c : UInt8} {r : List UInt8} (h : (c.toNat = 45 ∧ r ≠ [] ∧ ∀ x ∈ r, 48 ≤ x.toNat ∧ x.toNat ≤ 57) ∨ (∀ x ∈ c :: r, 48 ≤ x.toNat ∧ x.toNat ≤ 57)) : Lib.parseIntB 64 (c :: r) ≠ .«syntax» := by
  rcases h with ⟨h1, h2, h3⟩ | h
  · have hu : Lib.parseUintB 64 r ≠ .«syntax» := by unfold Lib.parseUintB; rw [if_neg h2]; exact uint_digits _ _ _ h3
    unfold Lib.parseIntB
    simp only [h1, or_true, if_true]
    cases he : Lib.parseUintB 64 r with
    | «syntax» => exact absurd he hu
    | range => intro h; cases h
    | ok u => simp only; split <;> (try split) <;> (intro h; cases h)
  · have hc := h c (by simp)
    have hu : Lib.parseUintB 64 (c :: r) ≠ .«syntax» := by unfold Lib.parseUintB; rw [if_neg (by simp)]; exact uint_digits _ _ _ h
    unfold Lib.parseIntB
    simp only [show ¬ (c.toNat = 43 ∨ c.toNat = 45) by omega, if_false]
    cases he : Lib.parseUintB 64 (c :: r) with
    | «syntax» => exact absurd he hu
    | range => intro h; cases h
    | ok u => simp only; split <;> (try split) <;> (intro h; cases h)
/-- the bytes from a place to another -/
def cutL (s : ByteArray) (a b : Nat) : List UInt8 := (s.extract a b).data.toList
theorem cutL_eq (s : ByteArray) (a b : Nat) : cutL s a b = (s.data.toList.drop a).take (b - a) := Go.Lib.extract_data s a b
/-- where the digits begin -/
def sgS (s : ByteArray) (a : Nat) : Nat := if pk s a = 45 then a + 1 else a
/-- what a number is read as -/
def numS (a e : Nat) : Lib.NumEnd Int → Except (Nat × Nat) (VT × Nat)
  | .ok v => .ok (mkI v, e)
  | _ => .error (a, 29)
def intS (s : ByteArray) (a : Nat) : Except (Nat × Nat) (VT × Nat) :=
  if pk s a = 48 then .ok (mkI 0, a + 1)
  else if 49 ≤ pk s (sgS s a) ∧ pk s (sgS s a) ≤ 57 then numS a (dgE s (sgS s a)) (Lib.parseIntB 64 (cutL s a (dgE s (sgS s a))))
  else .error (sgS s a, 28)
theorem num_whole {s : ByteArray} {a : Nat} (h : 49 ≤ pk s (sgS s a) ∧ pk s (sgS s a) ≤ 57) : Lib.parseIntB 64 (cutL s a (dgE s (sgS s a))) ≠ .«syntax» := by
  have hb : sgS s a < s.size := pk_pos (by omega)
  have hg : dgE s (sgS s a) = sgS s a + dgL (s.data.toList.drop (sgS s a)) := rfl
  have hpos : 0 < dgL (s.data.toList.drop (sgS s a)) := by
    have h1 := dgE_step (s := s) (a := sgS s a) (by omega)
    have h2 := dgE_ge s (sgS s a + 1)
    omega
  have hd := dgL_take (s.data.toList.drop (sgS s a))
  rw [cutL_eq, hg]
  unfold sgS at *
  by_cases h45 : pk s a = 45
  · simp only [if_pos h45] at *
    have ha : a < s.size := by omega
    rw [dropB_at ha]
    rw [show a + 1 + dgL (s.data.toList.drop (a + 1)) - a = dgL (s.data.toList.drop (a + 1)) + 1 by omega, List.take_succ_cons]
    refine int_digits (.inl ⟨by rw [← pk_at ha]; exact h45, fun e => ?_, hd⟩)
    have h5 := congrArg List.length e
    have h6 := dgL_le (s.data.toList.drop (a + 1))
    rw [List.length_take] at h5
    simp only [List.length_nil] at h5
    omega
  · simp only [if_neg h45] at *
    rw [Nat.add_sub_cancel_left]
    have ha : a < s.size := hb
    revert hd hpos
    rw [dropB_at ha]
    intro hpos hd
    obtain ⟨m, hm⟩ : ∃ m, dgL ((s.data[a]'ha) :: s.data.toList.drop (a + 1)) = m + 1 := ⟨_, (Nat.succ_pred_eq_of_pos hpos).symm⟩
    rw [hm] at hd ⊢
    rw [List.take_succ_cons] at hd ⊢
    exact int_digits (.inr hd)
end Go.Proofs.YtdmhemofhmfkoabGreatDoor

namespace Go.Proofs.YtdmhemofhmfkoabGreatDoor
open Go.RowKit
set_option maxRecDepth 8000
/-- what stands behind the opening quote -/
def quoS (s : ByteArray) : Nat → Nat → List Int → Except (Nat × Nat) (List Int × Nat)
  | 0, a, _ => .error (a, 28)
  | k + 1, a, acc =>
    if pk s a = 34 then .ok (acc, a + 1)
    else if pk s a = 92 then (match escS s a with
      | .error e => .error e
      | .ok (b, a') => quoS s k a' (acc ++ [(b : Int)]))
    else if pk s a < 32 ∨ pk s a = 127 then .error (a, 28)
    else if badR s a then .error (a, 28)
    else quoS s k (a + (Utf8.decode s a).2) (acc ++ txtB (s.extract a (a + (Utf8.decode s a).2)))
def txtOf (a : Nat) : Except (Nat × Nat) (List Int × Nat) → Except (Nat × Nat) (VT × Nat)
  | .error e => .error e
  | .ok (zs, a') => if 24 < zs.length then .error (a, 21) else .ok (mkT (strOf zs), a')
def txtS (s : ByteArray) (a : Nat) : Except (Nat × Nat) (VT × Nat) := txtOf a (quoS s (s.size + 1) (a + 1) [])
end Go.Proofs.YtdmhemofhmfkoabGreatDoor

namespace Go.Proofs
open Go.Shelf
def Tryz.lays161_ren : Go.Shelf.Ren := ⟨fun | 161 => 62 | 231 => 98 | 227 => 99 | 233 => 100 | 235 => 101 | 228 => 116 | 197 => 96 | 151 => 117 | 260 => 115 | 152 => 128 | 137 => 64 | 119 => 139 | 224 => 140 | 225 => 141 | 217 => 102 | 266 => 118 | n => n, fun | 9 => 9 | 4 => 4 | 3 => 3 | 5 => 5 | 117 => 145 | 116 => 144 | 0 => 0 | 124 => 148 | 105 => 140 | 21 => 21 | 119 => 169 | 46 => 155 | 139 => 172 | 138 => 171 | n => n, fun | 3 => 1 | 4 => 2 | n => n⟩
theorem Tryz.lays161 : Go.Proofs.Lays.n161 Tryz.prog Tryz.lays161_ren := {
  mixed := by kernel_rfl
  f119 := Tryz.func139.trans (congrArg some (by kernel_rfl))
  f137 := Tryz.func64.trans (congrArg some (by kernel_rfl))
  f151 := Tryz.func117.trans (congrArg some (by kernel_rfl))
  f152 := Tryz.func128.trans (congrArg some (by kernel_rfl))
  f161 := Tryz.func62.trans (congrArg some (by kernel_rfl))
  f197 := Tryz.func96.trans (congrArg some (by kernel_rfl))
  f217 := Tryz.func102.trans (congrArg some (by kernel_rfl))
  f224 := Tryz.func140.trans (congrArg some (by kernel_rfl))
  f225 := Tryz.func141.trans (congrArg some (by kernel_rfl))
  f227 := Tryz.func99.trans (congrArg some (by kernel_rfl))
  f228 := Tryz.func116.trans (congrArg some (by kernel_rfl))
  f231 := Tryz.func98.trans (congrArg some (by kernel_rfl))
  f233 := Tryz.func100.trans (congrArg some (by kernel_rfl))
  f235 := Tryz.func101.trans (congrArg some (by kernel_rfl))
  f260 := Tryz.func115.trans (congrArg some (by kernel_rfl))
  f266 := Tryz.func118.trans (congrArg some (by kernel_rfl))
  t0 := Tryz.underlying0
  a0 := Tryz.isAgg0
  z0 := Tryz.sizeOf0
  v0 := Tryz.zeroValue0
  t3 := Tryz.underlying3
  a3 := Tryz.isAgg3
  z3 := Tryz.sizeOf3
  v3 := Tryz.zeroValue3
  t4 := Tryz.underlying4
  a4 := Tryz.isAgg4
  z4 := Tryz.sizeOf4
  v4 := Tryz.zeroValue4
  t5 := Tryz.underlying5
  a5 := Tryz.isAgg5
  z5 := Tryz.sizeOf5
  v5 := Tryz.zeroValue5
  t9 := Tryz.underlying9
  a9 := Tryz.isAgg9
  z9 := Tryz.sizeOf9
  v9 := Tryz.zeroValue9
  t21 := Tryz.underlying21
  a21 := Tryz.isAgg21
  z21 := Tryz.sizeOf21
  v21 := Tryz.zeroValue21
  t46 := Tryz.underlying155
  a46 := Tryz.isAgg155
  z46 := Tryz.sizeOf155
  v46 := Tryz.zeroValue155
  t105 := Tryz.underlying140
  a105 := Tryz.isAgg140
  z105 := Tryz.sizeOf140
  v105 := Tryz.zeroValue140
  t116 := Tryz.underlying144
  a116 := Tryz.isAgg144
  z116 := Tryz.sizeOf144
  t117 := Tryz.underlying145
  a117 := Tryz.isAgg145
  z117 := Tryz.sizeOf145
  v117 := Tryz.zeroValue145
  t119 := Tryz.underlying169
  a119 := Tryz.isAgg169
  z119 := Tryz.sizeOf169
  t124 := Tryz.underlying148
  a124 := Tryz.isAgg148
  z124 := Tryz.sizeOf148
  v124 := Tryz.zeroValue148
  t138 := Tryz.underlying171
  a138 := Tryz.isAgg171
  z138 := Tryz.sizeOf171
  v138 := Tryz.zeroValue171
  t139 := Tryz.underlying172
  a139 := Tryz.isAgg172
  z139 := Tryz.sizeOf172
  v139 := Tryz.zeroValue172
  g3 := by kernel_rfl
  g4 := by kernel_rfl }
def Tryz.lays137_ren : Go.Shelf.Ren := ⟨fun | 137 => 64 | 217 => 102 | 266 => 118 | n => n, fun | 9 => 9 | 5 => 5 | 3 => 3 | n => n, fun | n => n⟩
theorem Tryz.lays137 : Go.Proofs.Lays.n137 Tryz.prog Tryz.lays137_ren := {
  mixed := by kernel_rfl
  f137 := Tryz.func64.trans (congrArg some (by kernel_rfl))
  f217 := Tryz.func102.trans (congrArg some (by kernel_rfl))
  f266 := Tryz.func118.trans (congrArg some (by kernel_rfl))
  t3 := Tryz.underlying3
  a3 := Tryz.isAgg3
  z3 := Tryz.sizeOf3
  v3 := Tryz.zeroValue3
  t5 := Tryz.underlying5
  a5 := Tryz.isAgg5
  z5 := Tryz.sizeOf5
  v5 := Tryz.zeroValue5
  t9 := Tryz.underlying9
  a9 := Tryz.isAgg9
  z9 := Tryz.sizeOf9
  v9 := Tryz.zeroValue9 }
def Tryz.laysC174_ren : Go.Shelf.Ren := ⟨fun | 174 => 107 | 247 => 120 | 245 => 121 | 287 => 129 | 279 => 130 | 280 => 131 | 281 => 132 | 282 => 133 | 321 => 142 | 322 => 143 | 316 => 144 | 171 => 146 | 205 => 145 | 243 => 149 | 246 => 150 | 283 => 124 | 284 => 125 | 285 => 126 | 286 => 127 | 129 => 135 | 317 => 134 | 318 => 136 | 319 => 137 | 320 => 138 | 337 => 147 | 338 => 148 | n => n, fun | 9 => 9 | 3 => 3 | 2 => 2 | 75 => 152 | 85 => 153 | 4 => 4 | 167 => 174 | 5 => 5 | 53 => 106 | 175 => 175 | 46 => 155 | 168 => 177 | 37 => 25 | 0 => 0 | 210 => 189 | 21 => 21 | 127 => 192 | 145 => 195 | 143 => 193 | 171 => 164 | 173 => 167 | 212 => 181 | 51 => 182 | 20 => 20 | 213 => 183 | 232 => 196 | 233 => 197 | 80 => 199 | n => n, fun | 15 => 4 | 16 => 5 | 17 => 3 | 18 => 6 | 19 => 7 | n => n⟩
theorem Tryz.laysC174 : Go.Proofs.LaysC.n174 Tryz.prog Tryz.laysC174_ren := {
  mixed := by kernel_rfl
  f129 := Tryz.func135.trans (congrArg some (by kernel_rfl))
  f171 := Tryz.func146.trans (congrArg some (by kernel_rfl))
  f174 := Tryz.func107.trans (congrArg some (by kernel_rfl))
  f205 := Tryz.func145.trans (congrArg some (by kernel_rfl))
  f243 := Tryz.func149.trans (congrArg some (by kernel_rfl))
  f245 := Tryz.func121.trans (congrArg some (by kernel_rfl))
  f246 := Tryz.func150.trans (congrArg some (by kernel_rfl))
  f247 := Tryz.func120.trans (congrArg some (by kernel_rfl))
  f279 := Tryz.func130.trans (congrArg some (by kernel_rfl))
  f280 := Tryz.func131.trans (congrArg some (by kernel_rfl))
  f281 := Tryz.func132.trans (congrArg some (by kernel_rfl))
  f282 := Tryz.func133.trans (congrArg some (by kernel_rfl))
  f283 := Tryz.func124.trans (congrArg some (by kernel_rfl))
  f284 := Tryz.func125.trans (congrArg some (by kernel_rfl))
  f285 := Tryz.func126.trans (congrArg some (by kernel_rfl))
  f286 := Tryz.func127.trans (congrArg some (by kernel_rfl))
  f287 := Tryz.func129.trans (congrArg some (by kernel_rfl))
  f316 := Tryz.func144.trans (congrArg some (by kernel_rfl))
  f317 := Tryz.func134.trans (congrArg some (by kernel_rfl))
  f318 := Tryz.func136.trans (congrArg some (by kernel_rfl))
  f319 := Tryz.func137.trans (congrArg some (by kernel_rfl))
  f320 := Tryz.func138.trans (congrArg some (by kernel_rfl))
  f321 := Tryz.func142.trans (congrArg some (by kernel_rfl))
  f322 := Tryz.func143.trans (congrArg some (by kernel_rfl))
  f337 := Tryz.func147.trans (congrArg some (by kernel_rfl))
  f338 := Tryz.func148.trans (congrArg some (by kernel_rfl))
  t0 := Tryz.underlying0
  a0 := Tryz.isAgg0
  z0 := Tryz.sizeOf0
  v0 := Tryz.zeroValue0
  t2 := Tryz.underlying2
  a2 := Tryz.isAgg2
  z2 := Tryz.sizeOf2
  v2 := Tryz.zeroValue2
  t3 := Tryz.underlying3
  a3 := Tryz.isAgg3
  z3 := Tryz.sizeOf3
  v3 := Tryz.zeroValue3
  t4 := Tryz.underlying4
  a4 := Tryz.isAgg4
  z4 := Tryz.sizeOf4
  v4 := Tryz.zeroValue4
  t5 := Tryz.underlying5
  a5 := Tryz.isAgg5
  z5 := Tryz.sizeOf5
  v5 := Tryz.zeroValue5
  t9 := Tryz.underlying9
  a9 := Tryz.isAgg9
  z9 := Tryz.sizeOf9
  v9 := Tryz.zeroValue9
  t20 := Tryz.underlying20
  a20 := Tryz.isAgg20
  z20 := Tryz.sizeOf20
  v20 := Tryz.zeroValue20
  t21 := Tryz.underlying21
  a21 := Tryz.isAgg21
  z21 := Tryz.sizeOf21
  v21 := Tryz.zeroValue21
  t37 := Tryz.underlying25
  a37 := Tryz.isAgg25
  z37 := Tryz.sizeOf25
  v37 := Tryz.zeroValue25
  t46 := Tryz.underlying155
  a46 := Tryz.isAgg155
  z46 := Tryz.sizeOf155
  v46 := Tryz.zeroValue155
  t51 := Tryz.underlying182
  a51 := Tryz.isAgg182
  z51 := Tryz.sizeOf182
  v51 := Tryz.zeroValue182
  t53 := Tryz.underlying106
  a53 := Tryz.isAgg106
  z53 := Tryz.sizeOf106
  v53 := Tryz.zeroValue106
  t75 := Tryz.underlying152
  a75 := Tryz.isAgg152
  z75 := Tryz.sizeOf152
  v75 := Tryz.zeroValue152
  t85 := Tryz.underlying153
  a85 := Tryz.isAgg153
  z85 := Tryz.sizeOf153
  v85 := Tryz.zeroValue153
  t127 := Tryz.underlying192
  a127 := Tryz.isAgg192
  z127 := Tryz.sizeOf192
  v127 := Tryz.zeroValue192
  t143 := Tryz.underlying193
  a143 := Tryz.isAgg193
  z143 := Tryz.sizeOf193
  v143 := Tryz.zeroValue193
  t145 := Tryz.underlying195
  a145 := Tryz.isAgg195
  z145 := Tryz.sizeOf195
  v145 := Tryz.zeroValue195
  t167 := Tryz.underlying174
  a167 := Tryz.isAgg174
  z167 := Tryz.sizeOf174
  v167 := Tryz.zeroValue174
  t168 := Tryz.underlying177
  a168 := Tryz.isAgg177
  z168 := Tryz.sizeOf177
  v168 := Tryz.zeroValue177
  t171 := Tryz.underlying164
  a171 := Tryz.isAgg164
  z171 := Tryz.sizeOf164
  v171 := Tryz.zeroValue164
  t173 := Tryz.underlying167
  a173 := Tryz.isAgg167
  z173 := Tryz.sizeOf167
  v173 := Tryz.zeroValue167
  t175 := Tryz.underlying175
  a175 := Tryz.isAgg175
  z175 := Tryz.sizeOf175
  v175 := Tryz.zeroValue175
  t210 := Tryz.underlying189
  a210 := Tryz.isAgg189
  z210 := Tryz.sizeOf189
  v210 := Tryz.zeroValue189
  t212 := Tryz.underlying181
  a212 := Tryz.isAgg181
  z212 := Tryz.sizeOf181
  v212 := Tryz.zeroValue181
  t213 := Tryz.underlying183
  a213 := Tryz.isAgg183
  z213 := Tryz.sizeOf183
  t232 := Tryz.underlying196
  a232 := Tryz.isAgg196
  z232 := Tryz.sizeOf196
  v232 := Tryz.zeroValue196
  t233 := Tryz.underlying197
  a233 := Tryz.isAgg197
  z233 := Tryz.sizeOf197
  v233 := Tryz.zeroValue197
  g15 := by kernel_rfl
  g16 := by kernel_rfl
  g17 := by kernel_rfl
  g18 := by kernel_rfl
  g19 := by kernel_rfl
  t80 := Tryz.underlying199
  a80 := Tryz.isAgg199
  z80 := Tryz.sizeOf199
  v80 := Tryz.zeroValue199
  i0 := by kernel_rfl
  i2 := by kernel_rfl
  i3 := by kernel_rfl
  i4 := by kernel_rfl
  i5 := by kernel_rfl
  i9 := by kernel_rfl
  i20 := by kernel_rfl
  i21 := by kernel_rfl
  i37 := by kernel_rfl
  i46 := by kernel_rfl
  i51 := by kernel_rfl
  i53 := by kernel_rfl
  i75 := by kernel_rfl
  i80 := by kernel_rfl
  i85 := by kernel_rfl
  i127 := by kernel_rfl
  i143 := by kernel_rfl
  i145 := by kernel_rfl
  i167 := by kernel_rfl
  i168 := by kernel_rfl
  i171 := by kernel_rfl
  i173 := by kernel_rfl
  i175 := by kernel_rfl
  i210 := by kernel_rfl
  i212 := by kernel_rfl
  i232 := by kernel_rfl
  i233 := by kernel_rfl
  m15 := by kernel_rfl
  m16 := by kernel_rfl
  m17 := by kernel_rfl
  m18 := by kernel_rfl
  m19 := by kernel_rfl
  c0 := by kernel_rfl
  c2 := by kernel_rfl
  c3 := by kernel_rfl
  c4 := by kernel_rfl
  c5 := by kernel_rfl
  c9 := by kernel_rfl
  c20 := by kernel_rfl
  c21 := by kernel_rfl
  c37 := by kernel_rfl
  c46 := by kernel_rfl
  c51 := by kernel_rfl
  c53 := by kernel_rfl
  c75 := by kernel_rfl
  c80 := by kernel_rfl
  c85 := by kernel_rfl
  c127 := by kernel_rfl
  c143 := by kernel_rfl
  c145 := by kernel_rfl
  c167 := by kernel_rfl
  c168 := by kernel_rfl
  c171 := by kernel_rfl
  c173 := by kernel_rfl
  c175 := by kernel_rfl
  c210 := by kernel_rfl
  c212 := by kernel_rfl
  c213 := by kernel_rfl
  c232 := by kernel_rfl
  c233 := by kernel_rfl }
open Go.RowKit in
theorem Tryz.strings_IndexByte (s : ByteArray) (c : Int) (w : World) :
    Calls Tryz.prog 64 #[.string s, .int .u8 c] w fun e w' => e = .returned (.int .i64 (Lib.indexByte s.data.toList c.toNat.toUInt8)) ∧ w' = w := Any.strings_IndexByte Tryz.lays137 s c w
open Go.RowKit in
theorem Tryz.strconv_ParseInt_10_at64_ok (s : ByteArray) (hmax : s.size ≤ 9223372036854775806) (v : Int) (h : Lib.parseIntB 64 s.data.toList = .ok v) (w : World) :
    Calls Tryz.prog 107 #[.string s, .int .i64 10, .int .i64 64] w fun e w' => e = .returned (.tuple #[.int .i64 v, .nilIface]) ∧ (w' = w ∨ ∃ t, w' = Lib.bytesWorld w 5 t) := Any.strconv_ParseInt_10_at64_ok Tryz.laysC174 s hmax v h w
open Go.RowKit in
theorem Tryz.strconv_ParseInt_10_at64_syntax_var (s : ByteArray) (hlim : s.size ≤ 281474976710656) (h : Lib.parseIntB 64 s.data.toList = .«syntax») (tp : TypeId) (p : Value) (w : World) (hvar : w.var? Tryz.prog "strconv.ErrSyntax" = some #[.iface tp p]) :
    Calls Tryz.prog 107 #[.string s, .int .i64 10, .int .i64 64] w fun e w' => ∃ N, e = .returned (.tuple #[.int .i64 (0), .iface 177 (.pointer (some ⟨N, 0, none⟩))]) ∧ w.heap.size ≤ N ∧ w'.heap[N]? = some (.cells #[.string ⟨#[80, 97, 114, 115, 101, 73, 110, 116]⟩, .string s, .iface tp p] 189 (0, 0)) ∧ Below w.heap.size w w' := Any.strconv_ParseInt_10_at64_syntax_var Tryz.laysC174 s hlim h tp p w hvar
open Go.RowKit in
theorem Tryz.strconv_ParseInt_10_at64_range_var (s : ByteArray) (hlim : s.size ≤ 281474976710656) (h : Lib.parseIntB 64 s.data.toList = .range) (tp : TypeId) (p : Value) (w : World) (hvar : w.var? Tryz.prog "strconv.ErrRange" = some #[.iface tp p]) :
    Calls Tryz.prog 107 #[.string s, .int .i64 10, .int .i64 64] w fun e w' => ∃ N, e = .returned (.tuple #[.int .i64 (Lib.intSat 64 s.data.toList), .iface 177 (.pointer (some ⟨N, 0, none⟩))]) ∧ w.heap.size ≤ N ∧ w'.heap[N]? = some (.cells #[.string ⟨#[80, 97, 114, 115, 101, 73, 110, 116]⟩, .string s, .iface tp p] 189 (0, 0)) ∧ Below w.heap.size w w' := Any.strconv_ParseInt_10_at64_range_var Tryz.laysC174 s hlim h tp p w hvar
end Go.Proofs


namespace Go.Proofs.YtdmhemofhmfkoabGreatDoor
open Go.RowKit
set_option maxRecDepth 8000

/-- how many blanks a list of bytes begins with -/
def blL : List UInt8 → Nat
  | [] => 0
  | c :: r => if c = 32 ∨ c = 9 then blL r + 1 else 0
theorem blL_le : ∀ l : List UInt8, blL l ≤ l.length
  | [] => Nat.le_refl _
  | c :: r => by
    have := blL_le r
    unfold blL
    split
    · simp; omega
    · exact Nat.zero_le _
/-- the text from a place on -/
def tl (s : ByteArray) (a : Nat) : ByteArray := s.extract a s.size
theorem tl_list (s : ByteArray) (a : Nat) : (tl s a).data.toList = s.data.toList.drop a := by
  unfold tl
  rw [Go.Lib.extract_data, List.take_of_length_le (by rw [List.length_drop, ← Go.Lib.size_eq]; omega)]
theorem tl_size (s : ByteArray) (a : Nat) : (tl s a).size = s.size - a := by
  rw [Go.Lib.size_eq, tl_list, List.length_drop, ← Go.Lib.size_eq]
theorem bytes_ext {s t : ByteArray} (h : s.data.toList = t.data.toList) : s = t := by
  cases s; cases t
  simp only [ByteArray.mk.injEq]
  exact Array.toList_inj.1 h
theorem tl_tl (s : ByteArray) (a b : Nat) : tl (tl s a) b = tl s (a + b) := bytes_ext (by rw [tl_list, tl_list, tl_list, List.drop_drop])

theorem blL_drop : ∀ l : List UInt8, Lib.trimLeftS l [32, 9] = l.drop (blL l)
  | [] => rfl
  | c :: r => by
    have ih := blL_drop r
    unfold Lib.trimLeftS at ih ⊢
    unfold blL
    by_cases h : c = 32 ∨ c = 9
    · rw [if_pos h, List.dropWhile_cons_of_pos (by rcases h with rfl | rfl <;> rfl), ih]
      rfl
    · rw [if_neg h, List.dropWhile_cons_of_neg (by simpa using h)]
      rfl
theorem blank_ascii : ∀ (j : Nat) (b : UInt8), (⟨#[32, 9]⟩ : ByteArray).data.toList[j]? = some b → b.toNat < 128
  | 0, b, h => by cases h; decide
  | 1, b, h => by cases h; decide
  | j + 2, b, h => by simp at h
theorem zero84 (w : World) : (zeroValue (Tryz.lays161_ren.t 116)).run Tryz.prog w = .ok (.agg (Array.replicate 256 (.bool false))) w :=
  (Tryz.zeroValue144 w).trans (congrArg (fun v => Result.ok v w) (by kernel_rfl))
theorem trimLeft_any (s : ByteArray) (w : World) : Calls Tryz.prog 62 #[.string s, .string ⟨#[32, 9]⟩] w fun x w' => x = .returned (.string (tl s (blL s.data.toList))) ∧ Below w.heap.size w w' := by
  by_cases h0 : s.size = 0
  · refine (Any.strings_TrimLeft_empty Tryz.lays161 s ⟨#[32, 9]⟩ w (.inl h0)).mono ?_
    rintro e w' ⟨rfl, rfl⟩
    have h2 : s.data.toList = [] := List.eq_nil_of_length_eq_zero (by rw [← Go.Lib.size_eq]; exact h0)
    have h3 : tl s (blL s.data.toList) = s := bytes_ext (by rw [tl_list, h2]; rfl)
    exact ⟨by rw [h3], Below.refl _ _⟩
  · refine (Any.strings_TrimLeft_set Tryz.lays161 zero84 (by kernel_rfl) s ⟨#[32, 9]⟩ w (by decide) (by omega) (by decide) (fun j b h => blank_ascii j b h)).mono ?_
    rintro e w' ⟨rfl, rfl⟩
    have h3 : tl s (blL s.data.toList) = ⟨(Lib.trimLeftS s.data.toList [32, 9]).toArray⟩ := bytes_ext (by rw [tl_list, blL_drop])
    exact ⟨by rw [h3], ((Below.refl _ _).alloc (Nat.le_refl _) _).alloc (by simp) _⟩

set_option maxHeartbeats 1000000 in
theorem blanks_any (s : ByteArray) (w : World) (hs : s.size ≤ 140737488355328) : Calls Tryz.prog 33 #[.string s] w fun x w' => x = .returned (.int .i64 (blL s.data.toList : Nat)) ∧ Below w.heap.size w w' := by
  have hle := blL_le s.data.toList
  rw [← Go.Lib.size_eq] at hle
  have HT := hid (trimLeft_any s w)
  have HZ := hid (tl_size s (blL s.data.toList))
  generalize blL s.data.toList = m at *
  go_enter Tryz.func33, Tryz.ntmps33
  go_wp2_with fail
  refine HT.out.mono ?_
  rintro e w1 ⟨rfl, hb⟩
  have hz := HZ.out
  go_wp2
  go_ret
  exact ⟨congrArg (fun z : Int => Ending.returned (.int .i64 z)) (show _ = (m : Int) by omega), hb⟩
end Go.Proofs.YtdmhemofhmfkoabGreatDoor

namespace Go.Proofs.YtdmhemofhmfkoabGreatDoor
open Go.RowKit
set_option maxRecDepth 8000
theorem step_call {ops : Array Oper} {o : Oper} {a : Act} {w : World} {K : Act → World → Prop} {Q : Exit → Act → World → Prop} {E : Prop}
    (hgd : o.guard = none) (f : Nat) (xs : Array Operand) (ts : Array TypeId) (hop : o.op = Op.call { callee := Callee.value (Operand.func f), args := xs, argTypes := ts })
    (F : Func) (hF : Tryz.prog.funcs[f]? = some F) (hN : (F.name == "runtime.NumGoroutine") = false) (hB : F.body.isNone = false) (vs : Array Value) (hvl : xs.toList.map a.eval = vs.toList) (R : Ending → World → Prop) (hC : Calls Tryz.prog f vs w R) (hK : ∀ e w', R e w' → ∃ v, e = .returned v ∧ K (a.put o.dst v) w') :
    if Region.wanted o (yielded ops a.tmps) = true then Oper.wp Tryz.prog o a w K Q else E := by
  have hw : Region.wanted o (yielded ops a.tmps) = true := by simp [Region.wanted, hgd]
  rw [if_pos hw]
  have hvs : xs.map a.eval = vs := by
    obtain ⟨xl⟩ := xs
    obtain ⟨vl⟩ := vs
    simp only at hvl
    rw [List.map_toArray, hvl]
  have hrun : (execOp a.eval o).run Tryz.prog w = .ok (.enter f vs) w := by
    have h1 : ¬ F.name = "runtime.NumGoroutine" := by simpa using hN
    have h2 : ¬ F.body = none := by intro h; rw [h] at hB; cases hB
    simp [execOp, hop, resolve, invoke, hvs, Deferred.ofValue, Act.eval, callFunc, Result.andThen, go_sem, hF, h1, h2]
  unfold Oper.wp
  rw [hrun, Oper.upon_enter]
  refine hC.mono fun e w' h => ?_
  obtain ⟨v, rfl, hk⟩ := hK e w' h
  exact hk
end Go.Proofs.YtdmhemofhmfkoabGreatDoor
