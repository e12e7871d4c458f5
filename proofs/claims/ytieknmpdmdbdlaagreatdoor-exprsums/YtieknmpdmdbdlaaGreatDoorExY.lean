import Derived.Test.YtieknmpdmdbdlaaGreatDoorExX
namespace Go.Proofs.YtieknmpdmdbdlaaGreatDoor
open Go.RowKit
set_option maxRecDepth 8000

theorem neS_of {a b : ByteArray} (h : (a.data.toList == b.data.toList) = false) : neS a b := by
  unfold neS
  rw [Lib.toList_data, Lib.toList_data]
  exact h
theorem eqS_of {a b : ByteArray} (h : (a.data.toList == b.data.toList) = true) : eqS a b := by
  unfold eqS
  rw [Lib.toList_data, Lib.toList_data]
  exact h
/-- a word that stands at a -/
theorem goes_word (pb : Nat) (s : ByteArray) (t : St) (n : Nat) (nm : ByteArray) (hs : s.size ≤ 1000) (ha : t.a + n ≤ s.size) (hn : leadL letterS.data.toList (s.data.toList.drop t.a) = n) (hn0 : 0 < n)
    (hb : leadL blankS.data.toList (s.data.toList.drop t.a) = 0) (hd : leadL digitS.data.toList (s.data.toList.drop t.a) = 0) (hnm : (s.data.toList.drop t.a).take n = nm.data.toList)
    (HW : ∀ w1, Calls Tryz.prog 38 #[.string nm] w1 fun e w' => w' = w1 ∧ e = .returned (.bool true)) : Goes pb s t ⟨t.a + n, 2, t.a, nm⟩ := by
  have hx : (tl s t.a).extract 0 n = nm := bytes_ext (by rw [Lib.extract_data, tl_list, ← hnm]; simp)
  intro w1 h1
  have h := next_word pb s t.a n w1 h1 ha hs hn hn0 hb hd (by rw [hx]; exact HW)
  rw [hx] at h
  exact h
theorem goes_sign (pb : Nat) (s : ByteArray) (t : St) (c : UInt8) (hs : s.size ≤ 1000) (ha : t.a + 1 ≤ s.size) (ho : One (s.data.toList.drop t.a) c) (hc : c ≠ 34)
    (hb : leadL blankS.data.toList (s.data.toList.drop t.a) = 0) (hd : leadL digitS.data.toList (s.data.toList.drop t.a) = 0) (hn : leadL letterS.data.toList (s.data.toList.drop t.a) = 0)
    (hnm : (s.data.toList.drop t.a).take 1 = [c]) : Goes pb s t ⟨t.a + 1, 2, t.a, ⟨#[c]⟩⟩ := by
  have hx : (tl s t.a).extract 0 1 = ⟨#[c]⟩ := bytes_ext (by rw [Lib.extract_data, tl_list]; simpa using hnm)
  intro w1 h1
  have h := next_sign pb s t.a c w1 h1 ha hs ho hc hb hd hn
  rw [hx] at h
  exact h
theorem goes_end (pb : Nat) (s : ByteArray) (t : St) (hs : s.size ≤ 1000) (ha : t.a = s.size) : Goes pb s t ⟨t.a, 0, t.a, ⟨#[]⟩⟩ := by
  intro w1 h1
  rw [ha] at h1 ⊢
  exact next_end pb s w1 h1 hs

def plusT : ByteArray := ⟨#[118, 97, 108, 43, 97, 99, 99]⟩
def plus1 : St := ⟨3, 2, 0, valB⟩
def plus2 : St := ⟨4, 2, 3, ⟨#[43]⟩⟩
def plus3 : St := ⟨7, 2, 4, accB⟩
def plus4 : St := ⟨7, 0, 7, ⟨#[]⟩⟩
theorem plus_g1 (pb : Nat) : Goes pb plusT st0 plus1 := goes_word pb plusT st0 3 valB (by decide) (by decide) (by rfl) (by decide) (by rfl) (by rfl) (by rfl) isWord_val
theorem plus_g2 (pb : Nat) : Goes pb plusT plus1 plus2 := goes_sign pb plusT plus1 43 (by decide) (by decide) ⟨by rfl, by rfl, by rfl, by rfl, by rfl, by decide⟩ (by decide) (by rfl) (by rfl) (by rfl) (by rfl)
theorem plus_g3 (pb : Nat) : Goes pb plusT plus2 plus3 := goes_word pb plusT plus2 3 accB (by decide) (by decide) (by rfl) (by decide) (by rfl) (by rfl) (by rfl) isWord_acc
theorem plus_g4 (pb : Nat) : Goes pb plusT plus3 plus4 := goes_end pb plusT plus3 (by decide) (by rfl)
theorem plus_gives (pb : Nat) : Gives 16 pb plusT plus1 plus4 (joinN 5 ⟨#[43]⟩ (givN valB) (givN accB)) := by
  have a1 := neg_one pb plusT _ _ _ (atom_val pb plusT plus1 plus2 rfl rfl (plus_g2 pb)) (neS_of rfl)
  have a2 := neg_one pb plusT _ _ _ (atom_acc pb plusT plus3 plus4 rfl rfl (plus_g4 pb)) (neS_of rfl)
  have b1 := term_one pb plusT _ _ _ a1 (neS_of rfl) (neS_of rfl) (neS_of rfl)
  have b2 := term_one pb plusT _ _ _ a2 (neS_of rfl) (neS_of rfl) (neS_of rfl)
  have g4 : Gives 70 pb plusT plus1 plus4 (joinN 5 ⟨#[43]⟩ (givN valB) (givN accB)) := sum_two0 pb plusT plus1 plus2 plus3 plus4 _ _ _ _ b1 b2 (plus_g3 pb) (eqS_of rfl) (neS_of rfl) (neS_of rfl)
  have g5 := cmp_one pb plusT _ _ _ g4 (neS_of rfl) (neS_of rfl) (neS_of rfl) (neS_of rfl) (neS_of rfl) (neS_of rfl)
  have g6 := not_one pb plusT _ _ _ g5 (neS_of rfl)
  have g7 := and_one pb plusT _ _ _ g6 (neS_of rfl)
  have g8 := or_one pb plusT _ _ _ g7 (neS_of rfl)
  exact expr_one pb plusT _ _ _ g8 (neS_of rfl)
theorem plus_parse (w : World) : Calls Tryz.prog 10 #[.string plusT] w fun e w' => Below w.heap.size w w' ∧ e = .returned (.tuple #[joinN 5 ⟨#[43]⟩ (givN valB) (givN accB), .nilIface]) :=
  parse_ok plusT plus1 plus4 _ _ w (by decide) plus_g1 plus_gives rfl

def minusT : ByteArray := ⟨#[118, 97, 108, 45, 97, 99, 99]⟩
def minus1 : St := ⟨3, 2, 0, valB⟩
def minus2 : St := ⟨4, 2, 3, ⟨#[45]⟩⟩
def minus3 : St := ⟨7, 2, 4, accB⟩
def minus4 : St := ⟨7, 0, 7, ⟨#[]⟩⟩
theorem minus_g1 (pb : Nat) : Goes pb minusT st0 minus1 := goes_word pb minusT st0 3 valB (by decide) (by decide) (by rfl) (by decide) (by rfl) (by rfl) (by rfl) isWord_val
theorem minus_g2 (pb : Nat) : Goes pb minusT minus1 minus2 := goes_sign pb minusT minus1 45 (by decide) (by decide) ⟨by rfl, by rfl, by rfl, by rfl, by rfl, by decide⟩ (by decide) (by rfl) (by rfl) (by rfl) (by rfl)
theorem minus_g3 (pb : Nat) : Goes pb minusT minus2 minus3 := goes_word pb minusT minus2 3 accB (by decide) (by decide) (by rfl) (by decide) (by rfl) (by rfl) (by rfl) isWord_acc
theorem minus_g4 (pb : Nat) : Goes pb minusT minus3 minus4 := goes_end pb minusT minus3 (by decide) (by rfl)
theorem minus_gives (pb : Nat) : Gives 16 pb minusT minus1 minus4 (joinN 5 ⟨#[45]⟩ (givN valB) (givN accB)) := by
  have a1 := neg_one pb minusT _ _ _ (atom_val pb minusT minus1 minus2 rfl rfl (minus_g2 pb)) (neS_of rfl)
  have a2 := neg_one pb minusT _ _ _ (atom_acc pb minusT minus3 minus4 rfl rfl (minus_g4 pb)) (neS_of rfl)
  have b1 := term_one pb minusT _ _ _ a1 (neS_of rfl) (neS_of rfl) (neS_of rfl)
  have b2 := term_one pb minusT _ _ _ a2 (neS_of rfl) (neS_of rfl) (neS_of rfl)
  have g4 : Gives 70 pb minusT minus1 minus4 (joinN 5 ⟨#[45]⟩ (givN valB) (givN accB)) := sum_two1 pb minusT minus1 minus2 minus3 minus4 _ _ _ _ b1 b2 (minus_g3 pb) (neS_of rfl) (eqS_of rfl) (neS_of rfl) (neS_of rfl)
  have g5 := cmp_one pb minusT _ _ _ g4 (neS_of rfl) (neS_of rfl) (neS_of rfl) (neS_of rfl) (neS_of rfl) (neS_of rfl)
  have g6 := not_one pb minusT _ _ _ g5 (neS_of rfl)
  have g7 := and_one pb minusT _ _ _ g6 (neS_of rfl)
  have g8 := or_one pb minusT _ _ _ g7 (neS_of rfl)
  exact expr_one pb minusT _ _ _ g8 (neS_of rfl)
theorem minus_parse (w : World) : Calls Tryz.prog 10 #[.string minusT] w fun e w' => Below w.heap.size w w' ∧ e = .returned (.tuple #[joinN 5 ⟨#[45]⟩ (givN valB) (givN accB), .nilIface]) :=
  parse_ok minusT minus1 minus4 _ _ w (by decide) minus_g1 minus_gives rfl

def timesT : ByteArray := ⟨#[118, 97, 108, 42, 97, 99, 99]⟩
def times1 : St := ⟨3, 2, 0, valB⟩
def times2 : St := ⟨4, 2, 3, ⟨#[42]⟩⟩
def times3 : St := ⟨7, 2, 4, accB⟩
def times4 : St := ⟨7, 0, 7, ⟨#[]⟩⟩
theorem times_g1 (pb : Nat) : Goes pb timesT st0 times1 := goes_word pb timesT st0 3 valB (by decide) (by decide) (by rfl) (by decide) (by rfl) (by rfl) (by rfl) isWord_val
theorem times_g2 (pb : Nat) : Goes pb timesT times1 times2 := goes_sign pb timesT times1 42 (by decide) (by decide) ⟨by rfl, by rfl, by rfl, by rfl, by rfl, by decide⟩ (by decide) (by rfl) (by rfl) (by rfl) (by rfl)
theorem times_g3 (pb : Nat) : Goes pb timesT times2 times3 := goes_word pb timesT times2 3 accB (by decide) (by decide) (by rfl) (by decide) (by rfl) (by rfl) (by rfl) isWord_acc
theorem times_g4 (pb : Nat) : Goes pb timesT times3 times4 := goes_end pb timesT times3 (by decide) (by rfl)
theorem times_gives (pb : Nat) : Gives 16 pb timesT times1 times4 (joinN 6 ⟨#[42]⟩ (givN valB) (givN accB)) := by
  have a1 := neg_one pb timesT _ _ _ (atom_val pb timesT times1 times2 rfl rfl (times_g2 pb)) (neS_of rfl)
  have a2 := neg_one pb timesT _ _ _ (atom_acc pb timesT times3 times4 rfl rfl (times_g4 pb)) (neS_of rfl)
  have g3 : Gives 98 pb timesT times1 times4 (joinN 6 ⟨#[42]⟩ (givN valB) (givN accB)) := term_two0 pb timesT times1 times2 times3 times4 _ _ _ _ a1 a2 (times_g3 pb) (eqS_of rfl) (neS_of rfl) (neS_of rfl) (neS_of rfl)
  have g4 := sum_one pb timesT _ _ _ g3 (neS_of rfl) (neS_of rfl)
  have g5 := cmp_one pb timesT _ _ _ g4 (neS_of rfl) (neS_of rfl) (neS_of rfl) (neS_of rfl) (neS_of rfl) (neS_of rfl)
  have g6 := not_one pb timesT _ _ _ g5 (neS_of rfl)
  have g7 := and_one pb timesT _ _ _ g6 (neS_of rfl)
  have g8 := or_one pb timesT _ _ _ g7 (neS_of rfl)
  exact expr_one pb timesT _ _ _ g8 (neS_of rfl)
theorem times_parse (w : World) : Calls Tryz.prog 10 #[.string timesT] w fun e w' => Below w.heap.size w w' ∧ e = .returned (.tuple #[joinN 6 ⟨#[42]⟩ (givN valB) (givN accB), .nilIface]) :=
  parse_ok timesT times1 times4 _ _ w (by decide) times_g1 times_gives rfl

def overT : ByteArray := ⟨#[118, 97, 108, 47, 97, 99, 99]⟩
def over1 : St := ⟨3, 2, 0, valB⟩
def over2 : St := ⟨4, 2, 3, ⟨#[47]⟩⟩
def over3 : St := ⟨7, 2, 4, accB⟩
def over4 : St := ⟨7, 0, 7, ⟨#[]⟩⟩
theorem over_g1 (pb : Nat) : Goes pb overT st0 over1 := goes_word pb overT st0 3 valB (by decide) (by decide) (by rfl) (by decide) (by rfl) (by rfl) (by rfl) isWord_val
theorem over_g2 (pb : Nat) : Goes pb overT over1 over2 := goes_sign pb overT over1 47 (by decide) (by decide) ⟨by rfl, by rfl, by rfl, by rfl, by rfl, by decide⟩ (by decide) (by rfl) (by rfl) (by rfl) (by rfl)
theorem over_g3 (pb : Nat) : Goes pb overT over2 over3 := goes_word pb overT over2 3 accB (by decide) (by decide) (by rfl) (by decide) (by rfl) (by rfl) (by rfl) isWord_acc
theorem over_g4 (pb : Nat) : Goes pb overT over3 over4 := goes_end pb overT over3 (by decide) (by rfl)
theorem over_gives (pb : Nat) : Gives 16 pb overT over1 over4 (joinN 6 ⟨#[47]⟩ (givN valB) (givN accB)) := by
  have a1 := neg_one pb overT _ _ _ (atom_val pb overT over1 over2 rfl rfl (over_g2 pb)) (neS_of rfl)
  have a2 := neg_one pb overT _ _ _ (atom_acc pb overT over3 over4 rfl rfl (over_g4 pb)) (neS_of rfl)
  have g3 : Gives 98 pb overT over1 over4 (joinN 6 ⟨#[47]⟩ (givN valB) (givN accB)) := term_two1 pb overT over1 over2 over3 over4 _ _ _ _ a1 a2 (over_g3 pb) (neS_of rfl) (eqS_of rfl) (neS_of rfl) (neS_of rfl) (neS_of rfl)
  have g4 := sum_one pb overT _ _ _ g3 (neS_of rfl) (neS_of rfl)
  have g5 := cmp_one pb overT _ _ _ g4 (neS_of rfl) (neS_of rfl) (neS_of rfl) (neS_of rfl) (neS_of rfl) (neS_of rfl)
  have g6 := not_one pb overT _ _ _ g5 (neS_of rfl)
  have g7 := and_one pb overT _ _ _ g6 (neS_of rfl)
  have g8 := or_one pb overT _ _ _ g7 (neS_of rfl)
  exact expr_one pb overT _ _ _ g8 (neS_of rfl)
theorem over_parse (w : World) : Calls Tryz.prog 10 #[.string overT] w fun e w' => Below w.heap.size w w' ∧ e = .returned (.tuple #[joinN 6 ⟨#[47]⟩ (givN valB) (givN accB), .nilIface]) :=
  parse_ok overT over1 over4 _ _ w (by decide) over_g1 over_gives rfl

def restT : ByteArray := ⟨#[118, 97, 108, 37, 97, 99, 99]⟩
def rest1 : St := ⟨3, 2, 0, valB⟩
def rest2 : St := ⟨4, 2, 3, ⟨#[37]⟩⟩
def rest3 : St := ⟨7, 2, 4, accB⟩
def rest4 : St := ⟨7, 0, 7, ⟨#[]⟩⟩
theorem rest_g1 (pb : Nat) : Goes pb restT st0 rest1 := goes_word pb restT st0 3 valB (by decide) (by decide) (by rfl) (by decide) (by rfl) (by rfl) (by rfl) isWord_val
theorem rest_g2 (pb : Nat) : Goes pb restT rest1 rest2 := goes_sign pb restT rest1 37 (by decide) (by decide) ⟨by rfl, by rfl, by rfl, by rfl, by rfl, by decide⟩ (by decide) (by rfl) (by rfl) (by rfl) (by rfl)
theorem rest_g3 (pb : Nat) : Goes pb restT rest2 rest3 := goes_word pb restT rest2 3 accB (by decide) (by decide) (by rfl) (by decide) (by rfl) (by rfl) (by rfl) isWord_acc
theorem rest_g4 (pb : Nat) : Goes pb restT rest3 rest4 := goes_end pb restT rest3 (by decide) (by rfl)
theorem rest_gives (pb : Nat) : Gives 16 pb restT rest1 rest4 (joinN 6 ⟨#[37]⟩ (givN valB) (givN accB)) := by
  have a1 := neg_one pb restT _ _ _ (atom_val pb restT rest1 rest2 rfl rfl (rest_g2 pb)) (neS_of rfl)
  have a2 := neg_one pb restT _ _ _ (atom_acc pb restT rest3 rest4 rfl rfl (rest_g4 pb)) (neS_of rfl)
  have g3 : Gives 98 pb restT rest1 rest4 (joinN 6 ⟨#[37]⟩ (givN valB) (givN accB)) := term_two2 pb restT rest1 rest2 rest3 rest4 _ _ _ _ a1 a2 (rest_g3 pb) (neS_of rfl) (neS_of rfl) (eqS_of rfl) (neS_of rfl) (neS_of rfl) (neS_of rfl)
  have g4 := sum_one pb restT _ _ _ g3 (neS_of rfl) (neS_of rfl)
  have g5 := cmp_one pb restT _ _ _ g4 (neS_of rfl) (neS_of rfl) (neS_of rfl) (neS_of rfl) (neS_of rfl) (neS_of rfl)
  have g6 := not_one pb restT _ _ _ g5 (neS_of rfl)
  have g7 := and_one pb restT _ _ _ g6 (neS_of rfl)
  have g8 := or_one pb restT _ _ _ g7 (neS_of rfl)
  exact expr_one pb restT _ _ _ g8 (neS_of rfl)
theorem rest_parse (w : World) : Calls Tryz.prog 10 #[.string restT] w fun e w' => Below w.heap.size w w' ∧ e = .returned (.tuple #[joinN 6 ⟨#[37]⟩ (givN valB) (givN accB), .nilIface]) :=
  parse_ok restT rest1 rest4 _ _ w (by decide) rest_g1 rest_gives rfl

def oppT : ByteArray := ⟨#[45, 118, 97, 108]⟩
def opp1 : St := ⟨1, 2, 0, ⟨#[45]⟩⟩
def opp2 : St := ⟨4, 2, 1, valB⟩
def opp3 : St := ⟨4, 0, 4, ⟨#[]⟩⟩
theorem opp_g1 (pb : Nat) : Goes pb oppT st0 opp1 := goes_sign pb oppT st0 45 (by decide) (by decide) ⟨by rfl, by rfl, by rfl, by rfl, by rfl, by decide⟩ (by decide) (by rfl) (by rfl) (by rfl) (by rfl)
theorem opp_g2 (pb : Nat) : Goes pb oppT opp1 opp2 := goes_word pb oppT opp1 3 valB (by decide) (by decide) (by rfl) (by decide) (by rfl) (by rfl) (by rfl) isWord_val
theorem opp_g3 (pb : Nat) : Goes pb oppT opp2 opp3 := goes_end pb oppT opp2 (by decide) (by rfl)
theorem opp_gives (pb : Nat) : Gives 16 pb oppT opp1 opp3 (preN 7 ⟨#[45]⟩ (givN valB)) := by
  have a1 := neg_one pb oppT _ _ _ (atom_val pb oppT opp2 opp3 rfl rfl (opp_g3 pb)) (neS_of rfl)
  have a2 : Gives 124 pb oppT opp1 opp3 (preN 7 ⟨#[45]⟩ (givN valB)) := neg_minus pb oppT opp1 opp2 opp3 _ _ a1 (opp_g2 pb) (eqS_of rfl)
  have g3 := term_one pb oppT _ _ _ a2 (neS_of rfl) (neS_of rfl) (neS_of rfl)
  have g4 := sum_one pb oppT _ _ _ g3 (neS_of rfl) (neS_of rfl)
  have g5 := cmp_one pb oppT _ _ _ g4 (neS_of rfl) (neS_of rfl) (neS_of rfl) (neS_of rfl) (neS_of rfl) (neS_of rfl)
  have g6 := not_one pb oppT _ _ _ g5 (neS_of rfl)
  have g7 := and_one pb oppT _ _ _ g6 (neS_of rfl)
  have g8 := or_one pb oppT _ _ _ g7 (neS_of rfl)
  exact expr_one pb oppT _ _ _ g8 (neS_of rfl)
theorem opp_parse (w : World) : Calls Tryz.prog 10 #[.string oppT] w fun e w' => Below w.heap.size w w' ∧ e = .returned (.tuple #[preN 7 ⟨#[45]⟩ (givN valB), .nilIface]) :=
  parse_ok oppT opp1 opp3 _ _ w (by decide) opp_g1 opp_gives rfl

theorem meth_given : Meth 194 243 := fun x w => by kernel_rfl
theorem meth_joined : Meth 86 213 := fun x w => by kernel_rfl
theorem meth_prefixed : Meth 106 234 := fun x w => by kernel_rfl
theorem ent_given : Enters 243 := enters_of Tryz.func243 (by kernel_rfl) rfl
theorem ent_joined : Enters 213 := enters_of Tryz.func213 (by kernel_rfl) rfl
theorem ent_prefixed : Enters 234 := enters_of Tryz.func234 (by kernel_rfl) rfl
/-- Eval of the text -/
theorem plus_eval (a b n : Int) (ok : Bool) (ha : I64 a) (hb : I64 b) (hr : Recks 107 a b n ok) (w : World) : Calls Tryz.prog 9 #[.string plusT, recV a, intV b] w fun e w' => Below w.heap.size w w' ∧ e = .returned (.tuple #[iv (okK ok) (okI ok n), .nilIface]) :=
  eval_any plusT _ _ 213 a b _ _ w plus_parse (comp_joined 5 ⟨#[43]⟩ 194 194 _ _ 243 243 a b 1 a 1 b _ _ (joins_plus a b n ok hr) (comp_val a b ha) (comp_acc a b hb) ent_given ent_given meth_given meth_given) ent_joined meth_joined
/-- Eval of the text -/
theorem minus_eval (a b n : Int) (ok : Bool) (ha : I64 a) (hb : I64 b) (hr : Recks 219 a b n ok) (w : World) : Calls Tryz.prog 9 #[.string minusT, recV a, intV b] w fun e w' => Below w.heap.size w w' ∧ e = .returned (.tuple #[iv (okK ok) (okI ok n), .nilIface]) :=
  eval_any minusT _ _ 213 a b _ _ w minus_parse (comp_joined 5 ⟨#[45]⟩ 194 194 _ _ 243 243 a b 1 a 1 b _ _ (joins_minus a b n ok hr) (comp_val a b ha) (comp_acc a b hb) ent_given ent_given meth_given meth_given) ent_joined meth_joined
/-- Eval of the text -/
theorem times_eval (a b n : Int) (ok : Bool) (ha : I64 a) (hb : I64 b) (hr : Recks 220 a b n ok) (w : World) : Calls Tryz.prog 9 #[.string timesT, recV a, intV b] w fun e w' => Below w.heap.size w w' ∧ e = .returned (.tuple #[iv (okK ok) (okI ok n), .nilIface]) :=
  eval_any timesT _ _ 213 a b _ _ w times_parse (comp_joined 6 ⟨#[42]⟩ 194 194 _ _ 243 243 a b 1 a 1 b _ _ (joins_times a b n ok hr) (comp_val a b ha) (comp_acc a b hb) ent_given ent_given meth_given meth_given) ent_joined meth_joined
/-- Eval of the text -/
theorem over_eval (a b n : Int) (ok : Bool) (ha : I64 a) (hb : I64 b) (hr : Recks 221 a b n ok) (w : World) : Calls Tryz.prog 9 #[.string overT, recV a, intV b] w fun e w' => Below w.heap.size w w' ∧ e = .returned (.tuple #[iv (okK ok) (okI ok n), .nilIface]) :=
  eval_any overT _ _ 213 a b _ _ w over_parse (comp_joined 6 ⟨#[47]⟩ 194 194 _ _ 243 243 a b 1 a 1 b _ _ (joins_over a b n ok hr) (comp_val a b ha) (comp_acc a b hb) ent_given ent_given meth_given meth_given) ent_joined meth_joined
/-- Eval of the text -/
theorem rest_eval (a b n : Int) (ok : Bool) (ha : I64 a) (hb : I64 b) (hr : Recks 222 a b n ok) (w : World) : Calls Tryz.prog 9 #[.string restT, recV a, intV b] w fun e w' => Below w.heap.size w w' ∧ e = .returned (.tuple #[iv (okK ok) (okI ok n), .nilIface]) :=
  eval_any restT _ _ 213 a b _ _ w rest_parse (comp_joined 6 ⟨#[37]⟩ 194 194 _ _ 243 243 a b 1 a 1 b _ _ (joins_rest a b n ok hr) (comp_val a b ha) (comp_acc a b hb) ent_given ent_given meth_given meth_given) ent_joined meth_joined
theorem opp_eval (a b n : Int) (ok : Bool) (ha : I64 a) (hr : Recks 219 0 a n ok) (w : World) : Calls Tryz.prog 9 #[.string oppT, recV a, intV b] w fun e w' => Below w.heap.size w w' ∧ e = .returned (.tuple #[iv (okK ok) (okI ok n), .nilIface]) :=
  eval_any oppT _ _ 234 a b _ _ w opp_parse (comp_neg 194 _ 243 a b a n ok hr (comp_val a b ha) ent_given meth_given) ent_prefixed meth_prefixed
end Go.Proofs.YtieknmpdmdbdlaaGreatDoor
