import Derived.Test.YtehmifdgfgngdacDoorScan
import Derived.Test.YtehmifdgfgngdacDoorFrames
namespace Go.Proofs.YtehmifdgfgngdacDoor

/-- frames, one behind the other -/
def logOf (zss : List (List Int)) : List Int := zss.flatMap frameOf
theorem logOf_append (a b : List (List Int)) : logOf (a ++ b) = logOf a ++ logOf b := by unfold logOf; rw [List.flatMap_append]
theorem logOf_one (z : List Int) : logOf [z] = frameOf z := by unfold logOf; simp
theorem logOf_byte (zss : List (List Int)) (hm : ∀ z ∈ zss, z.length ≤ 32768) (hb : ∀ z ∈ zss, ∀ x ∈ z, 0 ≤ x ∧ x < 256) : ∀ x ∈ logOf zss, 0 ≤ x ∧ x < 256 := by
  intro x hx
  obtain ⟨z, hz, hxz⟩ := List.mem_flatMap.1 hx
  exact frameOf_byte z (hm z hz) (hb z hz) x hxz
theorem take_succ_l (zss : List (List Int)) (k : Nat) (hk : k < zss.length) : zss.take (k + 1) = zss.take k ++ [zss.getD k []] := by
  rw [List.take_add_one, List.getD_eq_getElem?_getD, List.getElem?_eq_getElem hk]; rfl
theorem logOf_take_succ (zss : List (List Int)) (k : Nat) (hk : k < zss.length) : logOf (zss.take (k + 1)) = logOf (zss.take k) ++ frameOf (zss.getD k []) := by
  rw [take_succ_l zss k hk, logOf_append, logOf_one]
theorem logOf_len_succ (zss : List (List Int)) (k : Nat) (hk : k < zss.length) : (logOf (zss.take (k + 1))).length = (logOf (zss.take k)).length + (zss.getD k []).length + 8 := by
  rw [logOf_take_succ zss k hk, List.length_append, frameOf_length]; omega
theorem logOf_len8 (zss : List (List Int)) : 8 * zss.length ≤ (logOf zss).length := by
  induction zss with
  | nil => simp
  | cons z r ih =>
    have : logOf (z :: r) = frameOf z ++ logOf r := rfl
    rw [this, List.length_append, frameOf_length, List.length_cons]; omega
theorem logOf_split (zss : List (List Int)) (k : Nat) : logOf zss = logOf (zss.take k) ++ logOf (zss.drop k) := by rw [← logOf_append, List.take_append_drop]
theorem logOf_drop_cons (zss : List (List Int)) (k : Nat) (hk : k < zss.length) : logOf (zss.drop k) = frameOf (zss.getD k []) ++ logOf (zss.drop (k + 1)) := by
  rw [List.drop_eq_getElem_cons hk]
  show frameOf zss[k] ++ logOf (zss.drop (k + 1)) = _
  rw [List.getD_eq_getElem?_getD, List.getElem?_eq_getElem hk]; rfl
theorem getD_mem_l (zss : List (List Int)) (k : Nat) (hk : k < zss.length) : zss.getD k [] ∈ zss := by
  rw [List.getD_eq_getElem?_getD, List.getElem?_eq_getElem hk]; exact List.getElem_mem hk

/-- behind whole frames a log is read on as if it began there -/
theorem scanN_log (zss : List (List Int)) (r : List Int) (hm : ∀ z ∈ zss, z.length ≤ 32768) (k : Nat) (hk : k ≤ zss.length) : scanN (logOf zss ++ r) k = (zss.take k, (logOf (zss.take k)).length) := by
  induction k with
  | zero => rfl
  | succ k ih =>
    have hlt : k < zss.length := by omega
    have e := ih (by omega)
    have hd : (logOf zss ++ r).drop (logOf (zss.take k)).length = frameOf (zss.getD k []) ++ (logOf (zss.drop (k + 1)) ++ r) := by
      rw [logOf_split zss k, List.append_assoc, List.drop_left, logOf_drop_cons zss k hlt, List.append_assoc]
    have hu : unw ((logOf zss ++ r).drop (logOf (zss.take k)).length) = (0, zss.getD k []) := by rw [hd]; exact unw_frame _ _ (hm _ (getD_mem_l zss k hlt))
    have hl : (logOf (zss.take k)).length < (logOf zss ++ r).length := by
      have := logOf_len_succ zss k hlt
      have h2 : (logOf (zss.take (k + 1))).length ≤ (logOf zss).length := by rw [logOf_split zss (k + 1), List.length_append]; omega
      rw [List.length_append]; omega
    rw [scanN_go (by rw [e]; exact hl) (by rw [e, hu]), e, hu, take_succ_l zss k hlt]
    show _ = _
    rw [logOf_append, logOf_one, List.length_append, frameOf_length]
    congr 1

theorem scan_log_end (zss : List (List Int)) (r : List Int) (hm : ∀ z ∈ zss, z.length ≤ 32768) (hr : r = [] ∨ (unw r).1 ≠ 0) :
    scanL (logOf zss ++ r) = zss ∧ scanP (logOf zss ++ r) = (logOf zss).length ∧ scanE (logOf zss ++ r) = (if r = [] then 0 else (unw r).1) := by
  have e := scanN_log zss r hm zss.length (Nat.le_refl _)
  rw [List.take_length] at e
  have h8 := logOf_len8 zss
  have hstop : ¬ ((scanN (logOf zss ++ r) zss.length).2 < (logOf zss ++ r).length ∧ (unw ((logOf zss ++ r).drop (scanN (logOf zss ++ r) zss.length).2)).1 = 0) := by
    rw [e]
    rintro ⟨h1, h2⟩
    rw [List.drop_left] at h2
    rcases hr with rfl | hr
    · simp at h1
    · exact hr h2
  have hx := scanN_end (by rw [List.length_append]; omega) hstop
  rw [e] at hx
  refine ⟨hx.1, hx.2, ?_⟩
  unfold scanE
  rw [hx.2]
  by_cases h0 : r = []
  · subst h0; simp
  · have hp : 0 < r.length := List.length_pos_iff.2 h0
    rw [if_pos (by rw [List.length_append]; show (logOf zss).length < _; omega), if_neg h0, List.drop_left]

/-- a frame that is cut short -/
theorem unw_prefix (z : List Int) (t : Nat) (hm : z.length ≤ 32768) (ht : t < z.length + 8) : (unw ((frameOf z).take t)).1 = 11 := by
  have hl : ((frameOf z).take t).length = t := by rw [List.length_take, frameOf_length]; omega
  by_cases h4 : t < 4
  · rw [unw_short (by omega)]
  · have hh : ((frameOf z).take t).take 4 = hd z.length := by
      rw [List.take_take, Nat.min_eq_left (by omega)]
      unfold frameOf
      rw [List.append_assoc]
      exact take4_hd _ _
    rw [unw_cut (by omega) hm hh (by omega)]

/-- a log of whole frames, cut at a place between the end of frame j and that of the next one -/
theorem scan_torn (zss : List (List Int)) (cut j : Nat) (hm : ∀ z ∈ zss, z.length ≤ 32768) (_hj : j ≤ zss.length) (h1 : (logOf (zss.take j)).length ≤ cut) (h2 : cut ≤ (logOf zss).length) (h3 : j < zss.length → cut < (logOf (zss.take (j + 1))).length) :
    scanL ((logOf zss).take cut) = zss.take j ∧ scanP ((logOf zss).take cut) = (logOf (zss.take j)).length ∧ scanE ((logOf zss).take cut) = (if cut = (logOf (zss.take j)).length then 0 else 11) := by
  have e : (logOf zss).take cut = logOf (zss.take j) ++ (logOf (zss.drop j)).take (cut - (logOf (zss.take j)).length) := by
    conv => lhs; rw [logOf_split zss j]
    rw [List.take_append, List.take_of_length_le h1]
  have hm' : ∀ z ∈ zss.take j, z.length ≤ 32768 := fun z hz => hm z (List.mem_of_mem_take hz)
  by_cases hc : cut = (logOf (zss.take j)).length
  · rw [e, show cut - (logOf (zss.take j)).length = 0 by omega, List.take_zero]
    have h := scan_log_end (zss.take j) [] hm' (.inl rfl)
    rw [if_pos hc]
    simpa using h
  · have hlt : j < zss.length := by
      rcases Nat.lt_or_ge j zss.length with h | h
      · exact h
      · rw [List.take_of_length_le h] at h1 hc; omega
    have h3' := h3 hlt
    rw [logOf_len_succ zss j hlt] at h3'
    have er : (logOf (zss.drop j)).take (cut - (logOf (zss.take j)).length) = (frameOf (zss.getD j [])).take (cut - (logOf (zss.take j)).length) := by
      rw [logOf_drop_cons zss j hlt, List.take_append_of_le_length (by rw [frameOf_length]; omega)]
    have hu := unw_prefix (zss.getD j []) (cut - (logOf (zss.take j)).length) (hm _ (getD_mem_l zss j hlt)) (by omega)
    rw [e, er]
    have h := scan_log_end (zss.take j) ((frameOf (zss.getD j [])).take (cut - (logOf (zss.take j)).length)) hm' (.inr (by rw [hu]; omega))
    rw [if_neg hc]
    rw [if_neg (by
      intro h0
      have := congrArg List.length h0
      rw [List.length_take, frameOf_length] at this
      simp at this
      omega), hu] at h
    exact h
end Go.Proofs.YtehmifdgfgngdacDoor
