import Derived.Test.YtikfpoabaaiegaaPack26
namespace Go.Proofs.Ytikfpoabaaiegaa
open Go.RowKit
set_option maxRecDepth 8000
def Ext (g g' : Bg) : Prop := ∃ N K V, g'.N = g.N ++ N ∧ g'.K = g.K ++ K ∧ g'.V = g.V ++ V
theorem Ext.refl (g : Bg) : Ext g g := ⟨[], [], [], by simp, by simp, by simp⟩
theorem Ext.trans {a b c : Bg} (h : Ext a b) (k : Ext b c) : Ext a c := by
  obtain ⟨N, K, V, h1, h2, h3⟩ := h
  obtain ⟨N2, K2, V2, k1, k2, k3⟩ := k
  exact ⟨N ++ N2, K ++ K2, V ++ V2, by rw [k1, h1, List.append_assoc], by rw [k2, h2, List.append_assoc], by rw [k3, h3, List.append_assoc]⟩
theorem piece_ext {c : Nat} {g g' : Bg} {L R : List Int} (h : pieceR c g L = .ok (g', R)) : Ext g g' := by
  unfold pieceR at h
  split at h
  · obtain ⟨x, T, _, hx⟩ := bind_some h; cases hx; exact Ext.refl _
  split at h
  · obtain ⟨x, T, _, hx⟩ := bind_some h; cases hx; exact ⟨[], [x], [], by simp, by simp, by simp⟩
  split at h
  · obtain ⟨x, T, _, hx⟩ := bind_some h; cases hx; exact ⟨[], [], [x], by simp, by simp, by simp⟩
  split at h
  · obtain ⟨x, T, _, hx⟩ := bind_some h; cases hx; exact ⟨[(x : Int)], [], [], by simp, by simp, by simp⟩
  · obtain ⟨x, T, _, hx⟩ := bind_some h; cases hx; exact ⟨[(x : Int)], [], [], by simp, by simp, by simp⟩
theorem rep_ext {one : Bg → RS Bg} (h1 : ∀ g g' L R, one g L = .ok (g', R) → Ext g g') : ∀ (n : Nat) (g g' : Bg) (L R : List Int), repR one n g L = .ok (g', R) → Ext g g'
  | 0, _, _, _, _, h => by cases h; exact Ext.refl _
  | n + 1, g, g', L, R, h => by
    obtain ⟨x, T, ha, hb⟩ := bind_some h
    exact (rep_ext h1 n g x L T ha).trans (h1 x g' T R hb)
theorem rise_ext {one : Bg → RS Bg} (h1 : ∀ g g' L R, one g L = .ok (g', R) → Ext g g') : ∀ (n : Nat) (g g' : Bg) (k : Option ByteArray) (L R : List Int), riseR one n g L = .ok ((g', k), R) → Ext g g'
  | 0, _, _, _, _, _, h => by cases h; exact Ext.refl _
  | n + 1, g, g', k, L, R, h => by
    obtain ⟨x, T, ha, hb⟩ := bind_some h
    obtain ⟨y, T2, hc, hd⟩ := bind_some hb
    obtain ⟨z, T3, he, hf⟩ := bind_some hd
    cases hf
    obtain ⟨x1, x2⟩ := x
    exact ((rise_ext h1 n g x1 x2 L T ha).trans ⟨[], [y], [], by simp, by simp, by simp⟩).trans (h1 _ _ _ _ he)
theorem walk_ext : ∀ (F : Nat) (l : List Nat) (g g' : Bg) (L R : List Int), walkR F l g L = .ok (g', R) → Ext g g' := by
  intro F
  induction F with
  | zero =>
    intro l g g' L R h
    cases l with
    | nil => cases h; exact Ext.refl _
    | cons c cs => cases h
  | succ F ih =>
    intro l g g' L R h
    cases l with
    | nil => cases h; exact Ext.refl _
    | cons c cs =>
      by_cases hc : c = 91 ∨ c = 60
      · obtain ⟨m, _, _, _, _, e⟩ := walkR_list (L := L) hc (by rw [h]; simp)
        rw [e] at h
        obtain ⟨x, T, ha, hb⟩ := bind_some h
        obtain ⟨y, T2, hc2, hd⟩ := bind_some hb
        refine (piece_ext ha).trans (Ext.trans ?_ (ih _ _ _ _ _ hd))
        split at hc2
        · exact rep_ext (fun g g' L R => ih _ g g' L R) _ _ _ _ _ hc2
        · obtain ⟨z, T3, he, hf⟩ := bind_some hc2
          cases hf
          obtain ⟨z1, z2⟩ := z
          exact rise_ext (fun g g' L R => ih _ g g' L R) _ _ _ _ _ _ he
      · rw [walkR_piece hc] at h
        obtain ⟨x, T, ha, hb⟩ := bind_some h
        exact (piece_ext ha).trans (ih _ _ _ _ _ hb)
theorem numG_err {bound : Nat} : ∀ (k i u : Nat) (L : List Int) (e : Nat), numG bound k i u L = .error e → e = 40 ∨ e = 41 ∨ e = 43
  | 0, _, _, _, _, h => by cases h; omega
  | k + 1, i, u, L, e, h => by
    unfold numG at h
    unfold bindS at h
    unfold takeS at h
    split at h
    · rename_i e2 he2
      split at he2
      · cases he2
      · cases he2; cases h; omega
    · simp only at h
      split at h
      · split at h
        · cases h; omega
        · split at h
          · cases h; omega
          · cases h
      · exact numG_err k _ _ _ e h
theorem key_err {L : List Int} {e : Nat} (h : keyS L = .error e) : e = 40 ∨ e = 41 ∨ e = 43 := by
  unfold keyS at h
  cases hn : numS 12 L with
  | error k => rw [bind_bad hn] at h; cases h; exact numG_err _ _ _ _ _ hn
  | ok z =>
    obtain ⟨n, T⟩ := z
    rw [bind_get hn] at h
    unfold bindS takeS at h
    split at h
    · rename_i e2 he2
      split at he2
      · cases he2
      · cases he2; cases h; omega
    · cases h
theorem walk_key (g : Bg) : walkR 1 (txL ⟨#[107]⟩) g = bindS keyS fun k => retS ⟨g.N, g.K ++ [k], g.V⟩ := by
  funext L
  show walkR 1 [107] g L = _
  rw [walkR_piece (by decide)]
  show bindS (bindS keyS fun k => retS ⟨g.N, g.K ++ [k], g.V⟩) (fun g1 => walkR 0 [] g1) L = _
  cases hk : keyS L with
  | error e => rw [bind_bad (bind_bad hk), bind_bad hk]
  | ok z =>
    obtain ⟨k, T⟩ := z
    rw [bind_get (bind_get hk), bind_get hk]
    rfl
end Go.Proofs.Ytikfpoabaaiegaa
